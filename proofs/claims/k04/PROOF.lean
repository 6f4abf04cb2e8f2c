import PyProof.Rows.All
import Wide.All
import OpenK.AllK
import Wide.FinOn
import Lean
import PyProof.EqAt
import PyProof.EqKinds
import PyProof.TupleCall
import PyProof.NeKinds
import PyProof.Rows.SortStr
import PyProof.Rows.SeqMore
import PyProof.Rows.CatFin
import PyProof.MeetsStr
import PyProof.Rows.SumAny
import PyProof.Rows.SortShell
import PyProof.Rows.SetFrom
import PyProof.DictWalks
import PyProof.Rows.SortReads
import KE.KDictSum
import PyProof.ZipIter
import PyProof.Rows.ZipGen
import PySem.Challenge.RW_likepieces_k04_pieces_put_in
import PyProof.ReprBulk
import PyProof.TupleOfGen
import PyProof.TupleOfStr
import KE.KIsAll
set_option Elab.async false
set_option linter.all false
set_option maxRecDepth 100000
set_option maxHeartbeats 4000000
namespace L2
open PySem
def defArgs (s : Stmt) : Arguments := match s with
  | .FunctionDef _ a _ _ _ _ _ _ _ _ => a
  | _ => { posonlyargs := [], args := [], vararg := none, kwonlyargs := [], kw_defaults := [], kwarg := none, defaults := [] }
def defBody (s : Stmt) : List Stmt := match s with
  | .FunctionDef _ _ b _ _ _ _ _ _ _ => b
  | _ => []
def defScope (s : Stmt) : Scope := match s with
  | .FunctionDef _ _ _ _ _ _ sc _ _ _ => sc
  | _ => { kind := .function, names := [], isGenerator := false, isCoroutine := false }
def clsBody (s : Stmt) : List Stmt := match s with
  | .ClassDef _ _ _ b _ _ _ _ _ _ _ => b
  | _ => []
end L2
namespace K04
open PySem L2
def top (i : Nat) : Stmt := PySem.Challenge.pw_likepieces_k04_pieces_put_in.main.body.getD i (.Pass ⟨0, 0, 0, 0⟩)
def clsDef (i j : Nat) : Stmt := (clsBody (top i)).getD j (.Pass ⟨0, 0, 0, 0⟩)
def hdQ : Program := { PySem.Challenge.pw_likepieces_k04_pieces_put_in with main := { PySem.Challenge.pw_likepieces_k04_pieces_put_in.main with body := [top 1, top 2, top 3, top 4, top 5, top 6, top 7, top 8, top 9, top 10, top 11, top 12, top 14, top 15, top 16, top 17, top 18, top 19, top 21, top 22, top 23, top 24, top 25, top 26, top 27, top 28, top 29, top 30, top 31, top 32, top 33, top 34, top 35, top 36, top 37, top 38] } }
def hdK : Params → PySem.W.Frag := fun P =>
  (nat_lit 2, ⟨.none, none, (.dict #[] 0), #[]⟩) ::
  (nat_lit 3, ⟨(.type "dict"), none, (.dict #[⟨(PySem.PyData.keyHash P "__name__"), (.str "__name__" 165), (.str "law_likepieces_k04_pieces_put_in" 508)⟩, ⟨(PySem.PyData.keyHash P "__doc__"), (.str "__doc__" 166), .none⟩, ⟨(PySem.PyData.keyHash P "__package__"), (.str "__package__" 167), .none⟩, ⟨(PySem.PyData.keyHash P "__loader__"), (.str "__loader__" 168), (.builtin "__main__.__loader__#opaque")⟩, ⟨(PySem.PyData.keyHash P "__spec__"), (.str "__spec__" 169), .none⟩, ⟨(PySem.PyData.keyHash P "__annotations__"), (.str "__annotations__" 170), (.ref 6)⟩, ⟨(PySem.PyData.keyHash P "__builtins__"), (.str "__builtins__" 171), (.ref 4)⟩, ⟨(PySem.PyData.keyHash P "__file__"), (.str "__file__" 173), (.str "/claim/cut.py" 172)⟩, ⟨(PySem.PyData.keyHash P "__cached__"), (.str "__cached__" 174), .none⟩, ⟨(PySem.PyData.keyHash P "LikeError"), (.str "LikeError" 215), (.ref 32)⟩, ⟨(PySem.PyData.keyHash P "NoPlace"), (.str "NoPlace" 240), (.ref 52)⟩, ⟨(PySem.PyData.keyHash P "NoFunction"), (.str "NoFunction" 265), (.ref 71)⟩, ⟨(PySem.PyData.keyHash P "NoText"), (.str "NoText" 290), (.ref 90)⟩, ⟨(PySem.PyData.keyHash P "NoLine"), (.str "NoLine" 317), (.ref 109)⟩, ⟨(PySem.PyData.keyHash P "NoTable"), (.str "NoTable" 344), (.ref 128)⟩, ⟨(PySem.PyData.keyHash P "NoPut"), (.str "NoPut" 373), (.ref 147)⟩, ⟨(PySem.PyData.keyHash P "NoExchange"), (.str "NoExchange" 389), (.ref 159)⟩, ⟨(PySem.PyData.keyHash P "NoBare"), (.str "NoBare" 405), (.ref 171)⟩, ⟨(PySem.PyData.keyHash P "NoFill"), (.str "NoFill" 421), (.ref 183)⟩, ⟨(PySem.PyData.keyHash P "NoPlaces"), (.str "NoPlaces" 437), (.ref 195)⟩, ⟨(PySem.PyData.keyHash P "NoRow"), (.str "NoRow" 453), (.ref 207)⟩, ⟨(PySem.PyData.keyHash P "is_whole"), (.str "is_whole" 462), (.ref 216)⟩, ⟨(PySem.PyData.keyHash P "head"), (.str "head" 468), (.ref 221)⟩, ⟨(PySem.PyData.keyHash P "parts"), (.str "parts" 474), (.ref 226)⟩, ⟨(PySem.PyData.keyHash P "way"), (.str "way" 485), (.ref 233)⟩, ⟨(PySem.PyData.keyHash P "piece"), (.str "piece" 493), (.ref 240)⟩, ⟨(PySem.PyData.keyHash P "with_piece"), (.str "with_piece" 507), (.ref 247)⟩, ⟨(PySem.PyData.keyHash P "_law_feed"), (.str "_law_feed" 516), (.ref 254)⟩, ⟨(PySem.PyData.keyHash P "_law_draw"), (.str "_law_draw" 528), (.ref 261)⟩, ⟨(PySem.PyData.keyHash P "_law_one"), (.str "_law_one" 536), (.ref 268)⟩, ⟨(PySem.PyData.keyHash P "_law_value"), (.str "_law_value" 544), (.ref 275)⟩, ⟨(PySem.PyData.keyHash P "_law_spelled"), (.str "_law_spelled" 554), (.ref 282)⟩, ⟨(PySem.PyData.keyHash P "_law_words"), (.str "_law_words" 560), (.ref 289)⟩, ⟨(PySem.PyData.keyHash P "_law_name"), (.str "_law_name" 566), (.ref 294)⟩, ⟨(PySem.PyData.keyHash P "_law_names"), (.str "_law_names" 576), (.ref 301)⟩, ⟨(PySem.PyData.keyHash P "_law_parts"), (.str "_law_parts" 582), (.ref 306)⟩, ⟨(PySem.PyData.keyHash P "_law_with"), (.str "_law_with" 588), (.ref 311)⟩, ⟨(PySem.PyData.keyHash P "_law_leaf"), (.str "_law_leaf" 598), (.ref 318)⟩, ⟨(PySem.PyData.keyHash P "_law_expr"), (.str "_law_expr" 604), (.ref 323)⟩, ⟨(PySem.PyData.keyHash P "_law_world"), (.str "_law_world" 616), (.ref 330)⟩, ⟨(PySem.PyData.keyHash P "_law_all_paths"), (.str "_law_all_paths" 622), (.ref 335)⟩, ⟨(PySem.PyData.keyHash P "_law_swapped"), (.str "_law_swapped" 632), (.ref 342)⟩, ⟨(PySem.PyData.keyHash P "_law_refused"), (.str "_law_refused" 643), (.ref 349)⟩, ⟨(PySem.PyData.keyHash P "_law_nowhere"), (.str "_law_nowhere" 656), (.ref 356)⟩, ⟨(PySem.PyData.keyHash P "law"), (.str "law" 662), (.ref 361)⟩] 45), #[]⟩) ::
  (nat_lit 15, ⟨(.type "tuple"), none, (.seq #[(.type "ValueError")] 0), #[]⟩) ::
  (nat_lit 22, ⟨(.type "tuple"), none, (.seq #[(.str "" 201)] 0), #[]⟩) ::
  (nat_lit 23, ⟨(.type "tuple"), none, (.seq #[] 0), #[]⟩) ::
  (nat_lit 25, ⟨(.type "tuple"), none, (.seq #[(.str "self" 205), (.str "words" 206)] 0), #[]⟩) ::
  (nat_lit 26, ⟨(.type "tuple"), none, (.seq #[] 0), #[]⟩) ::
  (nat_lit 28, ⟨(.type "code"), none, (.fields #[(.str "__init__" 202), (.str "LikeError.__init__" 203), (.str "/claim/cut.py" 204), (.int 4 0), (.int 2 0), (.int 0 0), (.int 0 0), (.int 3 0), (.ref 23), (.bool true), (.int 181 0), (.ref 24), .none, (.ref 25), (.ref 26), (.ref 27), (.int 207 0), (.int 4 0), (.str "/claim/cut.py" 208)]), #[]⟩) ::
  (nat_lit 29, ⟨(.type "function"), none, (.func (PySem.W.fnOf "__init__" "LikeError.__init__" (defArgs (clsDef 1 0)) (defBody (clsDef 1 0)) (defScope (clsDef 1 0)) (.ref 22) .none .none (.str "likepieces.errors" 187) none (.ref 28) .none)), #[]⟩) ::
  (nat_lit 30, ⟨(.type "tuple"), none, (.seq #[] 0), #[]⟩) ::
  (nat_lit 31, ⟨(.type "dict"), none, (.dict #[⟨(PySem.PyData.keyHash P "__module__"), (.str "__module__" 196), (.str "likepieces.errors" 187)⟩, ⟨(PySem.PyData.keyHash P "__firstlineno__"), (.str "__firstlineno__" 200), (.int 2 199)⟩, ⟨(PySem.PyData.keyHash P "__init__"), (.str "__init__" 209), (.ref 29)⟩, ⟨(PySem.PyData.keyHash P "__static_attributes__"), (.str "__static_attributes__" 210), (.ref 30)⟩, ⟨(PySem.PyData.keyHash P "__weakref__"), (.str "__weakref__" 212), (.ref 33)⟩, ⟨(PySem.PyData.keyHash P "__doc__"), (.str "__doc__" 213), .none⟩] 3), #[]⟩) ::
  (nat_lit 32, ⟨(.type "type"), none, (.cls ⟨"LikeError", [(.type "ValueError")], [(.ref 32), (.type "ValueError"), (.type "Exception"), (.type "BaseException"), (.type "object")], 31, "LikeError", true, [], [(.ref 52), (.ref 71), (.ref 90), (.ref 109), (.ref 128), (.ref 147), (.ref 159), (.ref 171), (.ref 183), (.ref 195), (.ref 207)], false, none, false⟩), #[(some (.ref 15)), none, (some (.str "LikeError" 189)), (some (.str "LikeError" 197)), (some (.builtin "ValueError.__new__")), (some (.bool true))]⟩) ::
  (nat_lit 33, ⟨(.type "getset_descriptor"), none, (.fields #[(.str "__weakref__" 211), (.ref 32), (.builtin "ExceptionGroup.__weakref__"), .none]), #[]⟩) ::
  (nat_lit 36, ⟨(.type "tuple"), none, (.seq #[(.ref 32)] 0), #[]⟩) ::
  (nat_lit 43, ⟨(.type "tuple"), none, (.seq #[] 0), #[]⟩) ::
  (nat_lit 45, ⟨(.type "tuple"), none, (.seq #[(.str "self" 231), (.str "place" 232)] 0), #[]⟩) ::
  (nat_lit 46, ⟨(.type "tuple"), none, (.seq #[] 0), #[]⟩) ::
  (nat_lit 48, ⟨(.type "code"), none, (.fields #[(.str "__init__" 228), (.str "NoPlace.__init__" 229), (.str "/claim/cut.py" 230), (.int 8 0), (.int 2 0), (.int 0 0), (.int 0 0), (.int 3 0), (.ref 43), (.bool true), (.int 181 0), (.ref 44), .none, (.ref 45), (.ref 46), (.ref 47), (.int 233 0), (.int 8 0), (.str "/claim/cut.py" 234)]), #[]⟩) ::
  (nat_lit 49, ⟨(.type "function"), none, (.func (PySem.W.fnOf "__init__" "NoPlace.__init__" (defArgs (clsDef 2 0)) (defBody (clsDef 2 0)) (defScope (clsDef 2 0)) .none .none .none (.str "likepieces.errors" 187) none (.ref 48) .none)), #[]⟩) ::
  (nat_lit 50, ⟨(.type "tuple"), none, (.seq #[(.str "place" 236)] 0), #[]⟩) ::
  (nat_lit 51, ⟨(.type "dict"), none, (.dict #[⟨(PySem.PyData.keyHash P "__module__"), (.str "__module__" 223), (.str "likepieces.errors" 187)⟩, ⟨(PySem.PyData.keyHash P "__firstlineno__"), (.str "__firstlineno__" 227), (.int 6 226)⟩, ⟨(PySem.PyData.keyHash P "__init__"), (.str "__init__" 235), (.ref 49)⟩, ⟨(PySem.PyData.keyHash P "__static_attributes__"), (.str "__static_attributes__" 237), (.ref 50)⟩, ⟨(PySem.PyData.keyHash P "__doc__"), (.str "__doc__" 238), .none⟩] 2), #[]⟩) ::
  (nat_lit 52, ⟨(.type "type"), none, (.cls ⟨"NoPlace", [(.ref 32)], [(.ref 52), (.ref 32), (.type "ValueError"), (.type "Exception"), (.type "BaseException"), (.type "object")], 51, "NoPlace", true, [], [], false, none, false⟩), #[(some (.ref 36)), none, (some (.str "NoPlace" 216)), (some (.str "NoPlace" 224)), (some (.builtin "ValueError.__new__")), (some (.bool true))]⟩) ::
  (nat_lit 55, ⟨(.type "tuple"), none, (.seq #[(.ref 32)] 0), #[]⟩) ::
  (nat_lit 62, ⟨(.type "tuple"), none, (.seq #[] 0), #[]⟩) ::
  (nat_lit 64, ⟨(.type "tuple"), none, (.seq #[(.str "self" 256), (.str "name" 257)] 0), #[]⟩) ::
  (nat_lit 65, ⟨(.type "tuple"), none, (.seq #[] 0), #[]⟩) ::
  (nat_lit 67, ⟨(.type "code"), none, (.fields #[(.str "__init__" 253), (.str "NoFunction.__init__" 254), (.str "/claim/cut.py" 255), (.int 13 0), (.int 2 0), (.int 0 0), (.int 0 0), (.int 3 0), (.ref 62), (.bool true), (.int 181 0), (.ref 63), .none, (.ref 64), (.ref 65), (.ref 66), (.int 258 0), (.int 13 0), (.str "/claim/cut.py" 259)]), #[]⟩) ::
  (nat_lit 68, ⟨(.type "function"), none, (.func (PySem.W.fnOf "__init__" "NoFunction.__init__" (defArgs (clsDef 3 0)) (defBody (clsDef 3 0)) (defScope (clsDef 3 0)) .none .none .none (.str "likepieces.errors" 187) none (.ref 67) .none)), #[]⟩) ::
  (nat_lit 69, ⟨(.type "tuple"), none, (.seq #[(.str "name" 261)] 0), #[]⟩) ::
  (nat_lit 70, ⟨(.type "dict"), none, (.dict #[⟨(PySem.PyData.keyHash P "__module__"), (.str "__module__" 248), (.str "likepieces.errors" 187)⟩, ⟨(PySem.PyData.keyHash P "__firstlineno__"), (.str "__firstlineno__" 252), (.int 11 251)⟩, ⟨(PySem.PyData.keyHash P "__init__"), (.str "__init__" 260), (.ref 68)⟩, ⟨(PySem.PyData.keyHash P "__static_attributes__"), (.str "__static_attributes__" 262), (.ref 69)⟩, ⟨(PySem.PyData.keyHash P "__doc__"), (.str "__doc__" 263), .none⟩] 2), #[]⟩) ::
  (nat_lit 71, ⟨(.type "type"), none, (.cls ⟨"NoFunction", [(.ref 32)], [(.ref 71), (.ref 32), (.type "ValueError"), (.type "Exception"), (.type "BaseException"), (.type "object")], 70, "NoFunction", true, [], [], false, none, false⟩), #[(some (.ref 55)), none, (some (.str "NoFunction" 241)), (some (.str "NoFunction" 249)), (some (.builtin "ValueError.__new__")), (some (.bool true))]⟩) ::
  (nat_lit 74, ⟨(.type "tuple"), none, (.seq #[(.ref 32)] 0), #[]⟩) ::
  (nat_lit 81, ⟨(.type "tuple"), none, (.seq #[] 0), #[]⟩) ::
  (nat_lit 83, ⟨(.type "tuple"), none, (.seq #[(.str "self" 281), (.str "at" 282)] 0), #[]⟩) ::
  (nat_lit 84, ⟨(.type "tuple"), none, (.seq #[] 0), #[]⟩) ::
  (nat_lit 86, ⟨(.type "code"), none, (.fields #[(.str "__init__" 278), (.str "NoText.__init__" 279), (.str "/claim/cut.py" 280), (.int 18 0), (.int 2 0), (.int 0 0), (.int 0 0), (.int 3 0), (.ref 81), (.bool true), (.int 181 0), (.ref 82), .none, (.ref 83), (.ref 84), (.ref 85), (.int 283 0), (.int 18 0), (.str "/claim/cut.py" 284)]), #[]⟩) ::
  (nat_lit 87, ⟨(.type "function"), none, (.func (PySem.W.fnOf "__init__" "NoText.__init__" (defArgs (clsDef 4 0)) (defBody (clsDef 4 0)) (defScope (clsDef 4 0)) .none .none .none (.str "likepieces.errors" 187) none (.ref 86) .none)), #[]⟩) ::
  (nat_lit 88, ⟨(.type "tuple"), none, (.seq #[(.str "at" 286)] 0), #[]⟩) ::
  (nat_lit 89, ⟨(.type "dict"), none, (.dict #[⟨(PySem.PyData.keyHash P "__module__"), (.str "__module__" 273), (.str "likepieces.errors" 187)⟩, ⟨(PySem.PyData.keyHash P "__firstlineno__"), (.str "__firstlineno__" 277), (.int 16 276)⟩, ⟨(PySem.PyData.keyHash P "__init__"), (.str "__init__" 285), (.ref 87)⟩, ⟨(PySem.PyData.keyHash P "__static_attributes__"), (.str "__static_attributes__" 287), (.ref 88)⟩, ⟨(PySem.PyData.keyHash P "__doc__"), (.str "__doc__" 288), .none⟩] 2), #[]⟩) ::
  (nat_lit 90, ⟨(.type "type"), none, (.cls ⟨"NoText", [(.ref 32)], [(.ref 90), (.ref 32), (.type "ValueError"), (.type "Exception"), (.type "BaseException"), (.type "object")], 89, "NoText", true, [], [], false, none, false⟩), #[(some (.ref 74)), none, (some (.str "NoText" 266)), (some (.str "NoText" 274)), (some (.builtin "ValueError.__new__")), (some (.bool true))]⟩) ::
  (nat_lit 93, ⟨(.type "tuple"), none, (.seq #[(.ref 32)] 0), #[]⟩) ::
  (nat_lit 100, ⟨(.type "tuple"), none, (.seq #[] 0), #[]⟩) ::
  (nat_lit 102, ⟨(.type "tuple"), none, (.seq #[(.str "self" 306), (.str "line" 307), (.str "at" 308)] 0), #[]⟩) ::
  (nat_lit 103, ⟨(.type "tuple"), none, (.seq #[] 0), #[]⟩) ::
  (nat_lit 105, ⟨(.type "code"), none, (.fields #[(.str "__init__" 303), (.str "NoLine.__init__" 304), (.str "/claim/cut.py" 305), (.int 23 0), (.int 3 0), (.int 0 0), (.int 0 0), (.int 3 0), (.ref 100), (.bool true), (.int 181 0), (.ref 101), .none, (.ref 102), (.ref 103), (.ref 104), (.int 309 0), (.int 23 0), (.str "/claim/cut.py" 310)]), #[]⟩) ::
  (nat_lit 106, ⟨(.type "function"), none, (.func (PySem.W.fnOf "__init__" "NoLine.__init__" (defArgs (clsDef 5 0)) (defBody (clsDef 5 0)) (defScope (clsDef 5 0)) .none .none .none (.str "likepieces.errors" 187) none (.ref 105) .none)), #[]⟩) ::
  (nat_lit 107, ⟨(.type "tuple"), none, (.seq #[(.str "at" 312), (.str "line" 313)] 0), #[]⟩) ::
  (nat_lit 108, ⟨(.type "dict"), none, (.dict #[⟨(PySem.PyData.keyHash P "__module__"), (.str "__module__" 298), (.str "likepieces.errors" 187)⟩, ⟨(PySem.PyData.keyHash P "__firstlineno__"), (.str "__firstlineno__" 302), (.int 21 301)⟩, ⟨(PySem.PyData.keyHash P "__init__"), (.str "__init__" 311), (.ref 106)⟩, ⟨(PySem.PyData.keyHash P "__static_attributes__"), (.str "__static_attributes__" 314), (.ref 107)⟩, ⟨(PySem.PyData.keyHash P "__doc__"), (.str "__doc__" 315), .none⟩] 2), #[]⟩) ::
  (nat_lit 109, ⟨(.type "type"), none, (.cls ⟨"NoLine", [(.ref 32)], [(.ref 109), (.ref 32), (.type "ValueError"), (.type "Exception"), (.type "BaseException"), (.type "object")], 108, "NoLine", true, [], [], false, none, false⟩), #[(some (.ref 93)), none, (some (.str "NoLine" 291)), (some (.str "NoLine" 299)), (some (.builtin "ValueError.__new__")), (some (.bool true))]⟩) ::
  (nat_lit 112, ⟨(.type "tuple"), none, (.seq #[(.ref 32)] 0), #[]⟩) ::
  (nat_lit 119, ⟨(.type "tuple"), none, (.seq #[] 0), #[]⟩) ::
  (nat_lit 121, ⟨(.type "tuple"), none, (.seq #[(.str "self" 333), (.str "word" 334), (.str "number" 335)] 0), #[]⟩) ::
  (nat_lit 122, ⟨(.type "tuple"), none, (.seq #[] 0), #[]⟩) ::
  (nat_lit 124, ⟨(.type "code"), none, (.fields #[(.str "__init__" 330), (.str "NoTable.__init__" 331), (.str "/claim/cut.py" 332), (.int 29 0), (.int 3 0), (.int 0 0), (.int 0 0), (.int 3 0), (.ref 119), (.bool true), (.int 181 0), (.ref 120), .none, (.ref 121), (.ref 122), (.ref 123), (.int 336 0), (.int 29 0), (.str "/claim/cut.py" 337)]), #[]⟩) ::
  (nat_lit 125, ⟨(.type "function"), none, (.func (PySem.W.fnOf "__init__" "NoTable.__init__" (defArgs (clsDef 6 0)) (defBody (clsDef 6 0)) (defScope (clsDef 6 0)) .none .none .none (.str "likepieces.errors" 187) none (.ref 124) .none)), #[]⟩) ::
  (nat_lit 126, ⟨(.type "tuple"), none, (.seq #[(.str "number" 339), (.str "word" 340)] 0), #[]⟩) ::
  (nat_lit 127, ⟨(.type "dict"), none, (.dict #[⟨(PySem.PyData.keyHash P "__module__"), (.str "__module__" 325), (.str "likepieces.errors" 187)⟩, ⟨(PySem.PyData.keyHash P "__firstlineno__"), (.str "__firstlineno__" 329), (.int 27 328)⟩, ⟨(PySem.PyData.keyHash P "__init__"), (.str "__init__" 338), (.ref 125)⟩, ⟨(PySem.PyData.keyHash P "__static_attributes__"), (.str "__static_attributes__" 341), (.ref 126)⟩, ⟨(PySem.PyData.keyHash P "__doc__"), (.str "__doc__" 342), .none⟩] 2), #[]⟩) ::
  (nat_lit 128, ⟨(.type "type"), none, (.cls ⟨"NoTable", [(.ref 32)], [(.ref 128), (.ref 32), (.type "ValueError"), (.type "Exception"), (.type "BaseException"), (.type "object")], 127, "NoTable", true, [], [], false, none, false⟩), #[(some (.ref 112)), none, (some (.str "NoTable" 318)), (some (.str "NoTable" 326)), (some (.builtin "ValueError.__new__")), (some (.bool true))]⟩) ::
  (nat_lit 131, ⟨(.type "tuple"), none, (.seq #[(.ref 32)] 0), #[]⟩) ::
  (nat_lit 138, ⟨(.type "tuple"), none, (.seq #[] 0), #[]⟩) ::
  (nat_lit 140, ⟨(.type "tuple"), none, (.seq #[(.str "self" 360), (.str "word" 361), (.str "row" 362), (.str "hole" 363)] 0), #[]⟩) ::
  (nat_lit 141, ⟨(.type "tuple"), none, (.seq #[] 0), #[]⟩) ::
  (nat_lit 143, ⟨(.type "code"), none, (.fields #[(.str "__init__" 357), (.str "NoPut.__init__" 358), (.str "/claim/cut.py" 359), (.int 35 0), (.int 4 0), (.int 0 0), (.int 0 0), (.int 3 0), (.ref 138), (.bool true), (.int 181 0), (.ref 139), .none, (.ref 140), (.ref 141), (.ref 142), (.int 364 0), (.int 35 0), (.str "/claim/cut.py" 365)]), #[]⟩) ::
  (nat_lit 144, ⟨(.type "function"), none, (.func (PySem.W.fnOf "__init__" "NoPut.__init__" (defArgs (clsDef 7 0)) (defBody (clsDef 7 0)) (defScope (clsDef 7 0)) .none .none .none (.str "likepieces.errors" 187) none (.ref 143) .none)), #[]⟩) ::
  (nat_lit 145, ⟨(.type "tuple"), none, (.seq #[(.str "hole" 367), (.str "row" 368), (.str "word" 369)] 0), #[]⟩) ::
  (nat_lit 146, ⟨(.type "dict"), none, (.dict #[⟨(PySem.PyData.keyHash P "__module__"), (.str "__module__" 352), (.str "likepieces.errors" 187)⟩, ⟨(PySem.PyData.keyHash P "__firstlineno__"), (.str "__firstlineno__" 356), (.int 33 355)⟩, ⟨(PySem.PyData.keyHash P "__init__"), (.str "__init__" 366), (.ref 144)⟩, ⟨(PySem.PyData.keyHash P "__static_attributes__"), (.str "__static_attributes__" 370), (.ref 145)⟩, ⟨(PySem.PyData.keyHash P "__doc__"), (.str "__doc__" 371), .none⟩] 2), #[]⟩) ::
  (nat_lit 147, ⟨(.type "type"), none, (.cls ⟨"NoPut", [(.ref 32)], [(.ref 147), (.ref 32), (.type "ValueError"), (.type "Exception"), (.type "BaseException"), (.type "object")], 146, "NoPut", true, [], [], false, none, false⟩), #[(some (.ref 131)), none, (some (.str "NoPut" 345)), (some (.str "NoPut" 353)), (some (.builtin "ValueError.__new__")), (some (.bool true))]⟩) ::
  (nat_lit 150, ⟨(.type "tuple"), none, (.seq #[(.ref 32)] 0), #[]⟩) ::
  (nat_lit 157, ⟨(.type "tuple"), none, (.seq #[] 0), #[]⟩) ::
  (nat_lit 158, ⟨(.type "dict"), none, (.dict #[⟨(PySem.PyData.keyHash P "__module__"), (.str "__module__" 381), (.str "likepieces.errors" 187)⟩, ⟨(PySem.PyData.keyHash P "__firstlineno__"), (.str "__firstlineno__" 385), (.int 40 384)⟩, ⟨(PySem.PyData.keyHash P "__static_attributes__"), (.str "__static_attributes__" 386), (.ref 157)⟩, ⟨(PySem.PyData.keyHash P "__doc__"), (.str "__doc__" 387), .none⟩] 2), #[]⟩) ::
  (nat_lit 159, ⟨(.type "type"), none, (.cls ⟨"NoExchange", [(.ref 32)], [(.ref 159), (.ref 32), (.type "ValueError"), (.type "Exception"), (.type "BaseException"), (.type "object")], 158, "NoExchange", true, [], [], false, none, false⟩), #[(some (.ref 150)), none, (some (.str "NoExchange" 374)), (some (.str "NoExchange" 382)), (some (.builtin "ValueError.__new__")), (some (.bool true))]⟩) ::
  (nat_lit 162, ⟨(.type "tuple"), none, (.seq #[(.ref 32)] 0), #[]⟩) ::
  (nat_lit 169, ⟨(.type "tuple"), none, (.seq #[] 0), #[]⟩) ::
  (nat_lit 170, ⟨(.type "dict"), none, (.dict #[⟨(PySem.PyData.keyHash P "__module__"), (.str "__module__" 397), (.str "likepieces.errors" 187)⟩, ⟨(PySem.PyData.keyHash P "__firstlineno__"), (.str "__firstlineno__" 401), (.int 42 400)⟩, ⟨(PySem.PyData.keyHash P "__static_attributes__"), (.str "__static_attributes__" 402), (.ref 169)⟩, ⟨(PySem.PyData.keyHash P "__doc__"), (.str "__doc__" 403), .none⟩] 2), #[]⟩) ::
  (nat_lit 171, ⟨(.type "type"), none, (.cls ⟨"NoBare", [(.ref 32)], [(.ref 171), (.ref 32), (.type "ValueError"), (.type "Exception"), (.type "BaseException"), (.type "object")], 170, "NoBare", true, [], [], false, none, false⟩), #[(some (.ref 162)), none, (some (.str "NoBare" 390)), (some (.str "NoBare" 398)), (some (.builtin "ValueError.__new__")), (some (.bool true))]⟩) ::
  (nat_lit 174, ⟨(.type "tuple"), none, (.seq #[(.ref 32)] 0), #[]⟩) ::
  (nat_lit 181, ⟨(.type "tuple"), none, (.seq #[] 0), #[]⟩) ::
  (nat_lit 182, ⟨(.type "dict"), none, (.dict #[⟨(PySem.PyData.keyHash P "__module__"), (.str "__module__" 413), (.str "likepieces.errors" 187)⟩, ⟨(PySem.PyData.keyHash P "__firstlineno__"), (.str "__firstlineno__" 417), (.int 44 416)⟩, ⟨(PySem.PyData.keyHash P "__static_attributes__"), (.str "__static_attributes__" 418), (.ref 181)⟩, ⟨(PySem.PyData.keyHash P "__doc__"), (.str "__doc__" 419), .none⟩] 2), #[]⟩) ::
  (nat_lit 183, ⟨(.type "type"), none, (.cls ⟨"NoFill", [(.ref 32)], [(.ref 183), (.ref 32), (.type "ValueError"), (.type "Exception"), (.type "BaseException"), (.type "object")], 182, "NoFill", true, [], [], false, none, false⟩), #[(some (.ref 174)), none, (some (.str "NoFill" 406)), (some (.str "NoFill" 414)), (some (.builtin "ValueError.__new__")), (some (.bool true))]⟩) ::
  (nat_lit 186, ⟨(.type "tuple"), none, (.seq #[(.ref 32)] 0), #[]⟩) ::
  (nat_lit 193, ⟨(.type "tuple"), none, (.seq #[] 0), #[]⟩) ::
  (nat_lit 194, ⟨(.type "dict"), none, (.dict #[⟨(PySem.PyData.keyHash P "__module__"), (.str "__module__" 429), (.str "likepieces.errors" 187)⟩, ⟨(PySem.PyData.keyHash P "__firstlineno__"), (.str "__firstlineno__" 433), (.int 46 432)⟩, ⟨(PySem.PyData.keyHash P "__static_attributes__"), (.str "__static_attributes__" 434), (.ref 193)⟩, ⟨(PySem.PyData.keyHash P "__doc__"), (.str "__doc__" 435), .none⟩] 2), #[]⟩) ::
  (nat_lit 195, ⟨(.type "type"), none, (.cls ⟨"NoPlaces", [(.ref 32)], [(.ref 195), (.ref 32), (.type "ValueError"), (.type "Exception"), (.type "BaseException"), (.type "object")], 194, "NoPlaces", true, [], [], false, none, false⟩), #[(some (.ref 186)), none, (some (.str "NoPlaces" 422)), (some (.str "NoPlaces" 430)), (some (.builtin "ValueError.__new__")), (some (.bool true))]⟩) ::
  (nat_lit 198, ⟨(.type "tuple"), none, (.seq #[(.ref 32)] 0), #[]⟩) ::
  (nat_lit 205, ⟨(.type "tuple"), none, (.seq #[] 0), #[]⟩) ::
  (nat_lit 206, ⟨(.type "dict"), none, (.dict #[⟨(PySem.PyData.keyHash P "__module__"), (.str "__module__" 445), (.str "likepieces.errors" 187)⟩, ⟨(PySem.PyData.keyHash P "__firstlineno__"), (.str "__firstlineno__" 449), (.int 48 448)⟩, ⟨(PySem.PyData.keyHash P "__static_attributes__"), (.str "__static_attributes__" 450), (.ref 205)⟩, ⟨(PySem.PyData.keyHash P "__doc__"), (.str "__doc__" 451), .none⟩] 2), #[]⟩) ::
  (nat_lit 207, ⟨(.type "type"), none, (.cls ⟨"NoRow", [(.ref 32)], [(.ref 207), (.ref 32), (.type "ValueError"), (.type "Exception"), (.type "BaseException"), (.type "object")], 206, "NoRow", true, [], [], false, none, false⟩), #[(some (.ref 198)), none, (some (.str "NoRow" 438)), (some (.str "NoRow" 446)), (some (.builtin "ValueError.__new__")), (some (.bool true))]⟩) ::
  (nat_lit 210, ⟨(.type "tuple"), none, (.seq #[] 0), #[]⟩) ::
  (nat_lit 212, ⟨(.type "tuple"), none, (.seq #[(.str "thing" 459)] 0), #[]⟩) ::
  (nat_lit 213, ⟨(.type "tuple"), none, (.seq #[] 0), #[]⟩) ::
  (nat_lit 215, ⟨(.type "code"), none, (.fields #[(.str "is_whole" 456), (.str "is_whole" 457), (.str "/claim/cut.py" 458), (.int 51 0), (.int 1 0), (.int 0 0), (.int 0 0), (.int 3 0), (.ref 210), (.bool true), (.int 181 0), (.ref 211), .none, (.ref 212), (.ref 213), (.ref 214), (.int 460 0), (.int 51 0), (.str "/claim/cut.py" 461)]), #[]⟩) ::
  (nat_lit 216, ⟨(.type "function"), none, (.func (PySem.W.fnOf "is_whole" "is_whole" (defArgs (top 14)) (defBody (top 14)) (defScope (top 14)) .none .none .none (.str "likepieces.trees" 454) none (.ref 215) .none)), #[]⟩) ::
  (nat_lit 217, ⟨(.type "tuple"), none, (.seq #[] 0), #[]⟩) ::
  (nat_lit 220, ⟨(.type "code"), none, (.fields #[(.str "head" 463), (.str "head" 464), (.str "/claim/cut.py" 465), (.int 53 0), (.int 1 0), (.int 0 0), (.int 0 0), (.int 3 0), (.ref 217), (.bool true), (.int 181 0), (.ref 218), .none, .none, .none, (.ref 219), (.int 466 0), (.int 53 0), (.str "/claim/cut.py" 467)]), #[]⟩) ::
  (nat_lit 221, ⟨(.type "function"), none, (.func (PySem.W.fnOf "head" "head" (defArgs (top 15)) (defBody (top 15)) (defScope (top 15)) .none .none .none (.str "likepieces.trees" 454) none (.ref 220) .none)), #[]⟩) ::
  (nat_lit 222, ⟨(.type "tuple"), none, (.seq #[] 0), #[]⟩) ::
  (nat_lit 225, ⟨(.type "code"), none, (.fields #[(.str "parts" 469), (.str "parts" 470), (.str "/claim/cut.py" 471), (.int 55 0), (.int 1 0), (.int 0 0), (.int 0 0), (.int 3 0), (.ref 222), (.bool true), (.int 181 0), (.ref 223), .none, .none, .none, (.ref 224), (.int 472 0), (.int 55 0), (.str "/claim/cut.py" 473)]), #[]⟩) ::
  (nat_lit 226, ⟨(.type "function"), none, (.func (PySem.W.fnOf "parts" "parts" (defArgs (top 16)) (defBody (top 16)) (defScope (top 16)) .none .none .none (.str "likepieces.trees" 454) none (.ref 225) .none)), #[]⟩) ::
  (nat_lit 227, ⟨(.type "tuple"), none, (.seq #[] 0), #[]⟩) ::
  (nat_lit 229, ⟨(.type "tuple"), none, (.seq #[(.str "e" 478), (.str "path" 479), (.str "found" 480), (.str "at" 481), (.str "inner" 482)] 0), #[]⟩) ::
  (nat_lit 230, ⟨(.type "tuple"), none, (.seq #[] 0), #[]⟩) ::
  (nat_lit 232, ⟨(.type "code"), none, (.fields #[(.str "way" 475), (.str "way" 476), (.str "/claim/cut.py" 477), (.int 57 0), (.int 2 0), (.int 0 0), (.int 0 0), (.int 3 0), (.ref 227), (.bool true), (.int 181 0), (.ref 228), .none, (.ref 229), (.ref 230), (.ref 231), (.int 483 0), (.int 57 0), (.str "/claim/cut.py" 484)]), #[]⟩) ::
  (nat_lit 233, ⟨(.type "function"), none, (.func (PySem.W.fnOf "way" "way" (defArgs (top 17)) (defBody (top 17)) (defScope (top 17)) .none .none .none (.str "likepieces.trees" 454) none (.ref 232) .none)), #[]⟩) ::
  (nat_lit 234, ⟨(.type "tuple"), none, (.seq #[] 0), #[]⟩) ::
  (nat_lit 236, ⟨(.type "tuple"), none, (.seq #[(.str "e" 489), (.str "path" 490)] 0), #[]⟩) ::
  (nat_lit 237, ⟨(.type "tuple"), none, (.seq #[] 0), #[]⟩) ::
  (nat_lit 239, ⟨(.type "code"), none, (.fields #[(.str "piece" 486), (.str "piece" 487), (.str "/claim/cut.py" 488), (.int 65 0), (.int 2 0), (.int 0 0), (.int 0 0), (.int 3 0), (.ref 234), (.bool true), (.int 181 0), (.ref 235), .none, (.ref 236), (.ref 237), (.ref 238), (.int 491 0), (.int 65 0), (.str "/claim/cut.py" 492)]), #[]⟩) ::
  (nat_lit 240, ⟨(.type "function"), none, (.func (PySem.W.fnOf "piece" "piece" (defArgs (top 18)) (defBody (top 18)) (defScope (top 18)) .none .none .none (.str "likepieces.trees" 454) none (.ref 239) .none)), #[]⟩) ::
  (nat_lit 241, ⟨(.type "tuple"), none, (.seq #[] 0), #[]⟩) ::
  (nat_lit 243, ⟨(.type "tuple"), none, (.seq #[(.str "e" 497), (.str "path" 498), (.str "other" 499), (.str "around" 500), (.str "told" 501), (.str "node" 502), (.str "at" 503), (.str "inner" 504)] 0), #[]⟩) ::
  (nat_lit 244, ⟨(.type "tuple"), none, (.seq #[] 0), #[]⟩) ::
  (nat_lit 246, ⟨(.type "code"), none, (.fields #[(.str "with_piece" 494), (.str "with_piece" 495), (.str "/claim/cut.py" 496), (.int 67 0), (.int 3 0), (.int 0 0), (.int 0 0), (.int 3 0), (.ref 241), (.bool true), (.int 181 0), (.ref 242), .none, (.ref 243), (.ref 244), (.ref 245), (.int 505 0), (.int 67 0), (.str "/claim/cut.py" 506)]), #[]⟩) ::
  (nat_lit 247, ⟨(.type "function"), none, (.func (PySem.W.fnOf "with_piece" "with_piece" (defArgs (top 19)) (defBody (top 19)) (defScope (top 19)) .none .none .none (.str "likepieces.trees" 454) none (.ref 246) .none)), #[]⟩) ::
  (nat_lit 248, ⟨(.type "tuple"), none, (.seq #[] 0), #[]⟩) ::
  (nat_lit 250, ⟨(.type "tuple"), none, (.seq #[(.str "_law_script" 513)] 0), #[]⟩) ::
  (nat_lit 251, ⟨(.type "tuple"), none, (.seq #[] 0), #[]⟩) ::
  (nat_lit 253, ⟨(.type "code"), none, (.fields #[(.str "_law_feed" 510), (.str "_law_feed" 511), (.str "/claim/cut.py" 512), (.int 75 0), (.int 1 0), (.int 0 0), (.int 0 0), (.int 3 0), (.ref 248), (.bool true), (.int 181 0), (.ref 249), .none, (.ref 250), (.ref 251), (.ref 252), (.int 514 0), (.int 75 0), (.str "/claim/cut.py" 515)]), #[]⟩) ::
  (nat_lit 254, ⟨(.type "function"), none, (.func (PySem.W.fnOf "_law_feed" "_law_feed" (defArgs (top 21)) (defBody (top 21)) (defScope (top 21)) .none .none .none (.str "law_likepieces_k04_pieces_put_in" 508) none (.ref 253) .none)), #[]⟩) ::
  (nat_lit 255, ⟨(.type "tuple"), none, (.seq #[] 0), #[]⟩) ::
  (nat_lit 257, ⟨(.type "tuple"), none, (.seq #[(.str "_law_feed_here" 520), (.str "_law_many" 521), (.str "_law_found" 522), (.str "_law_at" 523), (.str "_law_cell" 524), (.str "_law_number" 525)] 0), #[]⟩) ::
  (nat_lit 258, ⟨(.type "tuple"), none, (.seq #[] 0), #[]⟩) ::
  (nat_lit 260, ⟨(.type "code"), none, (.fields #[(.str "_law_draw" 517), (.str "_law_draw" 518), (.str "/claim/cut.py" 519), (.int 77 0), (.int 2 0), (.int 0 0), (.int 0 0), (.int 3 0), (.ref 255), (.bool true), (.int 181 0), (.ref 256), .none, (.ref 257), (.ref 258), (.ref 259), (.int 526 0), (.int 77 0), (.str "/claim/cut.py" 527)]), #[]⟩) ::
  (nat_lit 261, ⟨(.type "function"), none, (.func (PySem.W.fnOf "_law_draw" "_law_draw" (defArgs (top 22)) (defBody (top 22)) (defScope (top 22)) .none .none .none (.str "law_likepieces_k04_pieces_put_in" 508) none (.ref 260) .none)), #[]⟩) ::
  (nat_lit 262, ⟨(.type "tuple"), none, (.seq #[] 0), #[]⟩) ::
  (nat_lit 264, ⟨(.type "tuple"), none, (.seq #[(.str "_law_feed_here" 532), (.str "_law_some" 533)] 0), #[]⟩) ::
  (nat_lit 265, ⟨(.type "tuple"), none, (.seq #[] 0), #[]⟩) ::
  (nat_lit 267, ⟨(.type "code"), none, (.fields #[(.str "_law_one" 529), (.str "_law_one" 530), (.str "/claim/cut.py" 531), (.int 94 0), (.int 2 0), (.int 0 0), (.int 0 0), (.int 3 0), (.ref 262), (.bool true), (.int 181 0), (.ref 263), .none, (.ref 264), (.ref 265), (.ref 266), (.int 534 0), (.int 94 0), (.str "/claim/cut.py" 535)]), #[]⟩) ::
  (nat_lit 268, ⟨(.type "function"), none, (.func (PySem.W.fnOf "_law_one" "_law_one" (defArgs (top 23)) (defBody (top 23)) (defScope (top 23)) .none .none .none (.str "law_likepieces_k04_pieces_put_in" 508) none (.ref 267) .none)), #[]⟩) ::
  (nat_lit 269, ⟨(.type "tuple"), none, (.seq #[] 0), #[]⟩) ::
  (nat_lit 271, ⟨(.type "tuple"), none, (.seq #[(.str "_law_feed_here" 540), (.str "_law_way" 541)] 0), #[]⟩) ::
  (nat_lit 272, ⟨(.type "tuple"), none, (.seq #[] 0), #[]⟩) ::
  (nat_lit 274, ⟨(.type "code"), none, (.fields #[(.str "_law_value" 537), (.str "_law_value" 538), (.str "/claim/cut.py" 539), (.int 96 0), (.int 1 0), (.int 0 0), (.int 0 0), (.int 3 0), (.ref 269), (.bool true), (.int 181 0), (.ref 270), .none, (.ref 271), (.ref 272), (.ref 273), (.int 542 0), (.int 96 0), (.str "/claim/cut.py" 543)]), #[]⟩) ::
  (nat_lit 275, ⟨(.type "function"), none, (.func (PySem.W.fnOf "_law_value" "_law_value" (defArgs (top 24)) (defBody (top 24)) (defScope (top 24)) .none .none .none (.str "law_likepieces_k04_pieces_put_in" 508) none (.ref 274) .none)), #[]⟩) ::
  (nat_lit 276, ⟨(.type "tuple"), none, (.seq #[] 0), #[]⟩) ::
  (nat_lit 278, ⟨(.type "tuple"), none, (.seq #[(.str "_law_number" 548), (.str "_law_long" 549), (.str "_law_word" 550), (.str "_law_k" 551)] 0), #[]⟩) ::
  (nat_lit 279, ⟨(.type "tuple"), none, (.seq #[] 0), #[]⟩) ::
  (nat_lit 281, ⟨(.type "code"), none, (.fields #[(.str "_law_spelled" 545), (.str "_law_spelled" 546), (.str "/claim/cut.py" 547), (.int 103 0), (.int 2 0), (.int 0 0), (.int 0 0), (.int 3 0), (.ref 276), (.bool true), (.int 181 0), (.ref 277), .none, (.ref 278), (.ref 279), (.ref 280), (.int 552 0), (.int 103 0), (.str "/claim/cut.py" 553)]), #[]⟩) ::
  (nat_lit 282, ⟨(.type "function"), none, (.func (PySem.W.fnOf "_law_spelled" "_law_spelled" (defArgs (top 25)) (defBody (top 25)) (defScope (top 25)) .none .none .none (.str "law_likepieces_k04_pieces_put_in" 508) none (.ref 281) .none)), #[]⟩) ::
  (nat_lit 283, ⟨(.type "tuple"), none, (.seq #[] 0), #[]⟩) ::
  (nat_lit 285, ⟨(.type "tuple"), none, (.seq #[] 0), #[]⟩) ::
  (nat_lit 286, ⟨(.type "tuple"), none, (.seq #[] 0), #[]⟩) ::
  (nat_lit 288, ⟨(.type "code"), none, (.fields #[(.str "_law_words" 555), (.str "_law_words" 556), (.str "/claim/cut.py" 557), (.int 109 0), (.int 0 0), (.int 0 0), (.int 0 0), (.int 3 0), (.ref 283), (.bool true), (.int 181 0), (.ref 284), .none, (.ref 285), (.ref 286), (.ref 287), (.int 558 0), (.int 109 0), (.str "/claim/cut.py" 559)]), #[]⟩) ::
  (nat_lit 289, ⟨(.type "function"), none, (.func (PySem.W.fnOf "_law_words" "_law_words" (defArgs (top 26)) (defBody (top 26)) (defScope (top 26)) .none .none .none (.str "law_likepieces_k04_pieces_put_in" 508) none (.ref 288) .none)), #[]⟩) ::
  (nat_lit 290, ⟨(.type "tuple"), none, (.seq #[] 0), #[]⟩) ::
  (nat_lit 293, ⟨(.type "code"), none, (.fields #[(.str "_law_name" 561), (.str "_law_name" 562), (.str "/claim/cut.py" 563), (.int 111 0), (.int 2 0), (.int 0 0), (.int 0 0), (.int 3 0), (.ref 290), (.bool true), (.int 181 0), (.ref 291), .none, .none, .none, (.ref 292), (.int 564 0), (.int 111 0), (.str "/claim/cut.py" 565)]), #[]⟩) ::
  (nat_lit 294, ⟨(.type "function"), none, (.func (PySem.W.fnOf "_law_name" "_law_name" (defArgs (top 27)) (defBody (top 27)) (defScope (top 27)) .none .none .none (.str "law_likepieces_k04_pieces_put_in" 508) none (.ref 293) .none)), #[]⟩) ::
  (nat_lit 295, ⟨(.type "tuple"), none, (.seq #[] 0), #[]⟩) ::
  (nat_lit 297, ⟨(.type "tuple"), none, (.seq #[(.str "_law_feed_here" 570), (.str "_law_many" 571), (.str "_law_names_here" 572), (.str "_law_k" 573)] 0), #[]⟩) ::
  (nat_lit 298, ⟨(.type "tuple"), none, (.seq #[] 0), #[]⟩) ::
  (nat_lit 300, ⟨(.type "code"), none, (.fields #[(.str "_law_names" 567), (.str "_law_names" 568), (.str "/claim/cut.py" 569), (.int 134 0), (.int 2 0), (.int 0 0), (.int 0 0), (.int 3 0), (.ref 295), (.bool true), (.int 181 0), (.ref 296), .none, (.ref 297), (.ref 298), (.ref 299), (.int 574 0), (.int 134 0), (.str "/claim/cut.py" 575)]), #[]⟩) ::
  (nat_lit 301, ⟨(.type "function"), none, (.func (PySem.W.fnOf "_law_names" "_law_names" (defArgs (top 28)) (defBody (top 28)) (defScope (top 28)) .none .none .none (.str "law_likepieces_k04_pieces_put_in" 508) none (.ref 300) .none)), #[]⟩) ::
  (nat_lit 302, ⟨(.type "tuple"), none, (.seq #[] 0), #[]⟩) ::
  (nat_lit 305, ⟨(.type "code"), none, (.fields #[(.str "_law_parts" 577), (.str "_law_parts" 578), (.str "/claim/cut.py" 579), (.int 139 0), (.int 1 0), (.int 0 0), (.int 0 0), (.int 3 0), (.ref 302), (.bool true), (.int 181 0), (.ref 303), .none, .none, .none, (.ref 304), (.int 580 0), (.int 139 0), (.str "/claim/cut.py" 581)]), #[]⟩) ::
  (nat_lit 306, ⟨(.type "function"), none, (.func (PySem.W.fnOf "_law_parts" "_law_parts" (defArgs (top 29)) (defBody (top 29)) (defScope (top 29)) .none .none .none (.str "law_likepieces_k04_pieces_put_in" 508) none (.ref 305) .none)), #[]⟩) ::
  (nat_lit 307, ⟨(.type "tuple"), none, (.seq #[] 0), #[]⟩) ::
  (nat_lit 310, ⟨(.type "code"), none, (.fields #[(.str "_law_with" 583), (.str "_law_with" 584), (.str "/claim/cut.py" 585), (.int 141 0), (.int 2 0), (.int 0 0), (.int 0 0), (.int 3 0), (.ref 307), (.bool true), (.int 181 0), (.ref 308), .none, .none, .none, (.ref 309), (.int 586 0), (.int 141 0), (.str "/claim/cut.py" 587)]), #[]⟩) ::
  (nat_lit 311, ⟨(.type "function"), none, (.func (PySem.W.fnOf "_law_with" "_law_with" (defArgs (top 30)) (defBody (top 30)) (defScope (top 30)) .none .none .none (.str "law_likepieces_k04_pieces_put_in" 508) none (.ref 310) .none)), #[]⟩) ::
  (nat_lit 312, ⟨(.type "tuple"), none, (.seq #[] 0), #[]⟩) ::
  (nat_lit 314, ⟨(.type "tuple"), none, (.seq #[(.str "_law_feed_here" 592), (.str "_law_world_here" 593), (.str "_law_bound" 594), (.str "_law_way" 595)] 0), #[]⟩) ::
  (nat_lit 315, ⟨(.type "tuple"), none, (.seq #[] 0), #[]⟩) ::
  (nat_lit 317, ⟨(.type "code"), none, (.fields #[(.str "_law_leaf" 589), (.str "_law_leaf" 590), (.str "/claim/cut.py" 591), (.int 143 0), (.int 3 0), (.int 0 0), (.int 0 0), (.int 3 0), (.ref 312), (.bool true), (.int 181 0), (.ref 313), .none, (.ref 314), (.ref 315), (.ref 316), (.int 596 0), (.int 143 0), (.str "/claim/cut.py" 597)]), #[]⟩) ::
  (nat_lit 318, ⟨(.type "function"), none, (.func (PySem.W.fnOf "_law_leaf" "_law_leaf" (defArgs (top 31)) (defBody (top 31)) (defScope (top 31)) .none .none .none (.str "law_likepieces_k04_pieces_put_in" 508) none (.ref 317) .none)), #[]⟩) ::
  (nat_lit 319, ⟨(.type "tuple"), none, (.seq #[] 0), #[]⟩) ::
  (nat_lit 322, ⟨(.type "code"), none, (.fields #[(.str "_law_expr" 599), (.str "_law_expr" 600), (.str "/claim/cut.py" 601), (.int 152 0), (.int 4 0), (.int 0 0), (.int 0 0), (.int 3 0), (.ref 319), (.bool true), (.int 181 0), (.ref 320), .none, .none, .none, (.ref 321), (.int 602 0), (.int 152 0), (.str "/claim/cut.py" 603)]), #[]⟩) ::
  (nat_lit 323, ⟨(.type "function"), none, (.func (PySem.W.fnOf "_law_expr" "_law_expr" (defArgs (top 32)) (defBody (top 32)) (defScope (top 32)) .none .none .none (.str "law_likepieces_k04_pieces_put_in" 508) none (.ref 322) .none)), #[]⟩) ::
  (nat_lit 324, ⟨(.type "tuple"), none, (.seq #[] 0), #[]⟩) ::
  (nat_lit 326, ⟨(.type "tuple"), none, (.seq #[(.str "_law_feed_here" 608), (.str "_law_room" 609), (.str "_law_names_here" 610), (.str "_law_lets" 611), (.str "_law_k" 612), (.str "_law_calls" 613)] 0), #[]⟩) ::
  (nat_lit 327, ⟨(.type "tuple"), none, (.seq #[] 0), #[]⟩) ::
  (nat_lit 329, ⟨(.type "code"), none, (.fields #[(.str "_law_world" 605), (.str "_law_world" 606), (.str "/claim/cut.py" 607), (.int 177 0), (.int 2 0), (.int 0 0), (.int 0 0), (.int 3 0), (.ref 324), (.bool true), (.int 181 0), (.ref 325), .none, (.ref 326), (.ref 327), (.ref 328), (.int 614 0), (.int 177 0), (.str "/claim/cut.py" 615)]), #[]⟩) ::
  (nat_lit 330, ⟨(.type "function"), none, (.func (PySem.W.fnOf "_law_world" "_law_world" (defArgs (top 33)) (defBody (top 33)) (defScope (top 33)) .none .none .none (.str "law_likepieces_k04_pieces_put_in" 508) none (.ref 329) .none)), #[]⟩) ::
  (nat_lit 331, ⟨(.type "tuple"), none, (.seq #[] 0), #[]⟩) ::
  (nat_lit 334, ⟨(.type "code"), none, (.fields #[(.str "_law_all_paths" 617), (.str "_law_all_paths" 618), (.str "/claim/cut.py" 619), (.int 185 0), (.int 1 0), (.int 0 0), (.int 0 0), (.int 3 0), (.ref 331), (.bool true), (.int 181 0), (.ref 332), .none, .none, .none, (.ref 333), (.int 620 0), (.int 185 0), (.str "/claim/cut.py" 621)]), #[]⟩) ::
  (nat_lit 335, ⟨(.type "function"), none, (.func (PySem.W.fnOf "_law_all_paths" "_law_all_paths" (defArgs (top 34)) (defBody (top 34)) (defScope (top 34)) .none .none .none (.str "law_likepieces_k04_pieces_put_in" 508) none (.ref 334) .none)), #[]⟩) ::
  (nat_lit 336, ⟨(.type "tuple"), none, (.seq #[] 0), #[]⟩) ::
  (nat_lit 338, ⟨(.type "tuple"), none, (.seq #[(.str "_law_e" 626), (.str "_law_path" 627), (.str "_law_other" 628), (.str "_law_some" 629)] 0), #[]⟩) ::
  (nat_lit 339, ⟨(.type "tuple"), none, (.seq #[] 0), #[]⟩) ::
  (nat_lit 341, ⟨(.type "code"), none, (.fields #[(.str "_law_swapped" 623), (.str "_law_swapped" 624), (.str "/claim/cut.py" 625), (.int 190 0), (.int 3 0), (.int 0 0), (.int 0 0), (.int 3 0), (.ref 336), (.bool true), (.int 181 0), (.ref 337), .none, (.ref 338), (.ref 339), (.ref 340), (.int 630 0), (.int 190 0), (.str "/claim/cut.py" 631)]), #[]⟩) ::
  (nat_lit 342, ⟨(.type "function"), none, (.func (PySem.W.fnOf "_law_swapped" "_law_swapped" (defArgs (top 35)) (defBody (top 35)) (defScope (top 35)) .none .none .none (.str "law_likepieces_k04_pieces_put_in" 508) none (.ref 341) .none)), #[]⟩) ::
  (nat_lit 343, ⟨(.type "tuple"), none, (.seq #[] 0), #[]⟩) ::
  (nat_lit 345, ⟨(.type "tuple"), none, (.seq #[(.str "_law_e" 636), (.str "_law_path" 637), (.str "_law_other" 638), (.str "_law_caught" 639), (.str "error" 640)] 0), #[]⟩) ::
  (nat_lit 346, ⟨(.type "tuple"), none, (.seq #[] 0), #[]⟩) ::
  (nat_lit 348, ⟨(.type "code"), none, (.fields #[(.str "_law_refused" 633), (.str "_law_refused" 634), (.str "/claim/cut.py" 635), (.int 196 0), (.int 3 0), (.int 0 0), (.int 0 0), (.int 3 0), (.ref 343), (.bool true), (.int 181 0), (.ref 344), .none, (.ref 345), (.ref 346), (.ref 347), (.int 641 0), (.int 196 0), (.str "/claim/cut.py" 642)]), #[]⟩) ::
  (nat_lit 349, ⟨(.type "function"), none, (.func (PySem.W.fnOf "_law_refused" "_law_refused" (defArgs (top 36)) (defBody (top 36)) (defScope (top 36)) .none .none .none (.str "law_likepieces_k04_pieces_put_in" 508) none (.ref 348) .none)), #[]⟩) ::
  (nat_lit 350, ⟨(.type "tuple"), none, (.seq #[] 0), #[]⟩) ::
  (nat_lit 352, ⟨(.type "tuple"), none, (.seq #[(.str "_law_feed_here" 647), (.str "_law_e" 648), (.str "_law_path" 649), (.str "_law_here" 650), (.str "_law_many" 651), (.str "_law_last" 652), (.str "_law_more" 653)] 0), #[]⟩) ::
  (nat_lit 353, ⟨(.type "tuple"), none, (.seq #[] 0), #[]⟩) ::
  (nat_lit 355, ⟨(.type "code"), none, (.fields #[(.str "_law_nowhere" 644), (.str "_law_nowhere" 645), (.str "/claim/cut.py" 646), (.int 210 0), (.int 4 0), (.int 0 0), (.int 0 0), (.int 3 0), (.ref 350), (.bool true), (.int 181 0), (.ref 351), .none, (.ref 352), (.ref 353), (.ref 354), (.int 654 0), (.int 210 0), (.str "/claim/cut.py" 655)]), #[]⟩) ::
  (nat_lit 356, ⟨(.type "function"), none, (.func (PySem.W.fnOf "_law_nowhere" "_law_nowhere" (defArgs (top 37)) (defBody (top 37)) (defScope (top 37)) .none .none .none (.str "law_likepieces_k04_pieces_put_in" 508) none (.ref 355) .none)), #[]⟩) ::
  (nat_lit 357, ⟨(.type "tuple"), none, (.seq #[] 0), #[]⟩) ::
  (nat_lit 360, ⟨(.type "code"), none, (.fields #[(.str "law" 657), (.str "law" 658), (.str "/claim/cut.py" 659), (.int 217 0), (.int 1 0), (.int 0 0), (.int 0 0), (.int 3 0), (.ref 357), (.bool true), (.int 181 0), (.ref 358), .none, .none, .none, (.ref 359), (.int 660 0), (.int 217 0), (.str "/claim/cut.py" 661)]), #[]⟩) ::
  (nat_lit 361, ⟨(.type "function"), none, (.func (PySem.W.fnOf "law" "law" (defArgs (top 38)) (defBody (top 38)) (defScope (top 38)) .none .none .none (.str "law_likepieces_k04_pieces_put_in" 508) none (.ref 360) .none)), #[]⟩) :: []
def hdA : List Addr := [2, 3, 15, 22, 23, 25, 26, 28, 29, 30, 31, 32, 33, 36, 43, 45, 46, 48, 49, 50, 51, 52, 55, 62, 64, 65, 67, 68, 69, 70, 71, 74, 81, 83, 84, 86, 87, 88, 89, 90, 93, 100, 102, 103, 105, 106, 107, 108, 109, 112, 119, 121, 122, 124, 125, 126, 127, 128, 131, 138, 140, 141, 143, 144, 145, 146, 147, 150, 157, 158, 159, 162, 169, 170, 171, 174, 181, 182, 183, 186, 193, 194, 195, 198, 205, 206, 207, 210, 212, 213, 215, 216, 217, 220, 221, 222, 225, 226, 227, 229, 230, 232, 233, 234, 236, 237, 239, 240, 241, 243, 244, 246, 247, 248, 250, 251, 253, 254, 255, 257, 258, 260, 261, 262, 264, 265, 267, 268, 269, 271, 272, 274, 275, 276, 278, 279, 281, 282, 283, 285, 286, 288, 289, 290, 293, 294, 295, 297, 298, 300, 301, 302, 305, 306, 307, 310, 311, 312, 314, 315, 317, 318, 319, 322, 323, 324, 326, 327, 329, 330, 331, 334, 335, 336, 338, 339, 341, 342, 343, 345, 346, 348, 349, 350, 352, 353, 355, 356, 357, 360, 361]
abbrev hdL : List Str := ["LikeError"]
abbrev hdN : Nat := 7138
abbrev hdH : PySem.W.Hook := PySem.W.kHook hdK hdA (fun _ => by kernel_rfl)
theorem hdS : PySem.Challenge.rw_likepieces_k04_pieces_put_in.wellSaid = true := by decide +kernel
set_option maxHeartbeats 0 in
open PySem.W.Fast in
theorem hdT : PySem.W.LeftO (PySem.Challenge.rw_likepieces_k04_pieces_put_in).row.toRowW.prog hdQ hdL (fun s => PySem.W.xlAt hdQ [] s && PySem.W.recOk (PySem.W.RowW.records (PySem.Challenge.rw_likepieces_k04_pieces_put_in).row.toRowW) s) (PySem.W.Hook.obs hdH) (PySem.W.Hook.val hdH) hdN := by
  intro w
  unfold PySem.W.openEnds PySem.W.fencedOpening PySem.W.topFrom
  rw [te10274390034422433532, te1435165496053646825, te14289696077712309145, te14082659384304107361, te4187177175401517315, te14364793385576792824, te8920871248978507458, te5923862056798008813]
  kernel_rfl
end K04
-- CHANGE: your row's module here, as the last of these rows
set_option Elab.async false
set_option linter.all false
set_option maxRecDepth 100000
/-! THE HAND LAYER, for ints, bools, texts, own classes, LISTS and tuples (index, slices, in, append, pop ..), calls, loops. Paste it whole ahead of your own text; what your proof does not reach may be deleted. -/
namespace L2
open PySem PySem.Spec PyProof.Rows

/-- a key: an int or a str -/
abbrev Key := Sum Int Str
def keyIs : Key → Value → Bool
  | .inl k, v => Value.isInt k v
  | .inr x, v => Value.isStrOf x v
def keyH (w : World) : Key → Int
  | .inl k => hashInt k
  | .inr x => hashStr w x
theorem keyIs_shape : ∀ {k : Key} {v : Value}, keyIs k v = true → (∃ i t, k = Sum.inl i ∧ v = Value.int i t) ∨ (∃ x t, k = Sum.inr x ∧ v = Value.str x t)
  | .inl i, v, h => by
    obtain ⟨t, e⟩ := Value.isInt_shape (k := i) (v := v) h
    exact .inl ⟨i, t, rfl, e⟩
  | .inr x, v, h => by
    obtain ⟨t, e⟩ := Value.isStrOf_shape (x := x) (v := v) h
    exact .inr ⟨x, t, rfl, e⟩
theorem keyIs_int (i : Int) (t : Tok) : keyIs (.inl i) (.int i t) = true := by simp [keyIs, Value.isInt]
theorem keyIs_str (x : Str) (t : Tok) : keyIs (.inr x) (.str x t) = true := by simp [keyIs, Value.isStrOf]
theorem key_ll (a b : Int) : decide ((Sum.inl a : Key) = Sum.inl b) = (a == b) := by
  by_cases e : a = b
  · subst e; simp
  · have h : ¬ (Sum.inl a : Key) = Sum.inl b := fun q => e (Sum.inl.inj q)
    rw [decide_eq_false h]
    exact (beq_eq_false_iff_ne.mpr e).symm
theorem key_rr (a b : Str) : decide ((Sum.inr a : Key) = Sum.inr b) = decide (a = b) := by
  by_cases e : a = b
  · subst e; simp
  · have h : ¬ (Sum.inr a : Key) = Sum.inr b := fun q => e (Sum.inr.inj q)
    rw [decide_eq_false h, decide_eq_false e]
theorem key_lr (a : Int) (b : Str) : decide ((Sum.inl a : Key) = Sum.inr b) = false := decide_eq_false (fun q => nomatch q)
theorem key_rl (a : Str) (b : Int) : decide ((Sum.inr a : Key) = Sum.inl b) = false := decide_eq_false (fun q => nomatch q)

def mixKind (prog : Program) (w : World) : PySem.KeyKind prog w Key where
  is := keyIs
  hash := keyH w
  inj := fun v a b ha hb => by
    rcases keyIs_shape ha with ⟨i, t, rfl, rfl⟩ | ⟨x, t, rfl, rfl⟩
    · rcases keyIs_shape hb with ⟨j, u, rfl, e⟩ | ⟨y, u, rfl, e⟩
      · injection e with e1 _; rw [e1]
      · exact nomatch e
    · rcases keyIs_shape hb with ⟨j, u, rfl, e⟩ | ⟨y, u, rfl, e⟩
      · exact nomatch e
      · injection e with e1 _; rw [e1]
  byValue := fun k v h => by
    rcases keyIs_shape h with ⟨i, t, rfl, rfl⟩ | ⟨x, t, rfl, rfl⟩ <;> rfl
  pyHash := fun hv h => by
    rcases keyIs_shape hv with ⟨i, t, rfl, rfl⟩ | ⟨x, t, rfl, rfl⟩
    · exact wpAny_pyHash_int h
    · exact wpAny_pyHash_str h
  eqBool := fun hu hv h => by
    rcases keyIs_shape hu with ⟨i, t, rfl, rfl⟩ | ⟨x, t, rfl, rfl⟩
    · rcases keyIs_shape hv with ⟨j, u, rfl, rfl⟩ | ⟨y, u, rfl, rfl⟩
      · rw [key_ll] at h; exact wpAny_eqBool_int h
      · rw [key_lr] at h; exact SeqAt.EqAt.int_str i t y u _ _ _ _ h
    · rcases keyIs_shape hv with ⟨j, u, rfl, rfl⟩ | ⟨y, u, rfl, rfl⟩
      · rw [key_rl] at h; exact SeqAt.EqAt.str_int x t j u _ _ _ _ h
      · rw [key_rr] at h; exact wpAny_eqBool_str h
  «strs» := fun k x t v h => by
    rcases keyIs_shape h with ⟨i, u, rfl, e⟩ | ⟨y, u, rfl, e⟩
    · exact nomatch e
    · injection e with e1 _
      subst e1
      cases v <;> rfl

theorem mixKind_int (prog : Program) (w : World) (i : Int) (t : Tok) : (mixKind prog w).is (.inl i) (.int i t) = true := keyIs_int i t
theorem mixKind_str (prog : Program) (w : World) (x : Str) (t : Tok) : (mixKind prog w).is (.inr x) (.str x t) = true := keyIs_str x t
end L2

namespace L2
open PySem PySem.Spec PyProof.Rows

/-- a value, without the heap -/
inductive V where
  | non | bl (b : Bool) | int (i : Int) | str (x : Str) | byt (b : Array UInt8) | flt (b : UInt64) | ref (a : Addr) | ty (n : String)
  deriving DecidableEq

def RelV : V → Value → Prop
  | .non, u => u = Value.none
  | .bl b, u => u = Value.bool b
  | .int i, u => ∃ t, u = Value.int i t
  | .str x, u => ∃ t, u = Value.str x t
  | .byt b, u => ∃ t, u = Value.bytes b t
  | .flt b, u => ∃ t, u = Value.float b t
  | .ref a, u => u = Value.ref a
  | .ty n, u => u = Value.type n

abbrev Vals : List V → List Value → Prop := Paired RelV
theorem Vals.length {xs : List V} {us : List Value} (r : Vals xs us) : xs.length = us.length := Paired.length r
theorem Vals.get : ∀ {xs : List V} {us : List Value} {i : Nat} {x : V}, Vals xs us → xs[i]? = some x → ∃ u, us[i]? = some u ∧ RelV x u
  | _, _, _, _, .nil, e => by simp at e
  | _, _, 0, _, .cons r _, e => by simp at e; subst e; exact ⟨_, rfl, r⟩
  | _, _, i + 1, x, .cons _ t, e => by
    obtain ⟨u, h1, h2⟩ := Vals.get (i := i) (x := x) t (by simpa using e)
    exact ⟨u, by simpa using h1, h2⟩
theorem Vals.set {x : V} {u : Value} (r : RelV x u) : ∀ {xs : List V} {us : List Value} (i : Nat), Vals xs us → Vals (xs.set i x) (us.set i u)
  | _, _, _, .nil => .nil
  | _, _, 0, .cons _ t => .cons r t
  | _, _, i + 1, .cons q t => .cons q (Vals.set r i t)
theorem Vals.append : ∀ {xs ys : List V} {us ws : List Value}, Vals xs us → Vals ys ws → Vals (xs ++ ys) (us ++ ws)
  | _, _, _, _, .nil, s => s
  | _, _, _, _, .cons r t, s => .cons r (Vals.append t s)
theorem Vals.take : ∀ {xs : List V} {us : List Value} (n : Nat), Vals xs us → Vals (xs.take n) (us.take n)
  | _, _, 0, _ => .nil
  | _, _, _ + 1, .nil => .nil
  | _, _, n + 1, .cons r t => .cons r (Vals.take n t)
theorem Vals.drop : ∀ {xs : List V} {us : List Value} (n : Nat), Vals xs us → Vals (xs.drop n) (us.drop n)
  | _, _, 0, r => r
  | _, _, _ + 1, .nil => .nil
  | _, _, n + 1, .cons _ t => Vals.drop n t

def RelO : Option V → Option Value → Prop
  | some v, some u => RelV v u
  | none, none => True
  | _, _ => False
def KV {κ : Type} : List (κ × V) → List (κ × Value) → Prop := Paired fun (p : κ × V) (q : κ × Value) => p.1 = q.1 ∧ RelV p.2 q.2

/-- a key of a dict (00_mix): an int or a text -/
def kV : Key → V
  | .inl i => .int i
  | .inr x => .str x

/-- what stands at a tracked address -/
inductive HO where
  /-- a list -/
  | lst (xs : List V)
  /-- a tuple (never changes) -/
  | tup (xs : List V)
  /-- a dict whose keys are ints and texts; one whose keys are tuples of ints and texts (the empty one is both) -/
  | dK (kvs : List (Key × V)) | dT (kvs : List (List Key × V))
  /-- a set of ints: its members, its size -/
  | set (S : Int → Bool) (n : Nat)
  /-- an instance of the class at C, its dict at dx, its attributes -/
  | ins (C dx : Addr) (fs : List (Str × V))
  /-- the dict of the instance at x -/
  | own (x : Addr)
  /-- the dict of an exception -/
  | xd (fs : List (Str × V))
  /-- a bound method, f of x -/
  | met (f x : Addr)
  /-- a range object lo, lo + 1, .. below hi -/
  | rng (lo hi : Int)
  /-- a thing that is known to the object (the script; a dict while a loop walks it): read, never written while it is so -/
  | frz (o : Obj) (u : HO)
  /-- a code object's table -/
  | tbl (ps : Array Value)
  /-- any other thing, by what is true of its one object (a def of one's own: SetO a S n := HO.ext fun h => ..) -/
  | ext (φ : Heap → Prop)

abbrev Hp := Addr → Option HO
def upd (H : Hp) (a : Addr) (o : HO) : Hp := fun b => if b = a then some o else H b
theorem upd_same {H : Hp} {a : Addr} {o : HO} : upd H a o a = some o := by unfold upd; rw [if_pos rfl]
theorem upd_ne {H : Hp} {a b : Addr} {o : HO} (h : b ≠ a) : upd H a o b = H b := by unfold upd; rw [if_neg h]
theorem upd_upd {H : Hp} {a : Addr} {o u : HO} : upd (upd H a o) a u = upd H a u := by
  funext b; unfold upd; split <;> rfl
/-- two objects of different content stand apart -/
theorem ne_of {H : Hp} {a b : Addr} {o u : HO} (h : H a = some o) (h' : H b = some u) (d : o ≠ u) : a ≠ b := by
  intro e; subst e; rw [h] at h'; exact d (Option.some.inj h')
theorem ne_of_none {H : Hp} {a b : Addr} {o : HO} (h : H a = some o) (h' : H b = none) : a ≠ b := by
  intro e; subst e; rw [h] at h'; cases h'

section
variable (P : Program) (w : World)
def ObjOk (H : Hp) (h : Heap) (a : Addr) : HO → Prop
  | .lst xs => xs.length ≤ sizeLine ∧ ∃ (its : List Value) (n : Nat), Vals xs its ∧ h.get? a = some { cls := .type "list", data := .seq its.toArray n }
  | .tup xs => xs.length ≤ sizeLine ∧ ∃ its : List Value, Vals xs its ∧ IsTup h a its.toArray
  | .dK kvs => kvs.length ≤ sizeLine ∧ (a == sysModules) = false ∧ ∃ vs, KV kvs vs ∧ h.DictOf (mixKind P w) a vs
  | .dT kvs => kvs.length ≤ sizeLine ∧ (a == sysModules) = false ∧ ∃ xs : List (List Key × Addr × Value),
      Paired (fun (p : List Key × V) (q : List Key × Addr × Value) => p.1 = q.1 ∧ H q.2.1 = some (.tup (p.1.map kV)) ∧ RelV p.2 q.2.2) kvs xs ∧
      ∃ o es ep, h.get? a = some o ∧ o.ExactDict ∧ o.data = .dict es ep ∧ es.toList = xs.map (entryOfKey (tupleKind (mixKind P w))) ∧ (xs.map (·.1)).Nodup
  | .set S n => h.SetOf (intKind P w) a S n
  | .ins C dx fs => H dx = some (.own a) ∧ fs.length ≤ 1000 ∧ dx ≠ a ∧ h.get? a = some (PySem.W.instObj C dx) ∧
      ∃ mA, h.Ns1 dx mA ∧ (∀ f, RelO (fs.lookup f) (mA f)) ∧ PySem.Within mA (fs.map (·.1))
  | .own _ => ∃ o, h.get? a = some o
  | .xd fs => ∃ mA, h.Ns1 a mA ∧ ∀ f, RelO (fs.lookup f) (mA f)
  | .rng lo hi => ∃ t u v, h.get? a = some { cls := .type "range", data := .fields #[.int lo t, .int hi u, .int 1 v] }
  | .frz o u => h.get? a = some o ∧ ObjOk H h a u
  | .tbl ps => h.get? a = some { cls := .none, data := .fields ps }
  | .met f x => h.get? a = some (PySem.W.methodObj (.ref f) (.ref x))
  | .ext φ => φ h ∧ (∃ o, h.get? a = some o) ∧ ∀ h1 h2 : Heap, φ h1 → (∀ o, h1.get? a = some o → h2.get? a = some o) → φ h2
/-- the abstract heap is held -/
def HOk (H : Hp) (h : Heap) : Prop := ∀ a o, H a = some o → ObjOk P w H h a o
end

section
variable {P : Program} {w : World} {H H' : Hp} {h h' : Heap} {a : Addr} {o : HO}
theorem ObjOk.lt (x : ObjOk P w H h a o) : a < h.objs.size := by
  cases o with
  | lst xs => obtain ⟨_, _, _, _, e⟩ := x; exact Heap.lt_size e
  | tup xs => obtain ⟨_, _, _, p⟩ := x; exact p.lt
  | dK kvs => obtain ⟨_, _, _, _, o, _, _, e, _⟩ := x; exact Heap.lt_size e
  | dT kvs => obtain ⟨_, _, _, _, o, _, _, e, _⟩ := x; exact Heap.lt_size e
  | set S n => obtain ⟨o, _, _, _, e, _⟩ := x; exact Heap.lt_size e
  | ins C dx fs => obtain ⟨_, _, _, e, _⟩ := x; exact Heap.lt_size e
  | own y => obtain ⟨_, e⟩ := x; exact Heap.lt_size e
  | xd fs => obtain ⟨_, ⟨_, _, _, e, _⟩, _⟩ := x; exact Heap.lt_size e
  | rng lo hi => obtain ⟨_, _, _, e⟩ := x; exact Heap.lt_size e
  | frz ob u => obtain ⟨e, _⟩ := x; exact Heap.lt_size e
  | tbl ps => exact Heap.lt_size (show h.get? a = some _ from x)
  | met f y => exact Heap.lt_size (show h.get? a = some _ from x)
  | ext φ => obtain ⟨_, ⟨_, e⟩, _⟩ := x; exact Heap.lt_size e
theorem Paired.mapP {α β : Type} {F G : α → β → Prop} : ∀ {l₁ : List α} {l₂ : List β}, Paired F l₁ l₂ → (∀ a b, F a b → G a b) → Paired G l₁ l₂
  | _, _, .nil, _ => .nil
  | _, _, .cons r t, f => .cons (f _ _ r) (Paired.mapP t f)
/-- what an object's description leans on: its own object, its own dict, the tuples -/
theorem ObjOk.stay (x : ObjOk P w H h a o) (k : ∀ b u, (b = a ∨ H b = some (.own a)) → h.get? b = some u → h'.get? b = some u)
    (ho : ∀ b, H b = some (.own a) → H' b = some (.own a)) (ht : ∀ b xs, H b = some (.tup xs) → H' b = some (.tup xs)) : ObjOk P w H' h' a o := by
  induction o with
  | lst xs => obtain ⟨z, its, n, r, e⟩ := x; exact ⟨z, its, n, r, k _ _ (.inl rfl) e⟩
  | tup xs => obtain ⟨z, its, r, ob, e, c⟩ := x; exact ⟨z, its, r, ob, k _ _ (.inl rfl) e, c⟩
  | dK kvs => obtain ⟨z, y, vs, r, ob, es, ep, e, c⟩ := x; exact ⟨z, y, vs, r, ob, es, ep, k _ _ (.inl rfl) e, c⟩
  | dT kvs =>
    obtain ⟨z, y, xs, r, ob, es, ep, e, c⟩ := x
    exact ⟨z, y, xs, Paired.mapP r fun p q z => ⟨z.1, ht _ _ z.2.1, z.2.2⟩, ob, es, ep, k _ _ (.inl rfl) e, c⟩
  | set S n => obtain ⟨ob, es, ep, t, e, c⟩ := x; exact ⟨ob, es, ep, t, k _ _ (.inl rfl) e, c⟩
  | ins C dx fs =>
    obtain ⟨d, z, ne, e, mA, ⟨od, es, ep, e2, c⟩, r⟩ := x
    exact ⟨ho _ d, z, ne, k _ _ (.inl rfl) e, mA, ⟨od, es, ep, k _ _ (.inr d) e2, c⟩, r⟩
  | own y => obtain ⟨ob, e⟩ := x; exact ⟨ob, k _ _ (.inl rfl) e⟩
  | xd fs => obtain ⟨mA, ⟨od, es, ep, e, c⟩, r⟩ := x; exact ⟨mA, ⟨od, es, ep, k _ _ (.inl rfl) e, c⟩, r⟩
  | rng lo hi => obtain ⟨t, u, v, e⟩ := x; exact ⟨t, u, v, k _ _ (.inl rfl) e⟩
  | frz ob u ih => obtain ⟨e, q⟩ := x; exact ⟨k _ _ (.inl rfl) e, ih q⟩
  | tbl ps =>
    have e : h.get? a = some { cls := .none, data := .fields ps } := x
    show h'.get? a = some { cls := .none, data := .fields ps }
    exact k a _ (.inl rfl) e
  | met f y =>
    have e : h.get? a = some (PySem.W.methodObj (.ref f) (.ref y)) := x
    show h'.get? a = some (PySem.W.methodObj (.ref f) (.ref y))
    exact k a _ (.inl rfl) e
  | ext φ => obtain ⟨p, ⟨o, e⟩, st⟩ := x; exact ⟨st _ _ p fun o q => k _ _ (.inl rfl) q, ⟨o, k _ _ (.inl rfl) e⟩, st⟩
theorem HOk.lt (x : HOk P w H h) (e : H a = some o) : a < h.objs.size := (x a o e).lt
theorem HOk.fresh (x : HOk P w H h) (e : h.objs.size ≤ a) : H a = none := by
  cases q : H a with
  | none => rfl
  | some u => exact absurd (Nat.lt_of_lt_of_le (x.lt q) e) (Nat.lt_irrefl _)
/-- every object of the heap is kept -/
theorem HOk.kept (x : HOk P w H h) (k : ∀ b u, h.get? b = some u → h'.get? b = some u) : HOk P w H h' := fun a o e =>
  (x a o e).stay (fun b u _ q => k b u q) (fun _ q => q) fun _ _ q => q
/-- a new object is laid and tracked -/
theorem HOk.laid (x : HOk P w H h) (k : ∀ b u, h.get? b = some u → h'.get? b = some u) (hp : h.objs.size ≤ a) (new : ObjOk P w (upd H a o) h' a o) : HOk P w (upd H a o) h' := fun b u e => by
  have hn := x.fresh hp
  by_cases hb : b = a
  · subst hb; rw [upd_same] at e; cases e; exact new
  · rw [upd_ne hb] at e
    exact (x b u e).stay (fun c v _ q => k c v q) (fun c q => by rw [upd_ne (ne_of_none q hn)]; exact q) fun c xs q => by rw [upd_ne (ne_of_none q hn)]; exact q
end

/-- what may be read as u: it is u, or a known u -/
def Rd (H : Hp) (a : Addr) (u : HO) : Prop := H a = some u ∨ ∃ o, H a = some (.frz o u)
theorem Rd.ok {P : Program} {w : World} {H : Hp} {h : Heap} {a : Addr} {u : HO} (r : Rd H a u) (x : HOk P w H h) : ObjOk P w H h a u := by
  rcases r with r | ⟨o, r⟩
  · exact x a u r
  · obtain ⟨_, q⟩ := x a _ r
    exact q
/-- what may be written -/
def Mut : Option HO → Prop
  | some (.lst _) => True
  | some (.dK _) => True
  | some (.dT _) => True
  | some (.set _ _) => True
  | some (.ins _ _ _) => True
  | some (.ext _) => True
  | _ => False
section
variable {P : Program} {w : World} {H : Hp} {h h' : Heap} {x e : Addr} {o' : HO}
/-- the object at e is changed: x itself, or the dict of the instance x -/
theorem HOk.write (ok : HOk P w H h) (mu : Mut (H x)) (he : e = x ∨ H e = some (.own x)) (k : ∀ b u, b ≠ e → h.get? b = some u → h'.get? b = some u) (heo : ∃ u, h'.get? e = some u)
    (new : ObjOk P w (upd H x o') h' x o') : HOk P w (upd H x o') h' := fun b u q => by
  have nown : ∀ c y, H c = some (.own y) → c ≠ x := fun c y r z => by subst z; rw [r] at mu; exact mu
  have ntup : ∀ c xs, H c = some (.tup xs) → c ≠ x := fun c xs r z => by subst z; rw [r] at mu; exact mu
  by_cases hb : b = x
  · subst hb; rw [upd_same] at q; cases q; exact new
  · rw [upd_ne hb] at q
    by_cases hbe : b = e
    · have q' : H b = some (.own x) := by
        rcases he with z | z
        · exact absurd (hbe.trans z) hb
        · rw [hbe]; exact z
      rw [q] at q'; cases q'
      obtain ⟨v, hv⟩ := heo
      exact ⟨v, by rw [hbe]; exact hv⟩
    · refine (ok b u q).stay (fun c v hc r => k c v ?_ r) (fun c r => by rw [upd_ne (nown c b r)]; exact r) fun c xs r => by rw [upd_ne (ntup c xs r)]; exact r
      rcases hc with rfl | hc
      · exact hbe
      · rintro rfl
        rcases he with z | z
        · exact nown c b hc z
        · rw [hc] at z; cases z; exact hb rfl
end

/-! ### kept unless tracked; of the frames at fs (the callers') the slots may change (an exception that passes writes there); of the records at ex (iterators) nothing is said -/
structure Un (fs ex : List Addr) (H H' : Hp) (h h' : Heap) : Prop where
  keep : ∀ b o, h.get? b = some o → H b = none → b ∉ fs → b ∉ ex → h'.get? b = some o
  slot : ∀ b o, h.get? b = some o → H b = none → b ∈ fs → b ∉ ex → ∃ sl, h'.get? b = some { o with slots := sl }
  free : ∀ b o, h.get? b = some o → H b = none → b ∉ ex → H' b = none
  there : ∀ b o, h.get? b = some o → b ∉ ex → ∃ o', h'.get? b = some o'
  tups : ∀ b xs, H b = some (.tup xs) → H' b = some (.tup xs)
  frzs : ∀ b o u, H b = some (.frz o u) → H' b = some (.frz o u)
  tbls : ∀ b ps, H b = some (.tbl ps) → ∃ more, H' b = some (.tbl (ps ++ more))
section
variable {fs fs' ex ex' : List Addr} {H H1 H2 : Hp} {h h1 h2 h' : Heap} {a x e : Addr} {o : HO}
theorem Un.any (u : Un fs ex H H1 h h1) {b : Addr} {ob : Obj} (q : h.get? b = some ob) (n : H b = none) (hx : b ∉ ex) : ∃ sl, h1.get? b = some { ob with slots := sl } := by
  by_cases hb : b ∈ fs
  · exact u.slot b ob q n hb hx
  · exact ⟨ob.slots, u.keep b ob q n hb hx⟩
theorem Un.kept (k : ∀ b u, h.get? b = some u → h'.get? b = some u) : Un fs ex H H h h' :=
  ⟨fun b ob q _ _ _ => k b ob q, fun b ob q _ _ _ => ⟨ob.slots, k b ob q⟩, fun _ _ _ n _ => n, fun b ob q _ => ⟨ob, k b ob q⟩, fun _ _ q => q, fun _ _ _ q => q, fun _ ps q => ⟨#[], by rw [q]; simp⟩⟩
theorem Un.refl : Un fs ex H H h h := Un.kept fun _ _ q => q
theorem Un.laid (k : ∀ b u, h.get? b = some u → h'.get? b = some u) (hp : h.objs.size ≤ a) (hn : H a = none) : Un fs ex H (upd H a o) h h' where
  keep := fun b u q _ _ _ => k b u q
  slot := fun b u q _ _ _ => ⟨u.slots, k b u q⟩
  free := fun b u q n _ => by rw [upd_ne (Nat.ne_of_lt (Nat.lt_of_lt_of_le (Heap.lt_size q) hp))]; exact n
  there := fun b u q _ => ⟨u, k b u q⟩
  tups := fun b xs q => by rw [upd_ne (ne_of_none q hn)]; exact q
  frzs := fun b u xs q => by rw [upd_ne (ne_of_none q hn)]; exact q
  tbls := fun b ps q => ⟨#[], by rw [upd_ne (ne_of_none q hn), q]; simp⟩
theorem Un.write (mu : Mut (H x)) (he : e = x ∨ H e = some (.own x)) (k : ∀ b u, b ≠ e → h.get? b = some u → h'.get? b = some u) (heo : ∃ u, h'.get? e = some u) : Un fs ex H (upd H x o) h h' := by
  have hx : ∀ b, H b = none → b ≠ x := fun b n z => by subst z; rw [n] at mu; exact mu
  have hb : ∀ b, H b = none → b ≠ e := fun b n z => by
    subst z
    rcases he with r | r
    · exact hx b n r
    · rw [n] at r; cases r
  have hm : ∀ b u, H b = some u → ¬ Mut (some u) → b ≠ x := fun b u q nm z => by subst z; rw [q] at mu; exact nm mu
  refine ⟨fun b u q n _ _ => k b u (hb b n) q, fun b u q n _ _ => ⟨u.slots, k b u (hb b n) q⟩, fun b u q n _ => by rw [upd_ne (hx b n)]; exact n, fun b u q _ => ?_,
    fun b xs q => by rw [upd_ne (hm b _ q fun z => z)]; exact q, fun b u xs q => by rw [upd_ne (hm b _ q fun z => z)]; exact q, fun b ps q => ⟨#[], by rw [upd_ne (hm b _ q fun z => z), q]; simp⟩⟩
  by_cases hbe : b = e
  · subst hbe; exact heo
  · exact ⟨u, k b u hbe q⟩
end

/-! ### the heap without what is tracked -/
def trk (h : Heap) (H : Hp) : List Addr := (List.range h.objs.size).filter fun a => (H a).isSome
def hidT (h : Heap) (H : Hp) : Heap := PySem.W.hideAll h (trk h H)
theorem hidT_size (h : Heap) (H : Hp) : (hidT h H).objs.size = h.objs.size := PySem.W.hideAll_size _ _
theorem hidT_get {h : Heap} {H : Hp} {b : Addr} {o : Obj} (e : h.get? b = some o) (n : H b = none) : (hidT h H).get? b = some o :=
  PySem.W.hideAll_get _ e fun hm => by
    have q : (H b).isSome = true := (List.mem_filter.mp hm).2
    rw [n] at q; simp at q
theorem of_hidT {h : Heap} {H : Hp} {b : Addr} {o : Obj} (e : (hidT h H).get? b = some o) : h.get? b = some o ∧ H b = none := by
  have e' : h.get? b = some o := PySem.W.of_hideAll (trk h H) e
  refine ⟨e', ?_⟩
  cases q : H b with
  | none => rfl
  | some x =>
    have hm : b ∈ trk h H := List.mem_filter.mpr ⟨List.mem_range.mpr (Heap.lt_size e'), by simp [q]⟩
    have z : (hidT h H).get? b = none := PySem.W.hideAll_none (trk h H) hm
    rw [z] at e; cases e

/-! ### OpenK's ledger, filled with every new object but one -/
end L2

namespace L2
open PySem PySem.Spec PyProof.Rows

/-- the module's facts, over the base: the heap at the law's entry without what is tracked there -/
structure Mod (K : PySem.W.Frag) (mg : Str → Option Value) (base : Heap) : Prop where
  kin : K.In base
  glob : base.Ns mainGlobals mg
  blt : ∃ mb, base.Ns builtinsNs mb ∧ ∀ x : Str, x ≠ "__name__" → mb x = bootBuiltins x
  nolimit : base.NoLimit

/-- the context: a def's body (or a comprehension's block) running. base: fixed through the whole law; s₀, H₀: the entry; outer: the frames whose slots others may change (a def's callers); stack: all frames that run;
   ex: iterators that were made ahead of the entry and are walked here (a comprehension's); fn: the names whose cells were made at the entry (a def: all; a comprehension's block: its own); calm: not within an except suite; pn: pins that every state bears; xe: what is wanted of an exception that leaves the code -/
structure Cx where
  prog : Program
  w : World
  K : PySem.W.Frag
  mg : Str → Option Value
  base : Heap
  A : Around
  N : List Str
  s₀ : Shared
  H₀ : Hp
  env : Env
  outer : List Env
  stack : List Env
  ex : List Addr
  fn : Str → Bool
  calm : Bool
  pn : List (Addr × Obj)
  xe : Value → Shared → Prop
/-- the callers' frames -/
def frs (l : List Env) : List Addr := l.filterMap (·.frame)
abbrev Cx.fs (X : Cx) : List Addr := frs X.outer

def Vis (sc : Scope) (x : Str) : Prop := sc.names.lookup x = some .local ∨ sc.names.lookup x = some .cell ∨ sc.names.lookup x = some .free
def Loc (sc : Scope) (x : Str) : Prop := sc.names.lookup x = some .local ∨ sc.names.lookup x = some .cell
def Look (env : Env) (h : Heap) (m : Str → Option Value) (x : Str) (u : Value) : Prop :=
  (env.kindOf x = some .local ∧ m x = some u) ∨ ((env.kindOf x = some .cell ∨ env.kindOf x = some .free) ∧ ∃ c, env.cells.lookup x = some c ∧ h.IsCell c (some u))

structure Cx.Ok (X : Cx) : Prop where
  mod : Mod X.K X.mg X.base
  kind : X.env.scope.kind = .function
  glob : X.env.globals = mainGlobals
  blt : X.env.builtins = builtinsNs
  above : X.s₀.heap.objs.size ≤ X.env.locals
  inj : ∀ x y c, X.env.cells.lookup x = some c → X.env.cells.lookup y = some c → x = y
  has : ∀ x, (X.env.kindOf x = some .cell ∨ X.env.kindOf x = some .free) → ∃ c, X.env.cells.lookup x = some c
  cab : ∀ x c, X.fn x = true → X.env.cells.lookup x = some c → X.s₀.heap.objs.size ≤ c
  hd : X.calm = true → X.A.handled = none
  frames : X.A.frames = some X.stack
  stk : X.stack = X.outer ∨ (X.stack = X.env :: X.outer ∧ X.env.frame = some X.env.locals)
  exf : ∀ b ∈ X.ex, b ≠ X.env.locals ∧ ∀ x c, X.env.cells.lookup x = some c → c ≠ b
  bs : ∀ b o, X.base.get? b = some o → X.s₀.heap.get? b = some o ∧ X.H₀ b = none
  bsz : X.base.objs.size ≤ X.s₀.heap.objs.size
  noex : ∀ b o, X.base.get? b = some o → b ∉ X.ex
  exfs : ∀ b ∈ X.ex, b ∉ X.fs
  funs : X.s₀.heap.FunFrames X.base X.outer
  frf : ∀ b ∈ X.fs, X.H₀ b = none

structure Inv (X : Cx) (pins : List (Addr × Obj)) (σ : List (Option V)) (H : Hp) (s : Shared) : Prop where
  ok : X.Ok
  os : s.os = X.s₀.os
  bare : AllBare s.gens
  base : Un X.fs X.ex X.H₀ H X.s₀.heap s.heap
  loc : ∃ m, s.heap.Ns X.env.locals m ∧ ∀ (i : Nat) (x : Str) (v : V), X.N[i]? = some x → σ[i]? = some (some v) → Vis X.env.scope x → ∃ u, RelV v u ∧ Look X.env s.heap m x u
  cell : ∀ x c, X.env.cells.lookup x = some c → ∃ v, s.heap.IsCell c v
  free : H X.env.locals = none
  freeC : ∀ x c, X.env.cells.lookup x = some c → H c = none
  pin : ∀ p ∈ X.pn ++ pins, s.heap.get? p.1 = some p.2 ∧ H p.1 = none ∧ p.1 ≠ X.env.locals ∧ p.1 ∉ X.fs ∧ ∀ v, p.2.data ≠ .cell v
  hok : HOk X.prog X.w H s.heap
  len : σ.length = X.N.length

section
variable {X : Cx} {pins : List (Addr × Obj)} {σ : List (Option V)} {H H' : Hp} {s : Shared} {h' : Heap}

theorem Cx.Ok.nofr (ok : X.Ok) {b : Addr} {o : Obj} (e : X.base.get? b = some o) : b ∉ X.fs := fun hb => by
  have := (ok.funs.mem hb).1
  rw [e] at this; cases this
theorem Inv.bs (I : Inv X pins σ H s) : ∀ b o, X.base.get? b = some o → s.heap.get? b = some o ∧ H b = none := fun b o e =>
  ⟨I.base.keep b o (I.ok.bs b o e).1 (I.ok.bs b o e).2 (I.ok.nofr e) (I.ok.noex b o e), I.base.free b o (I.ok.bs b o e).1 (I.ok.bs b o e).2 (I.ok.noex b o e)⟩
theorem Inv.bk (I : Inv X pins σ H s) : ∀ b o, X.base.get? b = some o → s.heap.get? b = some o := fun b o e => (I.bs b o e).1
theorem Inv.mod (I : Inv X pins σ H s) : Mod X.K X.mg X.base := I.ok.mod
theorem Inv.kIn (I : Inv X pins σ H s) : X.K.In s.heap := I.ok.mod.kin.keeps I.bk
/-- the frame over the base: for OpenK's rules (K.In X.base is I.mod.kin) -/
theorem Inv.fr (I : Inv X pins σ H s) : ∃ m, Fr X.base X.env.locals s.heap m :=
  let ⟨m, hn, _⟩ := I.loc
  ⟨m, hn, I.bk, Nat.le_trans I.ok.bsz I.ok.above⟩
theorem Inv.lt (I : Inv X pins σ H s) : X.env.locals < s.heap.objs.size := let ⟨_, hn, _⟩ := I.loc; hn.lt
theorem Inv.sz (I : Inv X pins σ H s) : X.s₀.heap.objs.size ≤ s.heap.objs.size := Nat.le_trans I.ok.above (Nat.le_of_lt I.lt)
theorem Inv.nofs (I : Inv X pins σ H s) {a : Addr} (h : s.heap.objs.size ≤ a) : a ∉ X.fs := fun hb => by
  obtain ⟨_, o, ho, _⟩ := I.ok.funs.mem hb
  exact absurd (Nat.lt_of_lt_of_le (Heap.lt_size ho) (Nat.le_trans I.sz h)) (Nat.lt_irrefl _)
theorem Inv.cne (I : Inv X pins σ H s) : ∀ x c, X.env.cells.lookup x = some c → c ≠ X.env.locals := fun x c e z => by
  obtain ⟨v, o, ho, hd⟩ := I.cell x c e
  obtain ⟨m, ⟨o', es, ep, ho', hd', _⟩, _⟩ := I.loc
  rw [z, ho'] at ho; cases ho; rw [hd'] at hd; cases hd
theorem Inv.funs (I : Inv X pins σ H s) : s.heap.FunFrames X.base X.outer := by
  have all : ∀ (l : List Env), (∀ b ∈ frs l, b ∈ X.fs) → X.s₀.heap.FunFrames X.base l → s.heap.FunFrames X.base l := by
    intro l
    induction l with
    | nil => intro _ _; trivial
    | cons env r ih =>
      intro hs hl
      obtain ⟨hk, ⟨L, o, hf, hn, ho, hd⟩, hr⟩ := hl
      have hL : L ∈ X.fs := hs L (by unfold frs; rw [List.filterMap_cons, hf]; exact List.mem_cons_self)
      obtain ⟨sl, e⟩ := I.base.slot L o ho (I.ok.frf L hL) hL fun z => I.ok.exfs L z hL
      exact ⟨hk, ⟨L, _, hf, hn, e, hd⟩, ih (fun b hb => hs b (by unfold frs; rw [List.filterMap_cons, hf]; exact List.mem_cons_of_mem _ hb)) hr⟩
  exact all X.outer (fun _ hb => hb) I.ok.funs

/-- the frames that run, for a call -/
theorem Inv.stack (I : Inv X pins σ H s) : s.heap.FunFrames X.base X.stack := by
  rcases I.ok.stk with e | ⟨e, hf⟩
  · rw [e]; exact I.funs
  · rw [e]
    obtain ⟨m, hn, _⟩ := I.loc
    refine .cons (by rw [I.ok.kind]; decide) hf hn ?_ I.funs
    exact Heap.get?_none_of_le (Nat.le_trans I.ok.bsz I.ok.above)
theorem Inv.stkSub (I : Inv X pins σ H s) : ∀ b ∈ frs X.stack, b ∈ X.env.locals :: X.fs := fun b hb => by
  rcases I.ok.stk with e | ⟨e, hf⟩
  · rw [e] at hb; exact List.mem_cons_of_mem _ hb
  · rw [e] at hb
    unfold frs at hb
    rw [List.filterMap_cons, hf] at hb
    exact hb
theorem Inv.stkFree (I : Inv X pins σ H s) : ∀ b ∈ frs X.stack, H b = none := fun b hb => by
  rcases List.mem_cons.mp (I.stkSub b hb) with e | hb
  · rw [e]; exact I.free
  · obtain ⟨_, o, ho, _⟩ := I.ok.funs.mem hb
    exact I.base.free b o ho (I.ok.frf b hb) fun z => I.ok.exfs b z hb

/-- THE STEP: the untracked objects but the frame and the records at ch are kept (the callers' frames up to slots), the frame's map is kept, the new abstract heap is held -/
theorem Inv.step {g' : Array GenState} {t' : Nat} {d' : Drawn} {ch : List Addr} (I : Inv X pins σ H s)
    (hch : ∀ b ∈ ch, (b ∈ X.ex ∨ X.s₀.heap.objs.size ≤ b) ∧ b ≠ X.env.locals ∧ (∀ x c, X.env.cells.lookup x = some c → c ≠ b) ∧ ∀ p ∈ X.pn ++ pins, p.1 ≠ b)
    (keep : ∀ b o, b ≠ X.env.locals → b ∉ X.fs → b ∉ ch → s.heap.get? b = some o → H b = none → h'.get? b = some o)
    (slot : ∀ b o, b ≠ X.env.locals → b ∈ X.fs → b ∉ ch → s.heap.get? b = some o → H b = none → ∃ sl, h'.get? b = some { o with slots := sl }) (free : ∀ b o, b ∉ ch → s.heap.get? b = some o → H b = none → H' b = none)
    (there : ∀ b o, b ∉ ch → s.heap.get? b = some o → ∃ o', h'.get? b = some o')
    (tups : ∀ b xs, H b = some (.tup xs) → H' b = some (.tup xs)) (frzs : ∀ b o u, H b = some (.frz o u) → H' b = some (.frz o u)) (tbls : ∀ b ps, H b = some (.tbl ps) → ∃ more, H' b = some (.tbl (ps ++ more)))
    (ns : ∀ m, s.heap.Ns X.env.locals m → h'.Ns X.env.locals m) (hok : HOk X.prog X.w H' h') (hg : AllBare g') :
    Inv X pins σ H' { s with heap := h', gens := g', drawn := d', toks := t' } := by
  have neL : ∀ b o, X.s₀.heap.get? b = some o → b ≠ X.env.locals := fun b o e => Nat.ne_of_lt (Nat.lt_of_lt_of_le (Heap.lt_size e) I.ok.above)
  have neC : ∀ b o, X.s₀.heap.get? b = some o → b ∉ X.ex → b ∉ ch := fun b o e hx hb => by
    rcases (hch b hb).1 with z | z
    · exact hx z
    · exact absurd (Nat.lt_of_lt_of_le (Heap.lt_size e) z) (Nat.lt_irrefl _)
  have cellK : ∀ x c, X.env.cells.lookup x = some c → ∀ v, s.heap.IsCell c v → h'.IsCell c v := fun x c e v ⟨o, ho, hd⟩ => by
    have nch : c ∉ ch := fun z => (hch c z).2.2.1 x c e rfl
    by_cases hc : c ∈ X.fs
    · obtain ⟨sl, q⟩ := slot c o (I.cne x c e) hc nch ho (I.freeC x c e)
      exact ⟨_, q, hd⟩
    · exact ⟨o, keep c o (I.cne x c e) hc nch ho (I.freeC x c e), hd⟩
  refine ⟨I.ok, I.os, hg, ⟨fun b o e n hb hx => ?_, fun b o e n hb hx => ?_, fun b o e n hx => ?_, fun b o e hx => ?_, fun b xs e => tups b xs (I.base.tups b xs e), fun b o xs e => frzs b o xs (I.base.frzs b o xs e), fun b ps e => ?_⟩, ?_, fun x c e => ?_, ?_, fun x c e => ?_, fun p hp => ?_, hok, I.len⟩
  · exact keep b o (neL b o e) hb (neC b o e hx) (I.base.keep b o e n hb hx) (I.base.free b o e n hx)
  · obtain ⟨sl, e1⟩ := I.base.slot b o e n hb hx
    obtain ⟨sl', e2⟩ := slot b _ (neL b o e) hb (neC b o e hx) e1 (I.base.free b o e n hx)
    exact ⟨sl', e2⟩
  · obtain ⟨o', e1⟩ := I.base.there b o e hx
    exact free b o' (neC b o e hx) e1 (I.base.free b o e n hx)
  · obtain ⟨o', e1⟩ := I.base.there b o e hx
    exact there b o' (neC b o e hx) e1
  · obtain ⟨m1, e1⟩ := I.base.tbls b ps e
    obtain ⟨m2, e2⟩ := tbls b _ e1
    exact ⟨m1 ++ m2, by rw [e2, Array.append_assoc]⟩
  · obtain ⟨m, hn, hl⟩ := I.loc
    refine ⟨m, ns m hn, fun i x v e1 e2 e3 => ?_⟩
    obtain ⟨u, r, l⟩ := hl i x v e1 e2 e3
    refine ⟨u, r, ?_⟩
    rcases l with l | ⟨k, c, e, z⟩
    · exact .inl l
    · exact .inr ⟨k, c, e, cellK x c e _ z⟩
  · obtain ⟨v, z⟩ := I.cell x c e
    exact ⟨v, cellK x c e v z⟩
  · obtain ⟨m, ⟨o, _, _, ho, _⟩, _⟩ := I.loc
    exact free _ o (fun z => (hch _ z).2.1 rfl) ho I.free
  · obtain ⟨v, o, ho, hd⟩ := I.cell x c e
    exact free c o (fun z => (hch c z).2.2.1 x c e rfl) ho (I.freeC x c e)
  · obtain ⟨e, n, ne, nf, d⟩ := I.pin p hp
    have nch : p.1 ∉ ch := fun z => (hch p.1 z).2.2.2 p hp rfl
    exact ⟨keep p.1 p.2 ne nf nch e n, free p.1 p.2 nch e n, ne, nf, d⟩
/-- .. where the frame's own object is kept too -/
theorem Inv.un {t' : Nat} (I : Inv X pins σ H s) (u : Un X.fs [] H H' s.heap h') (hok : HOk X.prog X.w H' h') : Inv X pins σ H' { s with heap := h', toks := t' } := by
  obtain ⟨m, ⟨o, es, ep, ho, r⟩, _⟩ := id I.loc
  obtain ⟨sl, hL⟩ := u.any ho I.free (by simp)
  exact I.step (g' := s.gens) (d' := s.drawn) (ch := []) (fun _ z => nomatch z) (fun b o _ hb _ e n => u.keep b o e n hb (by simp)) (fun b o _ hb _ e n => u.slot b o e n hb (by simp)) (fun b o _ e n => u.free b o e n (by simp)) (fun b o _ e => u.there b o e (by simp)) u.tups u.frzs u.tbls (fun m' hm => by
    obtain ⟨o', es', ep', ho', r'⟩ := hm
    rw [ho] at ho'; cases ho'
    exact ⟨_, es', ep', hL, r'⟩) hok I.bare
/-- behind a call (or a comprehension's block): the slots of this frame may have changed too, the records at ch may have turned -/
theorem Inv.call {g' : Array GenState} {t' : Nat} {d' : Drawn} {ch : List Addr} (I : Inv X pins σ H s) (u : Un (frs X.stack) ch H H' s.heap h') (hok : HOk X.prog X.w H' h') (hg : AllBare g')
    (hch : ∀ b ∈ ch, (b ∈ X.ex ∨ X.s₀.heap.objs.size ≤ b) ∧ b ≠ X.env.locals ∧ (∀ x c, X.env.cells.lookup x = some c → c ≠ b) ∧ ∀ p ∈ X.pn ++ pins, p.1 ≠ b) :
    Inv X pins σ H' { s with heap := h', gens := g', drawn := d', toks := t' } := by
  obtain ⟨m, ⟨o, es, ep, ho, r⟩, _⟩ := id I.loc
  obtain ⟨sl, hL⟩ := u.any ho I.free fun z => (hch _ z).2.1 rfl
  exact I.step (ch := ch) hch (fun b o hL hb hc e n => u.keep b o e n (fun z => (List.mem_cons.mp (I.stkSub b z)).elim hL hb) hc) (fun b o _ _ hc e n => u.any e n hc) (fun b o hc e n => u.free b o e n hc) (fun b o hc e => u.there b o e hc) u.tups u.frzs u.tbls (fun m' hm => by
    obtain ⟨o', es', ep', ho', r'⟩ := hm
    rw [ho] at ho'; cases ho'
    exact ⟨_, es', ep', hL, r'⟩) hok hg
/-- an untracked record of ours (an iterator) has turned -/
theorem Inv.turned {t' : Nat} {it : Addr} (I : Inv X pins σ H s) (k : ∀ b o, b ≠ it → s.heap.get? b = some o → h'.get? b = some o) (hn : H it = none) (hL : it ≠ X.env.locals)
    (h1 : it ∈ X.ex ∨ X.s₀.heap.objs.size ≤ it) (h2 : ∀ x c, X.env.cells.lookup x = some c → c ≠ it) (h3 : ∀ p ∈ X.pn ++ pins, p.1 ≠ it) : Inv X pins σ H { s with heap := h', toks := t' } := by
  have nit : ∀ b u, H b = some u → b ≠ it := fun b u e z => by rw [z, hn] at e; cases e
  refine I.step (g' := s.gens) (d' := s.drawn) (ch := [it]) (fun b hb => ?_) (fun b o _ _ hc e _ => k b o (fun z => hc (by simp [z])) e) (fun b o _ _ hc e _ => ⟨o.slots, k b o (fun z => hc (by simp [z])) e⟩) (fun _ _ _ _ n => n)
    (fun b o hc e => ⟨o, k b o (fun z => hc (by simp [z])) e⟩) (fun _ _ e => e) (fun _ _ _ e => e) (fun b ps e => ⟨#[], by rw [e]; simp⟩) (fun m hm => ?_) (fun b u e => ?_) I.bare
  · have e : b = it := by simpa using hb
    subst e
    exact ⟨h1, hL, h2, h3⟩
  · obtain ⟨o, es, ep, ho, r⟩ := hm
    exact ⟨o, es, ep, k _ o (Ne.symm hL) ho, r⟩
  · refine (I.hok b u e).stay (fun c v hc q => k c v ?_ q) (fun _ q => q) fun _ _ q => q
    rcases hc with z | z
    · rw [z]; exact nit b u e
    · exact nit c _ z
theorem Inv.tok (I : Inv X pins σ H s) (t : Nat) : Inv X pins σ H { s with toks := t } := I.un (h' := s.heap) (t' := t) Un.refl I.hok
/-- all objects kept -/
theorem Inv.kept {t' : Nat} (I : Inv X pins σ H s) (k : ∀ b u, s.heap.get? b = some u → h'.get? b = some u) : Inv X pins σ H { s with heap := h', toks := t' } := I.un (Un.kept k) (I.hok.kept k)
/-- a new object laid and tracked -/
theorem Inv.laid {a : Addr} {o : HO} {t' : Nat} (I : Inv X pins σ H s) (k : ∀ b u, s.heap.get? b = some u → h'.get? b = some u) (hp : s.heap.objs.size ≤ a) (new : ObjOk X.prog X.w (upd H a o) h' a o) :
    Inv X pins σ (upd H a o) { s with heap := h', toks := t' } := I.un (Un.laid k hp (I.hok.fresh hp)) (I.hok.laid k hp new)
/-- an object written -/
theorem Inv.write {x e : Addr} {o : HO} {t' : Nat} (I : Inv X pins σ H s) (mu : Mut (H x)) (he : e = x ∨ H e = some (.own x)) (k : ∀ b u, b ≠ e → s.heap.get? b = some u → h'.get? b = some u) (heo : ∃ u, h'.get? e = some u)
    (new : ObjOk X.prog X.w (upd H x o) h' x o) : Inv X pins σ (upd H x o) { s with heap := h', toks := t' } := I.un (Un.write mu he k heo) (I.hok.write mu he k heo new)
theorem Inv.pins_of {pins' : List (Addr × Obj)} (I : Inv X pins σ H s) (h : ∀ p ∈ pins', s.heap.get? p.1 = some p.2 ∧ H p.1 = none ∧ p.1 ≠ X.env.locals ∧ p.1 ∉ X.fs ∧ ∀ v, p.2.data ≠ .cell v) : Inv X pins' σ H s :=
  ⟨I.ok, I.os, I.bare, I.base, I.loc, I.cell, I.free, I.freeC, fun p hp => (List.mem_append.mp hp).elim (fun z => I.pin p (List.mem_append_left _ z)) (h p), I.hok, I.len⟩

theorem nodup_ix {N : List Str} (hN : N.Nodup) {i j : Nat} {x : Str} (a : N[i]? = some x) (b : N[j]? = some x) : i = j := by
  obtain ⟨h1, e1⟩ := List.getElem?_eq_some_iff.mp a
  obtain ⟨h2, e2⟩ := List.getElem?_eq_some_iff.mp b
  exact (List.getElem_inj hN).mp (e1.trans e2.symm)

/-- a name is stored; what changed -/
theorem store_ok2 {M : Model} {A : Around} {E : Value → Shared → Prop} {i : Nat} {x : Str} {v : V} {u : Value} {Q : Unit → Shared → Prop} (I : Inv X pins σ H s) (hN : X.N.Nodup) (hi : X.N[i]? = some x) (hx : Loc X.env.scope x) (r : RelV v u)
    (h : ∀ s', Inv X pins (σ.set i (some v)) H s' → (∃ a, Heap.SameBut a s.heap s'.heap ∧ (a = X.env.locals ∨ X.env.cells.lookup x = some a)) → Q () s') (hf : X.fn x = true ∨ X.env.scope.names.lookup x = some .local := by first | exact .inl rfl | exact .inr rfl | assumption) : wpAny M A (storeName X.env x u) Q E s := by
  obtain ⟨m, hn, hl⟩ := id I.loc
  have hcls : (X.env.scope.kind == .class || (X.env.scope.kind == .module && X.env.locals != X.env.globals)) = false := by rw [I.ok.kind]; rfl
  have hiσ : i < σ.length := by rw [I.len]; exact (List.getElem?_eq_some_iff.mp hi).1
  have cne := I.cne
  have tracked : ∀ {a : Addr} {h' : Heap}, (∃ o, s.heap.get? a = some o ∧ H a = none) → Heap.SameBut a s.heap h' → HOk X.prog X.w H h' := fun {a h'} ha hs b ob e => by
    obtain ⟨_, _, hfree⟩ := ha
    refine (I.hok b ob e).stay (fun c w' hc q => (hs.2 c ?_).trans q) (fun _ q => q) fun _ _ q => q
    rintro rfl
    rcases hc with rfl | hc
    · rw [hfree] at e; cases e
    · rw [hfree] at hc; cases hc
  rcases hx with hk | hk
  · refine wpAny_storeName_local hk hn (fun h' hn' hs => ?_) hcls
    obtain ⟨oL, _, _, hoL, _⟩ := id hn
    refine h _ ⟨I.ok, I.os, I.bare, ⟨fun b o e n hb hx => ?_, fun b o e n hb hx => ?_, I.base.free, fun b o e hx => ?_, I.base.tups, I.base.frzs, I.base.tbls⟩, ⟨_, hn', fun j y v' e1 e2 e3 => ?_⟩, fun y c e => ?_, I.free, I.freeC, fun p hp => ?_, tracked ⟨oL, hoL, I.free⟩ hs, by simpa using I.len⟩ ⟨_, hs, .inl rfl⟩
    · exact (hs.2 b (Nat.ne_of_lt (Nat.lt_of_lt_of_le (Heap.lt_size e) I.ok.above))).trans (I.base.keep b o e n hb hx)
    · obtain ⟨sl, e1⟩ := I.base.slot b o e n hb hx
      exact ⟨sl, (hs.2 b (Nat.ne_of_lt (Nat.lt_of_lt_of_le (Heap.lt_size e) I.ok.above))).trans e1⟩
    · obtain ⟨o', e1⟩ := I.base.there b o e hx
      exact ⟨o', (hs.2 b (Nat.ne_of_lt (Nat.lt_of_lt_of_le (Heap.lt_size e) I.ok.above))).trans e1⟩
    · by_cases hj : j = i
      · subst hj
        rw [hi] at e1; cases e1
        rw [List.getElem?_set_self hiσ] at e2
        cases e2
        exact ⟨u, r, .inl ⟨hk, by simp⟩⟩
      · rw [List.getElem?_set_ne (Ne.symm hj)] at e2
        obtain ⟨u', r', q⟩ := hl j y v' e1 e2 e3
        refine ⟨u', r', ?_⟩
        rcases q with ⟨k, e⟩ | ⟨k, c, e, z⟩
        · refine .inl ⟨k, ?_⟩
          have : y ≠ x := fun e => hj (nodup_ix hN e1 (e ▸ hi))
          simp [this, e]
        · exact .inr ⟨k, c, e, z.sameBut hs (cne y c e)⟩
    · obtain ⟨w', z⟩ := I.cell y c e
      exact ⟨w', z.sameBut hs (cne y c e)⟩
    · obtain ⟨e, n, ne, nf, d⟩ := I.pin p hp
      exact ⟨(hs.2 p.1 ne).trans e, n, ne, nf, d⟩
  · have hfn : X.fn x = true := by
      rcases hf with z | z
      · exact z
      · rw [z] at hk; cases hk
    obtain ⟨c, hc⟩ := I.ok.has x (.inl hk)
    obtain ⟨w', z⟩ := I.cell x c hc
    refine wpAny_storeName_cell I.ok.kind hk hc z (fun h' hc' hs => ?_)
    obtain ⟨oc, hoc, hocd⟩ := id z
    refine h { s with heap := h' } ⟨I.ok, I.os, I.bare, ⟨fun b o e n hb hx => ?_, fun b o e n hb hx => ?_, I.base.free, fun b o e hx => ?_, I.base.tups, I.base.frzs, I.base.tbls⟩, ⟨m, hn.sameBut hs (Ne.symm (cne x c hc)), fun j y v' e1 e2 e3 => ?_⟩, fun y c' e => ?_, I.free, I.freeC, fun p hp => ?_, tracked ⟨oc, hoc, I.freeC x c hc⟩ hs, by simpa using I.len⟩ ⟨c, hs, .inr hc⟩
    · exact (hs.2 b (Nat.ne_of_lt (Nat.lt_of_lt_of_le (Heap.lt_size e) (I.ok.cab x c hfn hc)))).trans (I.base.keep b o e n hb hx)
    · obtain ⟨sl, e1⟩ := I.base.slot b o e n hb hx
      exact ⟨sl, (hs.2 b (Nat.ne_of_lt (Nat.lt_of_lt_of_le (Heap.lt_size e) (I.ok.cab x c hfn hc)))).trans e1⟩
    · obtain ⟨o', e1⟩ := I.base.there b o e hx
      exact ⟨o', (hs.2 b (Nat.ne_of_lt (Nat.lt_of_lt_of_le (Heap.lt_size e) (I.ok.cab x c hfn hc)))).trans e1⟩
    · by_cases hj : j = i
      · subst hj
        rw [hi] at e1; cases e1
        rw [List.getElem?_set_self hiσ] at e2
        cases e2
        exact ⟨u, r, .inr ⟨.inl hk, c, hc, hc'⟩⟩
      · rw [List.getElem?_set_ne (Ne.symm hj)] at e2
        obtain ⟨u', r', q⟩ := hl j y v' e1 e2 e3
        refine ⟨u', r', ?_⟩
        rcases q with q | ⟨k, c', e, z'⟩
        · exact .inl q
        · refine .inr ⟨k, c', e, z'.sameBut hs ?_⟩
          rintro rfl
          exact hj (nodup_ix hN e1 (I.ok.inj _ _ _ e hc ▸ hi))
    · by_cases hcc : c' = c
      · subst hcc; exact ⟨_, hc'⟩
      · obtain ⟨w2, z2⟩ := I.cell y c' e
        exact ⟨w2, z2.sameBut hs hcc⟩
    · obtain ⟨e, n, ne, nf, d⟩ := I.pin p hp
      refine ⟨(hs.2 p.1 ?_).trans e, n, ne, nf, d⟩
      intro q
      rw [q, hoc] at e
      have q' : oc = p.2 := Option.some.inj e
      exact d w' (by rw [← q']; exact hocd)
theorem store_ok {M : Model} {A : Around} {E : Value → Shared → Prop} {i : Nat} {x : Str} {v : V} {u : Value} {Q : Unit → Shared → Prop} (I : Inv X pins σ H s) (hN : X.N.Nodup) (hi : X.N[i]? = some x) (hx : Loc X.env.scope x) (r : RelV v u)
    (h : ∀ s', Inv X pins (σ.set i (some v)) H s' → Q () s') (hf : X.fn x = true ∨ X.env.scope.names.lookup x = some .local := by first | exact .inl rfl | exact .inr rfl | assumption) : wpAny M A (storeName X.env x u) Q E s :=
  store_ok2 I hN hi hx r (fun s' I' _ => h s' I') hf
/-- behind a call or a block, the state as it is -/
theorem Inv.call' {s' : Shared} {ch : List Addr} (I : Inv X pins σ H s) (ho : s'.os = s.os) (u : Un (frs X.stack) ch H H' s.heap s'.heap) (hok : HOk X.prog X.w H' s'.heap) (hg : AllBare s'.gens)
    (hch : ∀ b ∈ ch, (b ∈ X.ex ∨ X.s₀.heap.objs.size ≤ b) ∧ b ≠ X.env.locals ∧ (∀ x c, X.env.cells.lookup x = some c → c ≠ b) ∧ ∀ p ∈ X.pn ++ pins, p.1 ≠ b) : Inv X pins σ H' s' := by
  obtain ⟨h', g', d', t', o'⟩ := s'
  have e : o' = s.os := ho
  subst e
  exact I.call (g' := g') (t' := t') (d' := d') u hok hg hch
end

/-! ### the judgements -/
/-- an exception: its class, its own dict's address (where it has one), the abstract heap behind it -/
abbrev XK := Value → Option Addr → Hp → Prop
abbrev St := List (Option V)
abbrev VK := V → Hp → Prop
/-- an expression's reading; a test's; an argument list's -/
abbrev TE := St → Hp → VK → Prop
abbrev TT := St → Hp → (Bool → Hp → Prop) → Prop
abbrev TA := St → Hp → (List V → Hp → Prop) → Prop
/-- what is wanted behind a statement -/
structure Ends where
  nx : St → Hp → Prop
  rt : VK
  bk : St → Hp → Prop := fun _ _ => False
  ct : St → Hp → Prop := fun _ _ => False
abbrev TS := Ends → St → Hp → Prop

def EP (X : Cx) (pins : List (Addr × Obj)) (σ : St) (Q : VK) (u : Value) (s' : Shared) : Prop := ∃ v H', Inv X pins σ H' s' ∧ RelV v u ∧ Q v H'
def TP (X : Cx) (pins : List (Addr × Obj)) (σ : St) (Q : Bool → Hp → Prop) (b : Bool) (s' : Shared) : Prop := ∃ H', Inv X pins σ H' s' ∧ Q b H'
def AP (X : Cx) (pins : List (Addr × Obj)) (σ : St) (Q : List V → Hp → Prop) (us : List Value) (s' : Shared) : Prop := ∃ vs H', Inv X pins σ H' s' ∧ Vals vs us ∧ Q vs H'
def SP (X : Cx) (pins : List (Addr × Obj)) (D : Ends) (f : Flow) (s' : Shared) : Prop :=
  match f with
  | .next => ∃ σ' H', Inv X pins σ' H' s' ∧ D.nx σ' H'
  | .brk => ∃ σ' H', Inv X pins σ' H' s' ∧ D.bk σ' H'
  | .cont => ∃ σ' H', Inv X pins σ' H' s' ∧ D.ct σ' H'
  | .ret u => ∃ v σ' H', Inv X pins σ' H' s' ∧ RelV v u ∧ D.rt v H'

def PE (X : Cx) (e : Expr) (t : TE) : Prop :=
  ∀ (pins : List (Addr × Obj)) (s : Shared) (σ : St) (H : Hp) (Q : VK), Inv X pins σ H s → t σ H Q → wpAny (model X.prog X.w) X.A (eval e X.env) (EP X pins σ Q) X.xe s
def PT (X : Cx) (e : Expr) (t : TT) : Prop :=
  ∀ (pins : List (Addr × Obj)) (s : Shared) (σ : St) (H : Hp) (Q : Bool → Hp → Prop), Inv X pins σ H s → t σ H Q → wpAny (model X.prog X.w) X.A (isTrue e X.env (eval e X.env)) (TP X pins σ Q) X.xe s
/-- a test whatever its 'whole' is (and, or) -/
def PW (X : Cx) (e : Expr) (t : TT) : Prop :=
  ∀ (whole : Sem Value) (pins : List (Addr × Obj)) (s : Shared) (σ : St) (H : Hp) (Q : Bool → Hp → Prop), Inv X pins σ H s → t σ H Q → wpAny (model X.prog X.w) X.A (isTrue e X.env whole) (TP X pins σ Q) X.xe s
theorem PW.pt {X : Cx} {e : Expr} {t : TT} (h : PW X e t) : PT X e t := h _
/-- an argument list (no star), from the left -/
def PA (X : Cx) (es : List Expr) (t : TA) : Prop :=
  ∀ (pos : Pos) (pins : List (Addr × Obj)) (s : Shared) (σ : St) (H : Hp) (Q : List V → Hp → Prop), Inv X pins σ H s → t σ H Q → wpAny (model X.prog X.w) X.A (spliced (backTo pos (starEach es X.env))) (AP X pins σ Q) X.xe s
def PS (X : Cx) (st : Stmt) (t : TS) : Prop :=
  ∀ (pins : List (Addr × Obj)) (s : Shared) (σ : St) (H : Hp) (D : Ends), Inv X pins σ H s → t D σ H → wpAny (model X.prog X.w) X.A (exec st X.env) (SP X pins D) X.xe s
def PSs (X : Cx) (st : List Stmt) (t : TS) : Prop :=
  ∀ (pins : List (Addr × Obj)) (s : Shared) (σ : St) (H : Hp) (D : Ends), Inv X pins σ H s → t D σ H → wpAny (model X.prog X.w) X.A (execs st X.env) (SP X pins D) X.xe s
/-- weaken the end -/
theorem thn {α : Type} {t : Sem α} {Q Q' : α → Shared → Prop} {M : Model} {A : Around} {E : Value → Shared → Prop} {s : Shared} (h : wpAny M A t Q E s) (hQ : ∀ a s, Q a s → Q' a s) : wpAny M A t Q' E s := wpAny_mono h hQ fun _ _ x => x
end L2

namespace L2
open PySem PySem.Spec PyProof.Rows
section
variable {X : Cx}


/-! ### names and constants -/
def tVar (i : Nat) : TE := fun σ H Q => ∃ v, σ[i]? = some (some v) ∧ Q v H
def tC (v : V) : TE := fun _ H Q => Q v H
theorem pe_var {i : Nat} {x : Str} {pos : Pos} (hN : X.N[i]? = some x) (hv : Vis X.env.scope x) (hd : (x == ("__debug__" : Str)) = false := by decide) (hcd : (x == ("__classdict__" : Str)) = false := by decide) : PE X (.Name x pos) (tVar i) := by
  intro pins s σ H Q I h
  obtain ⟨v, e, h⟩ := h
  obtain ⟨m, hn, hl⟩ := I.loc
  obtain ⟨u, r, l⟩ := hl i x v hN e hv
  have fin : EP X pins σ Q u s := ⟨v, H, I, r, h⟩
  rcases l with ⟨hk, hm⟩ | ⟨hk, c, hc, hcell⟩
  · exact wpAny_Name (wpAny_loadName_local I.ok.kind hk hn hm fin) hd
  · rcases hk with hk | hk
    · exact wpAny_Name (wpAny_loadName_cell I.ok.kind hk hc hcell fin) hd
    · exact wpAny_Name (wpAny_loadName_free I.ok.kind hk hc hcell fin hcd) hd
theorem pe_int {i j pos} : PE X (.Constant (.int i) j pos) (tC (.int i)) := fun _ _ _ H _ I h => wpAny_Constant_int ⟨.int i, H, I.tok _, ⟨_, rfl⟩, h⟩
theorem pe_bl {b j pos} : PE X (.Constant (.bool b) j pos) (tC (.bl b)) := fun _ _ _ H _ I h => Constant_bool ⟨.bl b, H, I, rfl, h⟩
theorem pe_non {j pos} : PE X (.Constant .none j pos) (tC .non) := fun _ _ _ H _ I h => Constant_none ⟨.non, H, I, rfl, h⟩
theorem pe_str {x j pos} : PE X (.Constant (.str x) j pos) (tC (.str x)) := fun _ _ _ H _ I h => Calls.Constant_str ⟨.str x, H, I.tok _, ⟨_, rfl⟩, h⟩

/-- a global name of the def -/
def Gl (X : Cx) (x : Str) : Prop := X.env.kindOf x = some .globalImplicit
theorem ld_glob {E : Value → Shared → Prop} {pins : List (Addr × Obj)} {s : Shared} {σ : St} {H : Hp} {x : Str} {u : Value} {pos : Pos} {Q : Value → Shared → Prop} (I : Inv X pins σ H s) (hg : Gl X x) (hm : X.mg x = some u) (h : Q u s)
    (hd : (x == ("__debug__" : Str)) = false := by decide) : wpAny (model X.prog X.w) X.A (eval (.Name x pos) X.env) Q E s :=
  Calls.Name_function_global I.ok.kind hg (Calls.loadGlobal_global (by rw [I.ok.glob]; exact I.mod.glob.keeps I.bk) hm h) hd
theorem ld_blt {E : Value → Shared → Prop} {pins : List (Addr × Obj)} {s : Shared} {σ : St} {H : Hp} {x : Str} {u : Value} {pos : Pos} {Q : Value → Shared → Prop} (I : Inv X pins σ H s) (hg : Gl X x) (hm : X.mg x = none) (hv : bootBuiltins x = some u) (h : Q u s)
    (hn : x ≠ "__name__" := by decide) (hd : (x == ("__debug__" : Str)) = false := by decide) : wpAny (model X.prog X.w) X.A (eval (.Name x pos) X.env) Q E s := by
  obtain ⟨mb, h1, h2⟩ := I.mod.blt
  exact Calls.Name_function_global I.ok.kind hg (Calls.loadGlobal_builtin (by rw [I.ok.glob]; exact I.mod.glob.keeps I.bk) hm (by rw [I.ok.blt]; exact h1.keeps I.bk) ((h2 x hn).trans hv) h) hd
/-- a module's constant, a class, a function, as a value -/
theorem pe_glob {x : Str} {v : V} {u : Value} {pos : Pos} (hg : Gl X x) (hm : X.mg x = some u) (r : RelV v u) (hd : (x == ("__debug__" : Str)) = false := by decide) : PE X (.Name x pos) (tC v) :=
  fun _ _ _ H _ I h => ld_glob I hg hm ⟨v, H, I, r, h⟩ hd
theorem pe_bltn {x : Str} {v : V} {u : Value} {pos : Pos} (hg : Gl X x) (hm : X.mg x = none) (hv : bootBuiltins x = some u) (r : RelV v u) (hn : x ≠ "__name__" := by decide) (hd : (x == ("__debug__" : Str)) = false := by decide) : PE X (.Name x pos) (tC v) :=
  fun _ _ _ H _ I h => ld_blt I hg hm hv ⟨v, H, I, r, h⟩ hn hd

/-! ### arithmetic -/
variable {a b : Expr} {ta tb : TE} {pos : Pos}

/-! ### comparisons -/
/-- a comparison as a value, as a test -/
def tB (t : TE) : TT := fun σ H Q => t σ H fun x H1 => ∃ c, x = .bl c ∧ Q c H1
/-- an expression whose value is a bool, as a test -/
theorem pt_val {e : Expr} {t : TE} (h : PE X e t) (he : ∀ whole, isTrue e X.env whole = (do let v ← whole; standAt e.pos; holding [v] (truthy v)) := by intro _; rfl) : PT X e (tB t) := by
  intro pins s σ H Q I hw
  refine isTrue_plain (thn (h pins s σ H _ I hw) fun v s1 ⟨x, H1, I1, r1, q1⟩ => ?_) (he _)
  obtain ⟨d, rfl, q⟩ := q1
  cases r1
  exact wpAny_truthy_bool ⟨H1, I1, q⟩

/-! ### and, or, not -/
variable {tA tB' : TT} {rest : List Expr}
def tAnd (t u : TT) : TT := fun σ H Q => t σ H fun c H1 => if c = true then u σ H1 Q else Q false H1
def tOr (t u : TT) : TT := fun σ H Q => t σ H fun c H1 => if c = true then Q true H1 else u σ H1 Q
def tNot (t : TT) : TT := fun σ H Q => t σ H fun c H1 => Q (!c) H1
theorem pw_and1 (ha : PT X a tA) : PW X (.BoolOp .And [a] pos) tA := by
  intro wh pins s σ H Q I h
  refine isTrue_and (thn (ha pins s σ H Q I h) fun c s1 e => ?_)
  cases c with
  | true => exact isTrue_and_nil e
  | false => exact e
theorem pw_or1 (ha : PT X a tA) : PW X (.BoolOp .Or [a] pos) tA := by
  intro wh pins s σ H Q I h
  refine isTrue_or (thn (ha pins s σ H Q I h) fun c s1 e => ?_)
  cases c with
  | false => exact isTrue_or_nil e
  | true => exact e
theorem pw_and (ha : PT X a tA) (hb : PW X (.BoolOp .And (b :: rest) pos) tB') : PW X (.BoolOp .And (a :: b :: rest) pos) (tAnd tA tB') := by
  intro wh pins s σ H Q I h
  refine isTrue_and (thn (ha pins s σ H _ I h) fun c s1 ⟨H1, I1, q1⟩ => ?_)
  cases c with
  | true => exact hb wh pins s1 σ H1 Q I1 q1
  | false => exact ⟨H1, I1, q1⟩
theorem pw_or (ha : PT X a tA) (hb : PW X (.BoolOp .Or (b :: rest) pos) tB') : PW X (.BoolOp .Or (a :: b :: rest) pos) (tOr tA tB') := by
  intro wh pins s σ H Q I h
  refine isTrue_or (thn (ha pins s σ H _ I h) fun c s1 ⟨H1, I1, q1⟩ => ?_)
  cases c with
  | true => exact ⟨H1, I1, q1⟩
  | false => exact hb wh pins s1 σ H1 Q I1 q1
theorem pt_not (ha : PT X a tA) : PT X (.UnaryOp .Not a pos) (tNot tA) := by
  intro pins s σ H Q I h
  exact isTrue_not (ha pins s σ H (fun c H1 => Q (!c) H1) I h)
/-- .. as values (bools) -/
def tAndV (ta tb : TE) : TE := fun σ H Q => ta σ H fun x H1 => ∃ c, x = .bl c ∧ if c = true then tb σ H1 Q else Q (.bl false) H1
def tNotV (ta : TE) : TE := fun σ H Q => ta σ H fun x H1 => ∃ c, x = .bl c ∧ Q (.bl (!c)) H1
theorem pe_one {op} {t : TE} (h : PE X a t) : PE X (.BoolOp op [a] pos) t := fun pins s σ H Q I hw => BoolOp_one (h pins s σ H Q I hw)
theorem pe_and (ha : PE X a ta) (hb : PE X (.BoolOp .And (b :: rest) pos) tb) : PE X (.BoolOp .And (a :: b :: rest) pos) (tAndV ta tb) := by
  intro pins s σ H Q I h
  refine BoolOp_and (thn (ha pins s σ H _ I h) fun v s1 ⟨x, H1, I1, r1, q1⟩ => ?_)
  obtain ⟨c, rfl, q1⟩ := q1
  cases r1
  refine wpAny_truthy_bool ?_
  cases c with
  | true => exact hb pins s1 σ H1 Q I1 q1
  | false => exact ⟨.bl false, H1, I1, rfl, q1⟩
theorem pe_not (ha : PE X a ta) : PE X (.UnaryOp .Not a pos) (tNotV ta) := by
  intro pins s σ H Q I h
  refine UnaryOp_ (thn (ha pins s σ H _ I h) fun v s1 ⟨x, H1, I1, r1, q1⟩ => ?_)
  obtain ⟨c, rfl, q1⟩ := q1
  cases r1
  exact not_of (wpAny_truthy_bool ⟨.bl (!c), H1, I1, rfl, q1⟩)
end
end L2

namespace L2
open PySem PySem.Spec PyProof.Rows

/-! ### a list, a tuple that is read: tracked, frozen, or an object of the module -/
def SqL (K : PySem.W.Frag) (H : Hp) (a : Addr) (xs : List V) : Prop :=
  Rd H a (.lst xs) ∨
    ∃ (o : Obj) (its : Array Value) (n : Nat), K.lookup a = some o ∧ o.cls = .type "list" ∧ o.dict = none ∧ o.data = .seq its n ∧ its.size ≤ sizeLine ∧ Vals xs its.toList
def SqT (K : PySem.W.Frag) (H : Hp) (a : Addr) (xs : List V) : Prop :=
  Rd H a (.tup xs) ∨
    ∃ (o : Obj) (its : Array Value) (n : Nat), K.lookup a = some o ∧ o.cls = .type "tuple" ∧ o.data = .seq its n ∧ its.size ≤ sizeLine ∧ Vals xs its.toList
def absV : Value → Option V
  | .none => some .non
  | .bool b => some (.bl b)
  | .int i _ => some (.int i)
  | .str x _ => some (.str x)
  | .bytes b _ => some (.byt b)
  | .float b _ => some (.flt b)
  | .ref a => some (.ref a)
  | .type n => some (.ty n)
  | _ => none
theorem RelV.abs {x : V} {u : Value} (r : RelV x u) : absV u = some x := by
  cases x with
  | non => cases r; rfl
  | bl _ => cases r; rfl
  | int _ => obtain ⟨t, rfl⟩ := r; rfl
  | str _ => obtain ⟨t, rfl⟩ := r; rfl
  | byt _ => obtain ⟨t, rfl⟩ := r; rfl
  | flt _ => obtain ⟨t, rfl⟩ := r; rfl
  | ref _ => cases r; rfl
  | ty _ => cases r; rfl
theorem RelV.inj {x y : V} {u : Value} (r : RelV x u) (q : RelV y u) : x = y := Option.some.inj (r.abs.symm.trans q.abs)
theorem Vals.inj : ∀ {xs ys : List V} {us : List Value}, Vals xs us → Vals ys us → xs = ys
  | _, _, _, .nil, .nil => rfl
  | _, _, _, .cons r t, .cons r' t' => by rw [r.inj r', Vals.inj t t']
section
variable {X : Cx} {pins : List (Addr × Obj)} {σ : St} {H : Hp} {s : Shared} {a : Addr} {xs ys : List V}
theorem SqL.of {K : PySem.W.Frag} (h : H a = some (.lst xs)) : SqL K H a xs := .inl (.inl h)
theorem SqT.of {K : PySem.W.Frag} (h : H a = some (.tup xs)) : SqT K H a xs := .inl (.inl h)
theorem Inv.list (I : Inv X pins σ H s) (h : SqL X.K H a xs) : ∃ its : List Value, Vals xs its ∧ PlainL s.heap a its.toArray ∧ xs.length ≤ sizeLine := by
  rcases h with h | ⟨o, its, n, hk, hc, hd, hs, hz, r⟩
  · obtain ⟨z, its, n, r, e⟩ := h.ok I.hok
    exact ⟨its, r, ⟨_, n, e, rfl, rfl, rfl⟩, z⟩
  · refine ⟨its.toList, r, ⟨o, n, I.kIn a o hk, hc, hd, by simpa using hs⟩, ?_⟩
    have e := r.length
    simp only [Array.length_toList] at e
    omega
theorem Inv.tuple (I : Inv X pins σ H s) (h : SqT X.K H a xs) : ∃ its : List Value, Vals xs its ∧ IsTup s.heap a its.toArray ∧ xs.length ≤ sizeLine := by
  rcases h with h | ⟨o, its, n, hk, hc, hs, hz, r⟩
  · obtain ⟨z, its, r, p⟩ := h.ok I.hok
    exact ⟨its, r, p, z⟩
  · refine ⟨its.toList, r, ⟨o, I.kIn a o hk, hc, n, by simpa using hs⟩, ?_⟩
    have e := r.length
    simp only [Array.length_toList] at e
    omega
theorem Inv.list_inj (I : Inv X pins σ H s) (h : SqL X.K H a xs) (h' : SqL X.K H a ys) : xs = ys := by
  obtain ⟨its, r, ⟨o, n, e, _, _, d⟩, _⟩ := I.list h
  obtain ⟨its', r', ⟨o', n', e', _, _, d'⟩, _⟩ := I.list h'
  rw [e] at e'; cases e'
  rw [d] at d'
  injection d' with d1 _
  have : its = its' := by simpa using congrArg Array.toList d1
  subst this
  exact r.inj r'
theorem Inv.tuple_inj (I : Inv X pins σ H s) (h : SqT X.K H a xs) (h' : SqT X.K H a ys) : xs = ys := by
  obtain ⟨its, r, ⟨o, e, _, n, d⟩, _⟩ := I.tuple h
  obtain ⟨its', r', ⟨o', e', _, n', d'⟩, _⟩ := I.tuple h'
  rw [e] at e'; cases e'
  rw [d] at d'
  injection d' with d1 _
  have : its = its' := by simpa using congrArg Array.toList d1
  subst this
  exact r.inj r'
end

/-! ### another wish about exceptions -/
abbrev Cx.wish (X : Cx) (E : Value → Shared → Prop) : Cx := { X with xe := E }
/-- no exception leaves -/
abbrev Cx.nox (X : Cx) : Cx := X.wish fun _ _ => False
theorem Cx.Ok.wish {X : Cx} (ok : X.Ok) (E : Value → Shared → Prop) : (X.wish E).Ok :=
  ⟨ok.mod, ok.kind, ok.glob, ok.blt, ok.above, ok.inj, ok.has, ok.cab, ok.hd, ok.frames, ok.stk, ok.exf, ok.bs, ok.bsz, ok.noex, ok.exfs, ok.funs, ok.frf⟩
theorem Cx.Ok.unwish {X : Cx} {E : Value → Shared → Prop} (ok : (X.wish E).Ok) : X.Ok :=
  ⟨ok.mod, ok.kind, ok.glob, ok.blt, ok.above, ok.inj, ok.has, ok.cab, ok.hd, ok.frames, ok.stk, ok.exf, ok.bs, ok.bsz, ok.noex, ok.exfs, ok.funs, ok.frf⟩
section
variable {X : Cx} {pins : List (Addr × Obj)} {σ : St} {H : Hp} {s : Shared} {E : Value → Shared → Prop}
theorem Inv.wish (I : Inv X pins σ H s) (E : Value → Shared → Prop) : Inv (X.wish E) pins σ H s := ⟨I.ok.wish E, I.os, I.bare, I.base, I.loc, I.cell, I.free, I.freeC, I.pin, I.hok, I.len⟩
theorem Inv.unwish (I : Inv (X.wish E) pins σ H s) : Inv X pins σ H s := ⟨I.ok.unwish, I.os, I.bare, I.base, I.loc, I.cell, I.free, I.freeC, I.pin, I.hok, I.len⟩
theorem SP.unwish {D : Ends} {f : Flow} {s' : Shared} (h : SP (X.wish E) pins D f s') : SP X pins D f s' := by
  cases f with
  | next => obtain ⟨σ', H', I, q⟩ := h; exact ⟨σ', H', I.unwish, q⟩
  | brk => obtain ⟨σ', H', I, q⟩ := h; exact ⟨σ', H', I.unwish, q⟩
  | cont => obtain ⟨σ', H', I, q⟩ := h; exact ⟨σ', H', I.unwish, q⟩
  | ret u => obtain ⟨v, σ', H', I, r, q⟩ := h; exact ⟨v, σ', H', I.unwish, r, q⟩
theorem PSs.nox {st : List Stmt} {t : TS} (h : PSs X.nox st t) : PSs X st t := fun pins s σ H D I hw =>
  wpAny_mono (h pins s σ H D (I.wish _) hw) (fun _ _ q => q.unwish) fun _ _ z => False.elim z
end

/-! ### blocks and small statements -/
section
variable {X : Cx} {st : Stmt} {rest : List Stmt} {t u : TS} {e : Expr} {te : TE} {pos : Pos}
def tNext : TS := fun D σ H => D.nx σ H
def tSeq (t u : TS) : TS := fun D σ H => t { D with nx := u D } σ H
theorem pss_nil : PSs X [] tNext := fun _ _ σ H _ I h => wpAny_execs_nil ⟨σ, H, I, h⟩
theorem pss_cons (h1 : PS X st t) (h2 : PSs X rest u) : PSs X (st :: rest) (tSeq t u) := by
  intro pins s σ H D I h
  refine wpAny_execs_cons (thn (h1 pins s σ H { D with nx := u D } I h) fun f s1 q => ?_)
  cases f with
  | next =>
    obtain ⟨σ', H', I', q⟩ := q
    exact h2 pins s1 σ' H' D I' q
  | ret v => exact q
  | brk => exact q
  | cont => exact q
theorem pss_one (h1 : PS X st t) : PSs X [st] t := by
  intro pins s σ H D I h
  refine wpAny_execs_cons (thn (h1 pins s σ H D I h) fun f s1 q => ?_)
  cases f with
  | next => exact wpAny_execs_nil q
  | ret v => exact q
  | brk => exact q
  | cont => exact q
/-- in a def's body nothing is shown -/
theorem Inv.quiet {pins : List (Addr × Obj)} {σ : St} {H : Hp} {s : Shared} (I : Inv X pins σ H s) : interactive X.env = false := by simp [interactive, I.ok.kind]
/-- an expression whose value is dropped -/
def tDrop (te : TE) : TS := fun D σ H => te σ H fun _ H1 => D.nx σ H1
theorem ps_expr (he : PE X e te) (hs : swapsWith e none pos.line X.env = pure false := by rfl) : PS X (.Expr e pos) (tDrop te) := by
  intro pins s σ H D I h
  exact wpAny_Expr_any (thn (he pins s σ H _ I h) fun v s1 ⟨x, H1, I1, r1, q1⟩ => ⟨σ, H1, I1, q1⟩) I.quiet hs
def tRet (te : TE) : TS := fun D σ H => te σ H D.rt
theorem ps_ret (he : PE X e te) : PS X (.Return (some e) pos) (tRet te) := by
  intro pins s σ H D I h
  exact wpAny_Return_some (thn (he pins s σ H _ I h) fun v s1 ⟨x, H1, I1, r1, q1⟩ => ⟨x, σ, H1, I1, r1, q1⟩)
def tIfS (c : TT) (t u : TS) : TS := fun D σ H => c σ H fun b H1 => if b = true then t D σ H1 else u D σ H1
theorem ps_if {c : Expr} {a b : List Stmt} {tc : TT} (hc : PT X c tc) (ha : PSs X a t) (hb : PSs X b u) : PS X (.If c a b pos) (tIfS tc t u) := by
  intro pins s σ H D I h
  refine wpAny_If (thn (hc pins s σ H _ I h) fun d s1 ⟨H1, I1, q1⟩ => ?_)
  cases d with
  | true => exact ha pins s1 σ H1 D I1 q1
  | false => exact hb pins s1 σ H1 D I1 q1
end

/-! ### targets -/
abbrev TG := V → St → Hp → (St → Hp → Prop) → Prop
abbrev TGs := List V → St → Hp → (St → Hp → Prop) → Prop
def PG (X : Cx) (target : Expr) (t : TG) : Prop :=
  ∀ (pins : List (Addr × Obj)) (s : Shared) (σ : St) (H : Hp) (v : V) (u : Value) (Q : St → Hp → Prop), Inv X pins σ H s → RelV v u → t v σ H Q →
    wpAny (model X.prog X.w) X.A (assign target X.env u) (fun _ s' => ∃ σ' H', Inv X pins σ' H' s' ∧ Q σ' H') X.xe s
/-- several targets, one after another -/
def PGs (X : Cx) (ts : List Expr) (t : TGs) : Prop :=
  ∀ (pins : List (Addr × Obj)) (s : Shared) (σ : St) (H : Hp) (vs : List V) (us : List Value) (Q : St → Hp → Prop), Inv X pins σ H s → Vals vs us → t vs σ H Q →
    wpAny (model X.prog X.w) X.A (assignInOrder ((assignEach ts X.env).map (·.2)) us) (fun _ s' => ∃ σ' H', Inv X pins σ' H' s' ∧ Q σ' H') X.xe s
/-- o[i] = v, by values -/
abbrev TSet := V → V → V → Hp → (Hp → Prop) → Prop
def PSet (X : Cx) (t : TSet) : Prop :=
  ∀ (pins : List (Addr × Obj)) (s : Shared) (σ : St) (H : Hp) (o i v : V) (ov iv u : Value) (Q : Hp → Prop), Inv X pins σ H s → RelV o ov → RelV i iv → RelV v u → t o i v H Q →
    wpAny (model X.prog X.w) X.A (setItem ov iv u) (fun _ s' => ∃ H', Inv X pins σ H' s' ∧ Q H') X.xe s
section
variable {X : Cx} {pos : Pos}
def gName (i : Nat) : TG := fun v σ H Q => Q (σ.set i (some v)) H
theorem pg_name {i : Nat} {x : Str} (hN : X.N.Nodup) (hi : X.N[i]? = some x) (hx : Loc X.env.scope x) (hf : X.fn x = true ∨ X.env.scope.names.lookup x = some .local := by first | exact .inl rfl | exact .inr rfl | assumption) : PG X (.Name x pos) (gName i) := by
  intro pins s σ H v u Q I r h
  exact wpAny_assign_Name (store_ok I hN hi hx r (fun s' I' => ⟨_, H, I', h⟩) hf)
def gNil : TGs := fun vs σ H Q => vs = [] ∧ Q σ H
def gCons (t : TG) (u : TGs) : TGs := fun vs σ H Q => ∃ v r, vs = v :: r ∧ t v σ H fun σ' H' => u r σ' H' Q
theorem pgs_nil : PGs X [] gNil := by
  intro pins s σ H vs us Q I r h
  obtain ⟨e, h⟩ := h
  subst e
  cases r
  exact assignInOrder_nil ⟨σ, H, I, h⟩
theorem pgs_cons {e : Expr} {es : List Expr} {t : TG} {u : TGs} (h1 : PG X e t) (h2 : PGs X es u)
    (hs : (assignEach (e :: es) X.env).map (·.2) = assign e X.env :: (assignEach es X.env).map (·.2) := by rfl) : PGs X (e :: es) (gCons t u) := by
  intro pins s σ H vs us Q I r h
  obtain ⟨v, vr, e1, h⟩ := h
  subst e1
  cases r with
  | cons r rr =>
    rw [hs]
    refine assignInOrder_cons (thn (h1 pins s σ H _ _ _ I r h) fun _ s1 ⟨σ1, H1, I1, q1⟩ => ?_)
    exact h2 pins s1 σ1 H1 _ _ Q I1 rr q1
/-- (a, b, ..) = a tuple of that length -/
def gTup (K : PySem.W.Frag) (n : Nat) (t : TGs) : TG := fun v σ H Q => ∃ a xs, v = .ref a ∧ SqT K H a xs ∧ xs.length = n ∧ t xs σ H Q
theorem pg_tup {es : List Expr} {k : Nat} {t : TGs} {n : Nat} (hc : X.calm = true) (h : PGs X es t)
    (hn : (assignEach es X.env).length = n := by rfl) (hst : (assignEach es X.env).findIdx? (·.1) = none := by rfl) : PG X (.Tuple es k pos) (gTup X.K n t) := by
  intro pins s σ H v u Q I r hw
  obtain ⟨a, xs, e1, hq, hl, hw⟩ := hw
  subst e1
  cases r
  obtain ⟨its, rv, ht, hz⟩ := I.tuple hq
  refine assign_Tuple_tuple (I.ok.hd hc) ht (by simp [hn, ← hl, rv.length]) hst fun h' hx => ?_
  have I1 : Inv X pins σ H { s with heap := h' } := I.kept (t' := s.toks) fun b o e => hx b o (Nat.ne_of_lt (Heap.lt_size e)) e
  exact h pins _ σ H xs _ Q I1 (by simpa using rv) hw
/-- o[i] = .. -/
def gSub (to ti : TE) (t : TSet) : TG := fun v σ H Q => to σ H fun o H1 => ti σ H1 fun i H2 => t o i v H2 fun H3 => Q σ H3
theorem pg_sub {o i : Expr} {to ti : TE} {t : TSet} (ho : PE X o to) (hi : PE X i ti) (hs : PSet X t)
    (ha : ∀ v, assign (.Subscript o i pos) X.env v = (do
      let ov ← holding [v] (eval o X.env)
      let iv ← holding [v, ov] (eval i X.env)
      standAt pos
      holding [v, ov, iv] (setItem ov iv v)
      release [v, ov, iv] []) := by intro _; rfl) : PG X (.Subscript o i pos) (gSub to ti t) := by
  intro pins s σ H v u Q I r h
  rw [ha]
  refine wpAny_bind (wpAny_holding (thn (ho pins s σ H _ I h) fun ov s1 ⟨x, H1, I1, r1, q1⟩ => ?_))
  refine wpAny_bind (wpAny_holding (thn (hi pins s1 σ H1 _ I1 q1) fun iv s2 ⟨y, H2, I2, r2, q2⟩ => ?_))
  refine wpAny_bind (wpAny_standAt (wpAny_bind (wpAny_holding (thn (hs pins s2 σ H2 x y v ov iv u _ I2 r1 r2 r q2) fun _ s3 ⟨H3, I3, q3⟩ => ?_))))
  exact wpAny_release ⟨σ, H3, I3, q3⟩
/-- target = value -/
def tAsg (te : TE) (g : TG) : TS := fun D σ H => te σ H fun x H1 => g x σ H1 D.nx
theorem ps_asg {tg e : Expr} {te : TE} {g : TG} (he : PE X e te) (hg : PG X tg g) (hs : swapsWithSole [tg] e pos.line X.env = pure false := by rfl) (hw : swappedStores [tg] e X.env = pure none := by rfl)
    (h1 : (assignEach [tg] X.env).map (·.2) = [assign tg X.env] := by rfl) : PS X (.Assign [tg] e pos) (tAsg te g) := by
  intro pins s σ H D I h
  refine wpAny_Assign_stores (thn (he pins s σ H _ I h) fun v s1 ⟨x, H1, I1, r1, q1⟩ => ?_) hs hw
  rw [h1]
  exact thn (hg pins s1 σ H1 x v _ I1 r1 q1) fun _ s2 q => q
/-- name = value -/
theorem ps_set {i : Nat} {x : Str} {e : Expr} {te : TE} {pos' : Pos} (hN : X.N.Nodup) (hi : X.N[i]? = some x) (hx : Loc X.env.scope x) (he : PE X e te) (hs : swapsWith e (some (.Name x pos')) pos.line X.env = pure false := by rfl) (hf : X.fn x = true ∨ X.env.scope.names.lookup x = some .local := by first | exact .inl rfl | exact .inr rfl | assumption) :
    PS X (.Assign [.Name x pos'] e pos) (tAsg te (gName i)) := by
  intro pins s σ H D I h
  refine wpAny_Assign_Name (thn (he pins s σ H _ I h) fun v s1 ⟨y, H1, I1, r1, q1⟩ => ?_) hs
  exact store_ok I1 hN hi hx r1 (fun s2 I2 => ⟨_, H1, I2, q1⟩) hf
end

/-! ### while -/
section
variable {X : Cx} {pos : Pos}
/-- the invariant W with its measure -/
def tWhile (c : TT) (tb : TS) : TS := fun D σ H => ∃ W : Nat → St → Hp → Prop, (∃ m, W m σ H) ∧ ∀ m σ H, W m σ H →
  c σ H fun b H1 => if b = true then ∃ N : St → Hp → Prop, (∀ σ' H', N σ' H' → ∃ m', m' < m ∧ W m' σ' H') ∧ tb { D with nx := N, ct := N, bk := D.nx } σ H1 else D.nx σ H1
theorem ps_while {c : Expr} {body : List Stmt} {tc : TT} {tb : TS} (hp : PassesOwn (model X.prog X.w) X.A X.env X.xe) (hc : PT X c tc) (hb : PSs X body tb) : PS X (.While c body [] pos) (tWhile tc tb) := by
  intro pins s σ H D I h
  obtain ⟨W, ⟨m0, w0⟩, turn⟩ := h
  refine wpAny_While (codeAny_whileLoop (fun n s' => ∃ σ' H', Inv X pins σ' H' s' ∧ W n σ' H') ?_ m0 ⟨σ, H, I, w0⟩)
  rintro n s1 ⟨σ1, H1, I1, w1⟩
  refine wpAny_passesOwn hp (thn (hc pins s1 σ1 H1 _ I1 (turn n σ1 H1 w1)) fun b s2 ⟨H2, I2, q2⟩ => ?_)
  cases b with
  | true =>
    obtain ⟨N, hN, q2⟩ := q2
    rw [if_pos rfl]
    refine wpAny_passesOwn hp (thn (hb pins s2 σ1 H2 _ I2 q2) fun f s3 q3 => ?_)
    cases f with
    | next =>
      obtain ⟨σ3, H3, I3, n3⟩ := q3
      obtain ⟨m', hm, w3⟩ := hN σ3 H3 n3
      exact ⟨m', hm, σ3, H3, I3, w3⟩
    | cont =>
      obtain ⟨σ3, H3, I3, n3⟩ := q3
      obtain ⟨m', hm, w3⟩ := hN σ3 H3 n3
      exact ⟨m', hm, σ3, H3, I3, w3⟩
    | brk => exact q3
    | ret v => exact q3
  | false =>
    rw [if_neg Bool.false_ne_true]
    exact wpAny_execs_nil ⟨σ1, H2, I2, q2⟩
end

/-! ### what a loop or a comprehension walks -/
/-- at turn i: it yields x (the heap may grow), or it stops -/
structure It where
  go : Nat → Hp → Prop
  yld : Nat → Hp → V → Hp → Prop
  stop : Nat → Hp → Prop
/-- the iterator's own objects may turn: they are not the frame's, not pinned, younger than the entry (or a comprehension's own) -/
def FpOk (X : Cx) (pins : List (Addr × Obj)) (H : Hp) (b : Addr) : Prop :=
  H b = none ∧ b ≠ X.env.locals ∧ b ∉ X.fs ∧ (b ∈ X.ex ∨ X.s₀.heap.objs.size ≤ b) ∧ (∀ x c, X.env.cells.lookup x = some c → c ≠ b) ∧ ∀ p ∈ X.pn ++ pins, p.1 ≠ b
theorem Inv.fpOk {X : Cx} {pins : List (Addr × Obj)} {σ : St} {H H' : Hp} {s : Shared} {b : Addr} (I : Inv X pins σ H s) (hb : s.heap.objs.size ≤ b) (hn : H' b = none) : FpOk X pins H' b := by
  refine ⟨hn, Nat.ne_of_gt (Nat.lt_of_lt_of_le I.lt hb), I.nofs hb, .inr (Nat.le_trans I.sz hb), fun x c e z => ?_, fun p hp z => ?_⟩
  · obtain ⟨v, q⟩ := I.cell x c e
    exact absurd (Nat.lt_of_lt_of_le q.lt (by rw [z]; exact hb)) (Nat.lt_irrefl _)
  · exact absurd (Nat.lt_of_lt_of_le (Heap.lt_size (I.pin p hp).1) (by rw [z]; exact hb)) (Nat.lt_irrefl _)
structure Turn (P : Program) (w : World) (K : PySem.W.Frag) (tg : Expr) (J : It) (fp : List Addr) (it : Addr) (tn : Nat → Heap → Prop) : Prop where
  mem : it ∈ fp
  obj : ∀ i h, tn i h → ∀ b ∈ fp, ∃ o, h.get? b = some o ∧ ∀ v, o.data ≠ .cell v
  keep : ∀ i h h', tn i h → (∀ b ∈ fp, ∀ o, h.get? b = some o → h'.get? b = some o) → tn i h'
  item : ∀ (X : Cx), X.prog = P → X.w = w → X.K = K → X.calm = true → ∀ (i : Nat) (pins : List (Addr × Obj)) (s : Shared) (σ : St) (H : Hp) (E : Value → Shared → Prop), Inv X pins σ H s → (∀ b ∈ fp, FpOk X pins H b) → tn i s.heap → J.go i H →
    wpAny (model P w) X.A (pyNext (.ref it)) (fun r s1 => ∃ u, r = some u ∧
      wpAny (model P w) X.A (letOwnedTupleGo tg (.ref it) u) (fun _ s2 => ∃ x H', Inv X pins σ H' s2 ∧ RelV x u ∧ J.yld i H x H' ∧ tn (i + 1) s2.heap ∧ ∀ b ∈ fp, H' b = none) E s1) E s
  done : ∀ (X : Cx), X.prog = P → X.w = w → X.K = K → X.calm = true → ∀ (i : Nat) (pins : List (Addr × Obj)) (s : Shared) (σ : St) (H : Hp) (E : Value → Shared → Prop), Inv X pins σ H s → (∀ b ∈ fp, FpOk X pins H b) → tn i s.heap → J.stop i H →
    wpAny (model P w) X.A (pyNext (.ref it)) (fun r s1 => r = none ∧ Inv X pins σ H s1) E s
  self : ∀ (A : Around) (i : Nat) (s : Shared) (Q : Value → Shared → Prop) (E : Value → Shared → Prop), tn i s.heap → Q (.ref it) s → wpAny (model P w) A (pyIter (.ref it)) Q E s
abbrev TI := St → Hp → (It → Hp → Prop) → Prop
/-- an iterator has come -/
def PIE (X : Cx) (pins : List (Addr × Obj)) (σ : St) (tg : Expr) (R : It → Hp → Prop) (itv : Value) (s2 : Shared) : Prop :=
  ∃ (it : Addr) (fp : List Addr) (tn : Nat → Heap → Prop) (J : It) (H' : Hp), itv = .ref it ∧ Inv X pins σ H' s2 ∧ Turn X.prog X.w X.K tg J fp it tn ∧ tn 0 s2.heap ∧ (∀ b ∈ fp, FpOk X pins H' b) ∧ R J H'
def PI (X : Cx) (tg iter : Expr) (wi : TI) : Prop :=
  ∀ (pins : List (Addr × Obj)) (s : Shared) (σ : St) (H : Hp) (R : It → Hp → Prop), Inv X pins σ H s → wi σ H R →
    wpAny (model X.prog X.w) X.A (eval iter X.env) (fun v s1 => wpAny (model X.prog X.w) X.A (pyIter v) (PIE X pins σ tg R) X.xe s1) X.xe s

/-- the step ahead of the store is nothing for an iterator that keeps no tuple -/
theorem go_of {M : Model} {A : Around} {E : Value → Shared → Prop} {s : Shared} {tg : Expr} {it : Addr} {u : Value} {o : Obj} {n : String} {vs : Array Value} {Q : Unit → Shared → Prop} (ho : s.heap.get? it = some o) (hc : o.cls = .type n) (hd : o.data = .fields vs)
    (hn : ["enumerate", "zip", "dict_itemiterator", "dict_reverseitemiterator", "odict_iterator", "itertools.zip_longest", "itertools.pairwise"].contains n = false) (hQ : Q () s) : wpAny M A (letOwnedTupleGo tg (.ref it) u) Q E s := by
  unfold letOwnedTupleGo
  cases tg <;> first
    | exact wpAny_pure hQ
    | (cases u <;> first
        | exact wpAny_pure hQ
        | (refine wpAny_bind (wpAny_load ho ?_)
           rw [hc, hd]
           show wpAny M A (if (["enumerate", "zip", "dict_itemiterator", "dict_reverseitemiterator", "odict_iterator", "itertools.zip_longest", "itertools.pairwise"].contains n && vs[0]? == some (rawInt _)) = true then _ else _) Q E s
           rw [if_neg (by intro h; rw [hn, Bool.false_and] at h; cases h)]
           exact wpAny_pure hQ))

/-- the list at a, as it stands at each turn (a loop may append to it) -/
def Itl (K : PySem.W.Frag) (a : Addr) : It :=
  ⟨fun i H => ∃ xs x, SqL K H a xs ∧ xs[i]? = some x, fun i H x H' => H' = H ∧ ∀ xs, SqL K H a xs → xs[i]? = some x, fun i H => ∃ xs, SqL K H a xs ∧ xs.length ≤ i⟩
def Itt (K : PySem.W.Frag) (a : Addr) : It :=
  ⟨fun i H => ∃ xs x, SqT K H a xs ∧ xs[i]? = some x, fun i H x H' => H' = H ∧ ∀ xs, SqT K H a xs → xs[i]? = some x, fun i H => ∃ xs, SqT K H a xs ∧ xs.length ≤ i⟩
/-- lo, lo + 1, .. (n of them) -/
def Itr (lo : Int) (n : Nat) : It := ⟨fun i _ => i < n, fun i H x H' => H' = H ∧ x = .int (lo + i), fun i _ => n ≤ i⟩
theorem turn_list {P : Program} {w : World} {K : PySem.W.Frag} {tg : Expr} (a it : Addr) : Turn P w K tg (Itl K a) [it] it (fun i h => h.IsListIter it a i) where
  mem := by simp
  obj := fun i h st b hb => by
    have e : b = it := by simpa using hb
    subst e
    obtain ⟨o, e, c, d⟩ := st
    exact ⟨o, e, fun v z => by rw [d] at z; cases z⟩
  keep := fun i h h' st k => st.at fun o e => k it (by simp) o e
  item := by
    intro X hP hw hK hc i pins s σ H E I hf st hg
    subst hP hw hK
    obtain ⟨xs, x, hq, hx⟩ := hg
    obtain ⟨its, rv, p, hz⟩ := I.list hq
    obtain ⟨u, hu, ru⟩ := rv.get hx
    obtain ⟨f0, f1, f2, f3, f4, f5⟩ := hf it (by simp)
    refine wpAny_pyNext_list_item st p.isList (x := u) (by simpa using hu) fun h' st' sb => ?_
    have I1 : Inv X pins σ H { s with heap := h' } := I.turned (t' := s.toks) (fun b o hb e => (sb.2 b hb).trans e) f0 f1 f3 f4 f5
    obtain ⟨o, e, c, d⟩ := id st'
    exact ⟨u, rfl, go_of (s := { s with heap := h' }) e c d (by decide) ⟨x, H, I1, ru, ⟨rfl, fun ys hy => by rw [I.list_inj hy hq]; exact hx⟩, st', fun b hb => (hf b hb).1⟩⟩
  done := by
    intro X hP hw hK hc i pins s σ H E I hf st hg
    subst hP hw hK
    obtain ⟨xs, hq, hx⟩ := hg
    obtain ⟨its, rv, p, hz⟩ := I.list hq
    obtain ⟨f0, f1, f2, f3, f4, f5⟩ := hf it (by simp)
    have hl := rv.length
    exact wpAny_pyNext_list_end (I.ok.hd hc) st p.isList (by simp; omega) fun h' eb => ⟨rfl, I.turned (t' := s.toks) (fun b o hb e => eb b o hb e) f0 f1 f3 f4 f5⟩
  self := fun _ _ _ _ _ st h => wpAny_pyIter_listiter st h
theorem turn_tuple {P : Program} {w : World} {K : PySem.W.Frag} {tg : Expr} (a it : Addr) : Turn P w K tg (Itt K a) [it] it (fun i h => h.IsTupleIter it a i) where
  mem := by simp
  obj := fun i h st b hb => by
    have e : b = it := by simpa using hb
    subst e
    obtain ⟨o, e, c, d⟩ := st
    exact ⟨o, e, fun v z => by rw [d] at z; cases z⟩
  keep := fun i h h' st k => st.at fun o e => k it (by simp) o e
  item := by
    intro X hP hw hK hc i pins s σ H E I hf st hg
    subst hP hw hK
    obtain ⟨xs, x, hq, hx⟩ := hg
    obtain ⟨its, rv, p, hz⟩ := I.tuple hq
    obtain ⟨u, hu, ru⟩ := rv.get hx
    obtain ⟨f0, f1, f2, f3, f4, f5⟩ := hf it (by simp)
    refine wpAny_pyNext_tuple_item st (show s.heap.IsTuple a its.toArray from p) (x := u) (by simpa using hu) fun h' st' sb => ?_
    have I1 : Inv X pins σ H { s with heap := h' } := I.turned (t' := s.toks) (fun b o hb e => (sb.2 b hb).trans e) f0 f1 f3 f4 f5
    obtain ⟨o, e, c, d⟩ := id st'
    exact ⟨u, rfl, go_of (s := { s with heap := h' }) e c d (by decide) ⟨x, H, I1, ru, ⟨rfl, fun ys hy => by rw [I.tuple_inj hy hq]; exact hx⟩, st', fun b hb => (hf b hb).1⟩⟩
  done := by
    intro X hP hw hK hc i pins s σ H E I hf st hg
    subst hP hw hK
    obtain ⟨xs, hq, hx⟩ := hg
    obtain ⟨its, rv, p, hz⟩ := I.tuple hq
    obtain ⟨f0, f1, f2, f3, f4, f5⟩ := hf it (by simp)
    have hl := rv.length
    exact wpAny_pyNext_tuple_end (I.ok.hd hc) st (show s.heap.IsTuple a its.toArray from p) (by simp; omega) fun h' eb => ⟨rfl, I.turned (t' := s.toks) (fun b o hb e => eb b o hb e) f0 f1 f3 f4 f5⟩
  self := fun _ _ _ _ _ st h => wpAny_pyIter_tupleiter st h
theorem turn_range {P : Program} {w : World} {K : PySem.W.Frag} {tg : Expr} (it : Addr) (lo : Int) (n : Nat) : Turn P w K tg (Itr lo n) [it] it (fun i h => IsRangeIter h it (lo + (i : Nat) * 1) ((n : Int) - (i : Nat)) 1) where
  mem := by simp
  obj := fun i h st b hb => by
    have e : b = it := by simpa using hb
    subst e
    exact ⟨_, st, fun v z => by
      have z' : Data.fields _ = Data.cell v := z
      cases z'⟩
  keep := fun i h h' st k => k it (by simp) _ st
  item := by
    intro X hP hw hK hc i pins s σ H E I hf st hg
    subst hP hw hK
    obtain ⟨f0, f1, f2, f3, f4, f5⟩ := hf it (by simp)
    have W := Walks.range (prog := X.prog) (w := X.w) (I.ok.hd hc) it lo 1 n
    refine W.item i s _ _ hg st fun v h' tk hv st' kk => ?_
    obtain ⟨t, rfl⟩ := hv
    have I1 : Inv X pins σ H { s with heap := h', toks := tk } := I.turned (fun b o hb e => kk b o (by simpa using hb) e) f0 f1 f3 f4 f5
    refine ⟨_, rfl, go_of (s := { s with heap := h', toks := tk }) (n := "range_iterator") st' rfl rfl (by decide) ⟨.int (lo + i), H, I1, ⟨t, ?_⟩, ⟨rfl, rfl⟩, st', fun b hb => (hf b hb).1⟩⟩
    rw [Int.mul_one]
  done := by
    intro X hP hw hK hc i pins s σ H E I hf st hg
    subst hP hw hK
    obtain ⟨f0, f1, f2, f3, f4, f5⟩ := hf it (by simp)
    exact wpAny_pyNext_range_end (I.ok.hd hc) st (by have : n ≤ i := hg; omega) fun h' eb => ⟨rfl, I.turned (t' := s.toks) (fun b o hb e => eb b o hb e) f0 f1 f3 f4 f5⟩
  self := fun _ _ _ _ _ st h => wpAny_pyIter_rangeiter st h
end L2

namespace L2
open PySem PySem.Spec PyProof.Rows
section
variable {X : Cx} {tg : Expr}
def iList (K : PySem.W.Frag) (tl : TE) : TI := fun σ H R => tl σ H fun x H1 => ∃ a, x = .ref a ∧ (∃ xs, SqL K H1 a xs) ∧ R (Itl K a) H1
def iTup (K : PySem.W.Frag) (tl : TE) : TI := fun σ H R => tl σ H fun x H1 => ∃ a, x = .ref a ∧ (∃ xs, SqT K H1 a xs) ∧ R (Itt K a) H1
theorem pi_list {l : Expr} {tl : TE} (hl : PE X l tl) : PI X tg l (iList X.K tl) := by
  intro pins s σ H R I h
  refine thn (hl pins s σ H _ I h) fun v s1 ⟨x, H1, I1, r1, q1⟩ => ?_
  obtain ⟨a, e, ⟨xs, hq⟩, q⟩ := q1
  subst e
  cases r1
  obtain ⟨its, rv, p, hz⟩ := I1.list hq
  refine wpAny_pyIter_list p.isList ?_
  refine ⟨s1.heap.objs.size, [s1.heap.objs.size], _, _, H1, rfl, I1.kept (t' := s1.toks) fun b o e => Heap.get?_push_of_some _ e, turn_list a _, ⟨_, Heap.get?_push_size _ rfl, rfl, rfl⟩, fun b hb => ?_, q⟩
  have e : b = s1.heap.objs.size := by simpa using hb
  subst e
  exact I1.fpOk (Nat.le_refl _) (I1.hok.fresh (Nat.le_refl _))
theorem pi_tup {l : Expr} {tl : TE} (hl : PE X l tl) : PI X tg l (iTup X.K tl) := by
  intro pins s σ H R I h
  refine thn (hl pins s σ H _ I h) fun v s1 ⟨x, H1, I1, r1, q1⟩ => ?_
  obtain ⟨a, e, ⟨xs, hq⟩, q⟩ := q1
  subst e
  cases r1
  obtain ⟨its, rv, p, hz⟩ := I1.tuple hq
  refine wpAny_pyIter_tuple (show s1.heap.IsTuple a its.toArray from p) ?_
  refine ⟨s1.heap.objs.size, [s1.heap.objs.size], _, _, H1, rfl, I1.kept (t' := s1.toks) fun b o e => Heap.get?_push_of_some _ e, turn_tuple a _, ⟨_, Heap.get?_push_size _ rfl, rfl, rfl⟩, fun b hb => ?_, q⟩
  have e : b = s1.heap.objs.size := by simpa using hb
  subst e
  exact I1.fpOk (Nat.le_refl _) (I1.hok.fresh (Nat.le_refl _))
/-- a range object just made, walked -/
theorem range_it {pins : List (Addr × Obj)} {σ : St} {H : Hp} {s : Shared} {R : It → Hp → Prop} {E : Value → Shared → Prop} {lo hi : Int} {t u v : Tok} {tk : Nat} (I : Inv X pins σ H s) (h1 : -(2 ^ 62) ≤ lo) (h2 : lo < 2 ^ 62) (h3 : -(2 ^ 62) ≤ hi) (h4 : hi < 2 ^ 62)
    (q : R (Itr lo (hi - lo).toNat) H) : wpAny (model X.prog X.w) X.A (pyIter (.ref s.heap.objs.size)) (PIE X pins σ tg R) E { s with heap := s.heap.push { cls := .type "range", data := .fields #[.int lo t, .int hi u, .int 1 v] }, toks := tk } := by
  refine wpAny_pyIter_range (IsRange.new ..) (small_one h1 h2 h3 h4) ?_
  have I1 : Inv X pins σ H { s with heap := s.heap.push { cls := .type "range", data := .fields #[.int lo t, .int hi u, .int 1 v] }, toks := tk } := I.kept fun b o e => Heap.get?_push_of_some _ e
  refine ⟨(s.heap.push { cls := .type "range", data := .fields #[.int lo t, .int hi u, .int 1 v] }).objs.size, [(s.heap.push { cls := .type "range", data := .fields #[.int lo t, .int hi u, .int 1 v] }).objs.size], _, _, H, rfl,
    I1.kept (t' := tk) fun b o e => Heap.get?_push_of_some _ e, turn_range _ lo (hi - lo).toNat, ?_, fun b hb => ?_, q⟩
  · have e1 : lo + ((0 : Nat) : Int) * 1 = lo := by simp
    have e2 : (((hi - lo).toNat : Nat) : Int) - ((0 : Nat) : Int) = Builtin.Range.rangeSize lo hi 1 := by rw [rangeSize_one]; split <;> omega
    show IsRangeIter _ _ (lo + ((0 : Nat) : Int) * 1) ((((hi - lo).toNat : Nat) : Int) - ((0 : Nat) : Int)) 1
    rw [e1, e2]
    exact Heap.get?_push_size _ rfl
  · have e : b = (s.heap.push { cls := .type "range", data := .fields #[.int lo t, .int hi u, .int 1 v] }).objs.size := by simpa using hb
    subst e
    exact I1.fpOk (Nat.le_refl _) (I1.hok.fresh (Nat.le_refl _))
def iRng1 (ta : TA) : TI := fun σ H R => ta σ H fun vs H1 => ∃ j : Int, vs = [.int j] ∧ -(2 ^ 62) ≤ j ∧ j < 2 ^ 62 ∧ R (Itr 0 j.toNat) H1
theorem pi_range1 {a : Expr} {ta : TA} {p pos : Pos} (hg : Gl X "range") (hm : X.mg "range" = none) (ha : PA X [a] ta) (hs : starEach [a] X.env = [(false, eval a X.env)] := by rfl) : PI X tg (.Call (.Name "range" p) [a] [] pos) (iRng1 ta) := by
  intro pins s σ H R I h
  refine Call_ (ld_blt I hg hm boot_range (PyProof.Rows.callWith_type1 (thn (ha pos pins s σ H _ I h) fun us s1 ⟨vs, H1, I1, r1, q1⟩ => ?_) hs rfl))
  obtain ⟨j, e, q1, q2, q⟩ := q1
  subst e
  cases r1 with
  | cons r rr =>
    cases rr
    obtain ⟨t, rfl⟩ := r
    exact call_range_1 (range_it I1 (by omega) (by omega) q1 q2 (by simpa using q))

/-! ### for -/
/-- W: the invariant by the turn and a measure; N: what the body is to reach -/
def tFor (wi : TI) (g : TG) (tb : TS) : TS := fun D σ H => wi σ H fun J H1 => ∃ W : Nat → Nat → St → Hp → Prop, (∃ m, W 0 m σ H1) ∧ ∀ i m σ H, W i m σ H →
  (J.stop i H ∧ D.nx σ H) ∨ (J.go i H ∧ ∃ N : St → Hp → Prop, (∀ σ' H', N σ' H' → ∃ m', m' < m ∧ W (i + 1) m' σ' H') ∧ ∀ x H', J.yld i H x H' → g x σ H' fun σ2 H2 => tb { D with nx := N, ct := N, bk := D.nx } σ2 H2)
/-- the records at fp as they stand -/
def pinsAt (fp : List Addr) (h : Heap) : List (Addr × Obj) := fp.filterMap fun b => (h.get? b).map fun o => (b, o)
theorem mem_pinsAt {fp : List Addr} {h : Heap} {b : Addr} {o : Obj} (hb : b ∈ fp) (e : h.get? b = some o) : (b, o) ∈ pinsAt fp h := List.mem_filterMap.mpr ⟨b, hb, by rw [e]; rfl⟩
theorem of_pinsAt {fp : List Addr} {h : Heap} {p : Addr × Obj} (hp : p ∈ pinsAt fp h) : p.1 ∈ fp ∧ h.get? p.1 = some p.2 := by
  obtain ⟨b, hb, e⟩ := List.mem_filterMap.mp hp
  cases q : h.get? b with
  | none => rw [q] at e; cases e
  | some o =>
    rw [q] at e
    have e' : (b, o) = p := Option.some.inj e
    subst e'
    exact ⟨hb, q⟩
theorem Inv.pinned {pins : List (Addr × Obj)} {σ : St} {H : Hp} {s : Shared} {fp : List Addr} (I : Inv X pins σ H s) (hf : ∀ b ∈ fp, FpOk X pins H b) (ho : ∀ b ∈ fp, ∃ o, s.heap.get? b = some o ∧ ∀ v, o.data ≠ .cell v) : Inv X (pins ++ pinsAt fp s.heap) σ H s :=
  I.pins_of fun p hp => (List.mem_append.mp hp).elim (fun z => I.pin p (List.mem_append_right _ z)) fun z => by
    obtain ⟨hb, e⟩ := of_pinsAt z
    obtain ⟨f0, f1, f2, _⟩ := hf p.1 hb
    obtain ⟨o, e', d⟩ := ho p.1 hb
    rw [e] at e'; cases e'
    exact ⟨e, f0, f1, f2, d⟩
theorem Inv.unpinned {pins pl : List (Addr × Obj)} {σ : St} {H : Hp} {s : Shared} (I : Inv X (pins ++ pl) σ H s) : Inv X pins σ H s := I.pins_of fun p hp => I.pin p (List.mem_append_right _ (List.mem_append_left _ hp))
theorem ps_for {iter : Expr} {body : List Stmt} {wi : TI} {g : TG} {tb : TS} {pos : Pos} (hp : PassesOwn (model X.prog X.w) X.A X.env X.xe) (hc : X.calm = true) (hi : PI X tg iter wi) (hg : PG X tg g) (hb : PSs X body tb)
    (hs : ∀ x, foldedSetIterable iter X.env x = pure x := by intro _; rfl) : PS X (.For tg iter body [] pos) (tFor wi g tb) := by
  intro pins s σ H D I h
  refine wpAny_For (thn (hi pins s σ H _ I h) fun v s1 h1 => thn h1 fun itv s2 h2 => ?_) hs
  obtain ⟨it, fp, tn, J, H2, e, I2, T, st2, f2, W, ⟨m0, w0⟩, turn⟩ := h2
  subst e
  -- what stays true of the iterator's objects through the loop
  have stat : ∀ {H' : Hp}, (∀ b ∈ fp, H' b = none) → ∀ b ∈ fp, FpOk X pins H' b := fun hn b hb => ⟨hn b hb, (f2 b hb).2⟩
  refine codeAny_forLoop_any (fun n s' => ∃ i σ' H', Inv X pins σ' H' s' ∧ tn i s'.heap ∧ (∀ b ∈ fp, H' b = none) ∧ W i n σ' H') ?_ m0 ⟨0, σ, H2, I2, st2, fun b hb => (f2 b hb).1, w0⟩
  rintro n s3 ⟨i, σ3, H3, I3, st3, fr3, w3⟩
  rcases turn i n σ3 H3 w3 with ⟨stop, qn⟩ | ⟨go, N, hN, step⟩
  · refine wpAny_passesOwn hp (thn (T.done X rfl rfl rfl hc i pins s3 σ3 H3 X.xe I3 (stat fr3) st3 stop) fun r s4 ⟨hr, I4⟩ => ?_)
    subst hr
    exact wpAny_execs_nil ⟨σ3, H3, I4, qn⟩
  · refine wpAny_passesOwn hp (thn (T.item X rfl rfl rfl hc i pins s3 σ3 H3 X.xe I3 (stat fr3) st3 go) fun r s4 ⟨u, hr, h4⟩ => ?_)
    subst hr
    refine wpAny_passesOwn hp (thn h4 fun _ s5 ⟨x, H5, I5, r5, y5, st5, fr5⟩ => ?_)
    have I5' := I5.pinned (stat fr5) (T.obj _ _ st5)
    refine wpAny_passesOwn hp (thn (hg _ s5 σ3 H5 x u _ I5' r5 (step x H5 y5)) fun _ s6 ⟨σ6, H6, I6, q6⟩ => ?_)
    refine wpAny_passesOwn hp (thn (hb _ s6 σ6 H6 _ I6 q6) fun f s7 q7 => ?_)
    have again : ∀ {σ7 : St} {H7 : Hp}, Inv X (pins ++ pinsAt fp s5.heap) σ7 H7 s7 → N σ7 H7 → ∃ m, m < n ∧ ∃ i σ' H', Inv X pins σ' H' s7 ∧ tn i s7.heap ∧ (∀ b ∈ fp, H' b = none) ∧ W i m σ' H' := fun {σ7 H7} I7 n7 => by
      obtain ⟨m', hm, w7⟩ := hN σ7 H7 n7
      refine ⟨m', hm, i + 1, σ7, H7, I7.unpinned, T.keep _ _ _ st5 fun b hb o e => (I7.pin (b, o) (List.mem_append_right _ (List.mem_append_right _ (mem_pinsAt hb e)))).1, fun b hb => ?_, w7⟩
      obtain ⟨o, e, d⟩ := T.obj _ _ st5 b hb
      exact (I7.pin (b, o) (List.mem_append_right _ (List.mem_append_right _ (mem_pinsAt hb e)))).2.1
    cases f with
    | next => obtain ⟨σ7, H7, I7, n7⟩ := q7; exact again I7 n7
    | cont => obtain ⟨σ7, H7, I7, n7⟩ := q7; exact again I7 n7
    | brk => obtain ⟨σ7, H7, I7, q7⟩ := q7; exact ⟨σ7, H7, I7.unpinned, q7⟩
    | ret v => obtain ⟨x7, σ7, H7, I7, r7, q7⟩ := q7; exact ⟨x7, σ7, H7, I7.unpinned, r7, q7⟩
end

/-! ### the forms one uses -/
theorem for_tup {K : PySem.W.Frag} {a : Addr} {xs : List V} {g : TG} {tb : TS} {D : Ends} {σ : St} {H : Hp} (Pv : Nat → St → Hp → Prop) (h0 : Pv 0 σ H) (hl : ∀ i σ H, i ≤ xs.length → Pv i σ H → SqT K H a xs)
    (hs : ∀ i x σ H, xs[i]? = some x → Pv i σ H → g x σ H fun σ2 H2 => tb { D with nx := Pv (i + 1), ct := Pv (i + 1), bk := D.nx } σ2 H2) (hd : ∀ σ H, Pv xs.length σ H → D.nx σ H) :
    ∃ W : Nat → Nat → St → Hp → Prop, (∃ m, W 0 m σ H) ∧ ∀ i m σ H, W i m σ H →
      ((Itt K a).stop i H ∧ D.nx σ H) ∨ ((Itt K a).go i H ∧ ∃ N : St → Hp → Prop, (∀ σ' H', N σ' H' → ∃ m', m' < m ∧ W (i + 1) m' σ' H') ∧ ∀ x H', (Itt K a).yld i H x H' → g x σ H' fun σ2 H2 => tb { D with nx := N, ct := N, bk := D.nx } σ2 H2) := by
  refine ⟨fun i m σ H => m = xs.length - i ∧ i ≤ xs.length ∧ Pv i σ H, ⟨xs.length, by simp, Nat.zero_le _, h0⟩, ?_⟩
  rintro i m σ H ⟨rfl, hi, p⟩
  have q := hl i σ H hi p
  by_cases hlt : i < xs.length
  · refine .inr ⟨⟨xs, xs[i], q, by simp [hlt]⟩, Pv (i + 1), fun σ' H' p' => ⟨xs.length - (i + 1), by omega, rfl, hlt, p'⟩, fun x H' y => ?_⟩
    obtain ⟨e, y⟩ := y
    subst e
    exact hs i x σ _ (y xs q) p
  · have e : i = xs.length := by omega
    subst e
    exact .inl ⟨⟨xs, q, Nat.le_refl _⟩, hd σ H p⟩
theorem for_range {lo : Int} {n : Nat} {g : TG} {tb : TS} {D : Ends} {σ : St} {H : Hp} (Pv : Nat → St → Hp → Prop) (h0 : Pv 0 σ H)
    (hs : ∀ i σ H, i < n → Pv i σ H → g (.int (lo + i)) σ H fun σ2 H2 => tb { D with nx := Pv (i + 1), ct := Pv (i + 1), bk := D.nx } σ2 H2) (hd : ∀ σ H, Pv n σ H → D.nx σ H) :
    ∃ W : Nat → Nat → St → Hp → Prop, (∃ m, W 0 m σ H) ∧ ∀ i m σ H, W i m σ H →
      ((Itr lo n).stop i H ∧ D.nx σ H) ∨ ((Itr lo n).go i H ∧ ∃ N : St → Hp → Prop, (∀ σ' H', N σ' H' → ∃ m', m' < m ∧ W (i + 1) m' σ' H') ∧ ∀ x H', (Itr lo n).yld i H x H' → g x σ H' fun σ2 H2 => tb { D with nx := N, ct := N, bk := D.nx } σ2 H2) := by
  refine ⟨fun i m σ H => m = n - i ∧ i ≤ n ∧ Pv i σ H, ⟨n, by simp, Nat.zero_le _, h0⟩, ?_⟩
  rintro i m σ H ⟨rfl, hi, p⟩
  by_cases hlt : i < n
  · refine .inr ⟨hlt, Pv (i + 1), fun σ' H' p' => ⟨n - (i + 1), by omega, rfl, hlt, p'⟩, fun x H' y => ?_⟩
    obtain ⟨e, y⟩ := y
    subst e y
    exact hs i σ _ hlt p
  · have e : i = n := by omega
    subst e
    exact .inl ⟨Nat.le_refl _, hd σ H p⟩
/-- while, by a word and a measure of the state -/
theorem while_by {c : TT} {tb : TS} {D : Ends} {σ : St} {H : Hp} (Pv : St → Hp → Prop) (μ : St → Hp → Nat) (h0 : Pv σ H)
    (hs : ∀ σ H, Pv σ H → c σ H fun b H1 => if b = true then tb { D with nx := fun σ' H' => Pv σ' H' ∧ μ σ' H' < μ σ H, ct := fun σ' H' => Pv σ' H' ∧ μ σ' H' < μ σ H, bk := D.nx } σ H1 else D.nx σ H1)
    (mono : ∀ σ H Q Q', (∀ b H1, Q b H1 → Q' b H1) → c σ H Q → c σ H Q') : tWhile c tb D σ H := by
  refine ⟨fun m σ H => m = μ σ H ∧ Pv σ H, ⟨_, rfl, h0⟩, ?_⟩
  rintro m σ H ⟨rfl, p⟩
  refine mono σ H _ _ (fun b H1 q => ?_) (hs σ H p)
  cases b with
  | true => exact ⟨_, fun σ' H' ⟨p', l⟩ => ⟨_, l, rfl, p'⟩, q⟩
  | false => exact q
end L2

namespace L2
open PySem PySem.Spec PyProof.Rows

abbrev R2 := V → V → Hp → VK → Prop
/-- a two-place operation on values: f is binaryOp op, inplaceOp op or compareOp op -/
def OpR (X : Cx) (f : Value → Value → Sem Value) (r : R2) : Prop :=
  ∀ (pins : List (Addr × Obj)) (s : Shared) (σ : St) (H : Hp) (x y : V) (v u : Value) (Q : VK), Inv X pins σ H s → RelV x v → RelV y u → r x y H Q →
    wpAny (model X.prog X.w) X.A (f v u) (EP X pins σ Q) X.xe s
/-- a one-place operation -/
def UnR (X : Cx) (f : Value → Sem Value) (r : V → Hp → VK → Prop) : Prop :=
  ∀ (pins : List (Addr × Obj)) (s : Shared) (σ : St) (H : Hp) (x : V) (v : Value) (Q : VK), Inv X pins σ H s → RelV x v → r x H Q →
    wpAny (model X.prog X.w) X.A (f v) (EP X pins σ Q) X.xe s
/-- a call of a value that is known (a builtin, a type) with values -/
def CallR (X : Cx) (f : Value) (r : List V → Hp → VK → Prop) : Prop :=
  ∀ (pins : List (Addr × Obj)) (s : Shared) (σ : St) (H : Hp) (xs : List V) (us : List Value) (Q : VK), Inv X pins σ H s → Vals xs us → r xs H Q →
    wpAny (model X.prog X.w) X.A (call f us) (EP X pins σ Q) X.xe s

def tOp (r : R2) (ta tb : TE) : TE := fun σ H Q => ta σ H fun x H1 => tb σ H1 fun y H2 => r x y H2 Q
def tUn (r : V → Hp → VK → Prop) (ta : TE) : TE := fun σ H Q => ta σ H fun x H1 => r x H1 Q
/-- ints in, under C, and a value out -/
def rI (C : Int → Int → Prop) (g : Int → Int → V) : R2 := fun x y H Q => ∃ i j, x = .int i ∧ y = .int j ∧ C i j ∧ Q (g i j) H
def rI0 (g : Int → Int → V) : R2 := fun x y H Q => ∃ i j, x = .int i ∧ y = .int j ∧ Q (g i j) H
def rU (g : Int → V) : V → Hp → VK → Prop := fun x H Q => ∃ i, x = .int i ∧ Q (g i) H

section
variable {X : Cx} {a b c : Expr} {ta tb tc : TE} {pos : Pos}

theorem binT (ha : PE X a ta) (hb : PE X b tb) {pins : List (Addr × Obj)} {s : Shared} {σ : St} {H : Hp} {R : V → V → Hp → Prop} (I : Inv X pins σ H s)
    (h : ta σ H fun x H1 => tb σ H1 fun y H2 => R x y H2) {Q : Value → Shared → Prop} {f : Value → Value → Sem Value}
    (hf : ∀ v u s2 x y H2, Inv X pins σ H2 s2 → RelV x v → RelV y u → R x y H2 → wpAny (model X.prog X.w) X.A (f v u) Q X.xe s2) :
    wpAny (model X.prog X.w) X.A (eval a X.env) (fun v s₁ => wpAny (model X.prog X.w) X.A (eval b X.env) (fun u s₂ => wpAny (model X.prog X.w) X.A (f v u) Q X.xe s₂) X.xe s₁) X.xe s := by
  refine thn (ha pins s σ H _ I h) fun v s1 ⟨x, H1, I1, r1, q1⟩ => ?_
  refine thn (hb pins s1 σ H1 _ I1 q1) fun u s2 ⟨y, H2, I2, r2, q2⟩ => ?_
  exact hf v u s2 x y H2 I2 r1 r2 q2

theorem pe_op {op : Operator} {r : R2} (ho : OpR X (binaryOp op) r) (ha : PE X a ta) (hb : PE X b tb) : PE X (.BinOp a op b pos) (tOp r ta tb) := by
  intro pins s σ H Q I h
  exact wpAny_BinOp (binT ha hb I h fun v u s2 x y H2 I2 rx ry q => ho pins s2 σ H2 x y v u Q I2 rx ry q)
theorem pe_un {op : UnaryOp} {r : V → Hp → VK → Prop} (ho : UnR X (unaryOp op) r) (ha : PE X a ta) : PE X (.UnaryOp op a pos) (tUn r ta) := by
  intro pins s σ H Q I h
  exact UnaryOp_ (thn (ha pins s σ H _ I h) fun v s1 ⟨x, H1, I1, r1, q1⟩ => ho pins s1 σ H1 x v Q I1 r1 q1)

/-! ### ints -/
theorem opI {f : Value → Value → Sem Value} {C : Int → Int → Prop} {g : Int → Int → Int}
    (rule : ∀ (i j : Int) (t u : Tok) (s : Shared) (Q : Value → Shared → Prop) (E : Value → Shared → Prop), C i j → Q (.int (g i j) s.toks) { s with toks := s.toks + 1 } → wpAny (model X.prog X.w) X.A (f (.int i t) (.int j u)) Q E s) :
    OpR X f (rI C fun i j => .int (g i j)) := by
  intro pins s σ H x y v u Q I rx ry h
  obtain ⟨i, j, rfl, rfl, hc, q⟩ := h
  obtain ⟨t, rfl⟩ := rx
  obtain ⟨t', rfl⟩ := ry
  exact rule i j t t' s _ _ hc ⟨.int (g i j), H, I.tok _, ⟨_, rfl⟩, q⟩
theorem opI0 {f : Value → Value → Sem Value} {g : Int → Int → Int}
    (rule : ∀ (i j : Int) (t u : Tok) (s : Shared) (Q : Value → Shared → Prop) (E : Value → Shared → Prop), Q (.int (g i j) s.toks) { s with toks := s.toks + 1 } → wpAny (model X.prog X.w) X.A (f (.int i t) (.int j u)) Q E s) :
    OpR X f (rI0 fun i j => .int (g i j)) := by
  intro pins s σ H x y v u Q I rx ry h
  obtain ⟨i, j, rfl, rfl, q⟩ := h
  obtain ⟨t, rfl⟩ := rx
  obtain ⟨t', rfl⟩ := ry
  exact rule i j t t' s _ _ ⟨.int (g i j), H, I.tok _, ⟨_, rfl⟩, q⟩
theorem opB0 {f : Value → Value → Sem Value} {g : Int → Int → Bool}
    (rule : ∀ (i j : Int) (t u : Tok) (s : Shared) (Q : Value → Shared → Prop) (E : Value → Shared → Prop), Q (.bool (g i j)) s → wpAny (model X.prog X.w) X.A (f (.int i t) (.int j u)) Q E s) :
    OpR X f (rI0 fun i j => .bl (g i j)) := by
  intro pins s σ H x y v u Q I rx ry h
  obtain ⟨i, j, rfl, rfl, q⟩ := h
  obtain ⟨t, rfl⟩ := rx
  obtain ⟨t', rfl⟩ := ry
  exact rule i j t t' s _ _ ⟨.bl (g i j), H, I, rfl, q⟩

def CPow (i j : Int) : Prop := 0 ≤ j ∧ j ≤ 1000000 ∧ i.natAbs < 2 ^ 64
def CMul (i j : Int) : Prop := (-(2 ^ 64) < i ∧ i < 2 ^ 64) ∨ (-(2 ^ 64) < j ∧ j < 2 ^ 64)
theorem CMul.ok {i j : Int} (h : CMul i j) : IntMulOk i j := by
  rcases h with ⟨h1, h2⟩ | ⟨h1, h2⟩
  · exact .of_left (intBits_le_64 h1 h2)
  · exact .of_right (intBits_le_64 h1 h2)

theorem op_add : OpR X (binaryOp .Add) (rI0 fun i j => .int (i + j)) := opI0 fun _ _ _ _ _ _ _ q => add_int q
theorem op_sub : OpR X (binaryOp .Sub) (rI0 fun i j => .int (i - j)) := opI0 fun _ _ _ _ _ _ _ q => sub_int q
theorem op_mul : OpR X (binaryOp .Mult) (rI CMul fun i j => .int (i * j)) := opI fun _ _ _ _ _ _ _ hc q => mul_int q hc.ok
/-- % by a positive divisor of any size -/
theorem op_mod : OpR X (binaryOp .Mod) (rI (fun _ j => 0 < j) fun i j => .int (i % j)) := opI fun i j _ _ _ _ _ hc q => by
  have h1 : (0 : Int) < j := hc
  exact mod_int' (by omega) (by rw [Int.fmod_eq_emod_of_nonneg i (by omega)]; exact q)
theorem op_pow : OpR X (binaryOp .Pow) (rI CPow fun i j => .int (i ^ j.toNat)) := opI fun _ _ _ _ _ _ _ hc q => pow_int_small hc.1 hc.2.1 hc.2.2 q


theorem unI {f : Value → Sem Value} {g : Int → Int}
    (rule : ∀ (i : Int) (t : Tok) (s : Shared) (Q : Value → Shared → Prop) (E : Value → Shared → Prop), Q (.int (g i) s.toks) { s with toks := s.toks + 1 } → wpAny (model X.prog X.w) X.A (f (.int i t)) Q E s) :
    UnR X f (rU fun i => .int (g i)) := by
  intro pins s σ H x v Q I rx h
  obtain ⟨i, rfl, q⟩ := h
  obtain ⟨t, rfl⟩ := rx
  exact rule i t s _ _ ⟨.int (g i), H, I.tok _, ⟨_, rfl⟩, q⟩
theorem un_neg : UnR X (unaryOp .USub) (rU fun i => .int (-i)) := unI fun _ _ _ _ _ q => neg_int q

/-! ### bools among ints: n += (a < b) -/
end

/-! ### comparisons -/
/-- the scalars that == tells apart as data does -/
def scal : V → V → Bool
  | .non, .non => true | .non, .int _ => true | .int _, .non => true | .non, .bl _ => true | .bl _, .non => true | .non, .str _ => true | .str _, .non => true
  | .int _, .int _ => true | .bl _, .bl _ => true | .str _, .str _ => true | .byt _, .byt _ => true
  | .int _, .str _ => true | .str _, .int _ => true | .bl _, .str _ => true | .str _, .bl _ => true
  | _, _ => false
def rEq : R2 := fun x y H Q => scal x y = true ∧ Q (.bl (decide (x = y))) H
def rNe : R2 := fun x y H Q => scal x y = true ∧ Q (.bl (!decide (x = y))) H

theorem dec_int {i j : Int} : decide (V.int i = V.int j) = (i == j) := by
  rw [Bool.eq_iff_iff]
  simp
theorem dec_bl {i j : Bool} : decide (V.bl i = V.bl j) = (i == j) := by
  rw [Bool.eq_iff_iff]
  simp
theorem dec_str {i j : Str} : decide (V.str i = V.str j) = (i == j) := by
  rw [Bool.eq_iff_iff]
  simp
theorem dec_byt {i j : Array UInt8} : decide (V.byt i = V.byt j) = (i.toList == j.toList) := by
  rw [Bool.eq_iff_iff]
  cases i
  cases j
  simp

section
variable {X : Cx} {a b c : Expr} {ta tb tc : TE} {pos : Pos}
theorem fin_bl {pins : List (Addr × Obj)} {σ : St} {H : Hp} {s : Shared} {Q : VK} {k k' : Bool} (I : Inv X pins σ H s) (q : Q (.bl k) H) (e : k = k') : EP X pins σ Q (.bool k') s := by
  subst e
  exact ⟨.bl k, H, I, rfl, q⟩
theorem op_eq : OpR X (compareOp .Eq) rEq := by
  intro pins s σ H x y v u Q I rx ry h
  obtain ⟨hs, q⟩ := h
  cases x with
  | non =>
    cases rx
    cases y with
    | non => cases ry; exact PySem.EqNone.eq_none_none (fin_bl I q (by simp))
    | bl j => cases ry; exact PySem.EqNone.eq_none_bool (fin_bl I q (by simp))
    | int j => obtain ⟨t', rfl⟩ := ry; exact PySem.EqNone.eq_none_int (fin_bl I q (by simp))
    | str j => obtain ⟨t', rfl⟩ := ry; exact PySem.EqNone.eq_none_str (fin_bl I q (by simp))
    | _ => exact absurd (show false = true from hs) Bool.false_ne_true
  | bl i =>
    cases rx
    cases y with
    | non => cases ry; exact PySem.EqNone.eq_bool_none (fin_bl I q (by simp))
    | bl j => cases ry; exact eq_bool (fin_bl I q dec_bl)
    | str j => obtain ⟨t', rfl⟩ := ry; exact PySem.EqMixed.eq_bool_str (fin_bl I q (by simp))
    | _ => exact absurd (show false = true from hs) Bool.false_ne_true
  | int i =>
    obtain ⟨t, rfl⟩ := rx
    cases y with
    | non => cases ry; exact PySem.EqNone.eq_int_none (fin_bl I q (by simp))
    | int j => obtain ⟨t', rfl⟩ := ry; exact eq_int (fin_bl I q dec_int)
    | str j => obtain ⟨t', rfl⟩ := ry; exact PySem.EqMixed.eq_int_str (fin_bl I q (by simp))
    | _ => exact absurd (show false = true from hs) Bool.false_ne_true
  | str i =>
    obtain ⟨t, rfl⟩ := rx
    cases y with
    | non => cases ry; exact PySem.EqNone.eq_str_none (fin_bl I q (by simp))
    | bl j => cases ry; exact PySem.EqMixed.eq_str_bool (fin_bl I q (by simp))
    | int j => obtain ⟨t', rfl⟩ := ry; exact PySem.EqMixed.eq_str_int (fin_bl I q (by simp))
    | str j => obtain ⟨t', rfl⟩ := ry; exact eq_str (fin_bl I q dec_str)
    | _ => exact absurd (show false = true from hs) Bool.false_ne_true
  | byt i =>
    obtain ⟨t, rfl⟩ := rx
    cases y with
    | byt j => obtain ⟨t', rfl⟩ := ry; exact PySem.W.eq_bytes (fin_bl I q dec_byt)
    | _ => exact absurd (show false = true from hs) Bool.false_ne_true
  | _ => cases y <;> exact absurd (show false = true from hs) Bool.false_ne_true
theorem op_ne : OpR X (compareOp .NotEq) rNe := by
  intro pins s σ H x y v u Q I rx ry h
  obtain ⟨hs, q⟩ := h
  cases x with
  | non =>
    cases rx
    cases y with
    | non => cases ry; exact PySem.EqNone.ne_none_none (fin_bl I q (by simp))
    | bl j => cases ry; exact PySem.EqNone.ne_none_bool (fin_bl I q (by simp))
    | int j => obtain ⟨t', rfl⟩ := ry; exact PySem.EqNone.ne_none_int (fin_bl I q (by simp))
    | str j => obtain ⟨t', rfl⟩ := ry; exact PySem.EqNone.ne_none_str (fin_bl I q (by simp))
    | _ => exact absurd (show false = true from hs) Bool.false_ne_true
  | bl i =>
    cases rx
    cases y with
    | non => cases ry; exact PySem.EqNone.ne_bool_none (fin_bl I q (by simp))
    | bl j => cases ry; exact ne_bool (fin_bl I q (congrArg not dec_bl))
    | str j => obtain ⟨t', rfl⟩ := ry; exact PySem.EqMixed.ne_bool_str (fin_bl I q (by simp))
    | _ => exact absurd (show false = true from hs) Bool.false_ne_true
  | int i =>
    obtain ⟨t, rfl⟩ := rx
    cases y with
    | non => cases ry; exact PySem.EqNone.ne_int_none (fin_bl I q (by simp))
    | int j => obtain ⟨t', rfl⟩ := ry; exact ne_int (fin_bl I q (congrArg not dec_int))
    | str j => obtain ⟨t', rfl⟩ := ry; exact PySem.EqMixed.ne_int_str (fin_bl I q (by simp))
    | _ => exact absurd (show false = true from hs) Bool.false_ne_true
  | str i =>
    obtain ⟨t, rfl⟩ := rx
    cases y with
    | non => cases ry; exact PySem.EqNone.ne_str_none (fin_bl I q (by simp))
    | bl j => cases ry; exact PySem.EqMixed.ne_str_bool (fin_bl I q (by simp))
    | int j => obtain ⟨t', rfl⟩ := ry; exact PySem.EqMixed.ne_str_int (fin_bl I q (by simp))
    | str j => obtain ⟨t', rfl⟩ := ry; exact ne_str (fin_bl I q (congrArg not dec_str))
    | _ => exact absurd (show false = true from hs) Bool.false_ne_true
  | byt i =>
    obtain ⟨t, rfl⟩ := rx
    cases y with
    | byt j => obtain ⟨t', rfl⟩ := ry; exact PySem.W.ne_bytes (fin_bl I q (congrArg not dec_byt))
    | _ => exact absurd (show false = true from hs) Bool.false_ne_true
  | _ => cases y <;> exact absurd (show false = true from hs) Bool.false_ne_true

theorem op_lt : OpR X (compareOp .Lt) (rI0 fun i j => .bl (decide (i < j))) := opB0 fun _ _ _ _ _ _ _ q => lt_int q
theorem op_le : OpR X (compareOp .LtE) (rI0 fun i j => .bl (decide (i ≤ j))) := opB0 fun _ _ _ _ _ _ _ q => le_int q
theorem op_gt : OpR X (compareOp .Gt) (rI0 fun i j => .bl (decide (j < i))) := opB0 fun _ _ _ _ _ _ _ q => gt_int q
theorem op_ge : OpR X (compareOp .GtE) (rI0 fun i j => .bl (decide (j ≤ i))) := opB0 fun _ _ _ _ _ _ _ q => ge_int q

/-- is None, is not None: the right side a value none -/
theorem op_isN : OpR X (compareOp .Is) (fun x y H Q => y = .non ∧ Q (.bl (decide (x = .non))) H) := by
  intro pins s σ H x y v u Q I rx ry h
  obtain ⟨rfl, q⟩ := h
  cases ry
  refine is_none_gen (fin_bl I q ?_)
  cases x <;> first
    | (cases rx; rfl)
    | (obtain ⟨t, rfl⟩ := rx; rfl)



theorem nomark (b : Expr) {op : CmpOp} (h : op ≠ .In := by decide) (h2 : op ≠ .NotIn := by decide) : behindInMarks op b = false := by
  have e1 : (op == CmpOp.In) = false := by cases op <;> first | rfl | exact absurd rfl h
  have e2 : (op == CmpOp.NotIn) = false := by cases op <;> first | rfl | exact absurd rfl h2
  cases b <;> simp [behindInMarks, e1, e2]
/-- a comparison as a value; hm: nomark b, or (for in, not in) by with_unfolding_all rfl -/
theorem pe_cmpR {op : CmpOp} {r : R2} (ho : OpR X (compareOp op) r) (ha : PE X a ta) (hb : PE X b tb) (hm : behindInMarks op b = false) : PE X (.Compare a [op] [b] pos) (tOp r ta tb) := by
  intro pins s σ H Q I h
  exact wpAny_Compare1 (binT ha hb I h fun v u s2 x y H2 I2 rx ry q => ho pins s2 σ H2 x y v u Q I2 rx ry q) hm
/-- a reading of a value as a test -/
def tTest (t : TE) : TT := fun σ H Q => t σ H fun x H' => ∃ k, x = .bl k ∧ Q k H'
theorem pt_cmpR {op : CmpOp} {r : R2} (ho : OpR X (compareOp op) r) (ha : PE X a ta) (hb : PE X b tb) (hm : behindInMarks op b = false) : PT X (.Compare a [op] [b] pos) (tTest (tOp r ta tb)) := by
  intro pins s σ H Q I h
  refine wpAny_isTrue_Compare1 (thn (ha pins s σ H _ I h) fun v s1 ⟨x, H1, I1, r1, q1⟩ => thn (hb pins s1 σ H1 _ I1 q1) fun u s2 ⟨y, H2, I2, r2, q2⟩ =>
    thn (ho pins s2 σ H2 x y v u _ I2 r1 r2 q2) fun c s3 ⟨z, H3, I3, r3, k, e, q3⟩ => ?_) hm
  subst e
  cases r3
  exact wpAny_truthy_bool ⟨H3, I3, q3⟩
/-- a op1 b op2 c -/
def tChain (r r' : R2) (ta tb tc : TE) : TE := fun σ H Q => ta σ H fun x H1 => tb σ H1 fun y H2 => r x y H2 fun z H3 => ∃ k, z = .bl k ∧
  (if k = true then tc σ H3 fun w' H4 => r' y w' H4 Q else Q (.bl false) H3)
theorem pt_chain {op op' : CmpOp} {r r' : R2} (ho : OpR X (compareOp op) r) (ho' : OpR X (compareOp op') r') (ha : PE X a ta) (hb : PE X b tb) (hc : PE X c tc)
    (hm : lastMarks [op, op'] [b, c] = false := by with_unfolding_all rfl) : PT X (.Compare a [op, op'] [b, c] pos) (tTest (tChain r r' ta tb tc)) := by
  intro pins s σ H Q I h
  refine isTrue_chain (thn (ha pins s σ H _ I h) fun v s1 ⟨x, H1, I1, r1, q1⟩ => test_link (thn (hb pins s1 σ H1 _ I1 q1) fun u s2 ⟨y, H2, I2, r2, q2⟩ =>
    thn (ho pins s2 σ H2 x y v u _ I2 r1 r2 q2) fun d s3 ⟨z, H3, I3, r3, k, e, q3⟩ => ?_)) hm
  subst e
  cases r3
  refine wpAny_truthy_bool ?_
  cases k with
  | false =>
    obtain ⟨k', e', q'⟩ := q3
    cases e'
    exact ite_ff ⟨H3, I3, q'⟩
  | true =>
    refine ite_tt (test_last (thn (hc pins s3 σ H3 _ I3 q3) fun w' s4 ⟨z', H4, I4, r4, q4⟩ => thn (ho' pins s4 σ H4 y z' u w' _ I4 r2 r4 q4) fun d' s5 ⟨z2, H5, I5, r5, k2, e2, q5⟩ => ?_))
    subst e2
    cases r5
    exact wpAny_truthy_bool ⟨H5, I5, q5⟩

/-! ### truth -/
theorem line63 : (sizeLine : Nat) < 2 ^ 63 := by rw [sizeLine_eq]; decide

/-! ### strs and bytes -/
theorem op_add_str : OpR X (binaryOp .Add) (fun x y H Q => ∃ i j, x = .str i ∧ y = .str j ∧ i.length + j.length ≤ sizeLine ∧ Q (.str (i ++ j)) H) := by
  intro pins s σ H x y v u Q I rx ry h
  obtain ⟨i, j, rfl, rfl, hz, q⟩ := h
  obtain ⟨t, rfl⟩ := rx
  obtain ⟨t', rfl⟩ := ry
  exact add_str (fun t' tk => ⟨.str (i ++ j), H, I.tok _, ⟨_, rfl⟩, q⟩) hz


/-! ### scalar builtins, by CallR -/
theorem vals1 {x : V} {us : List Value} (r : Vals [x] us) : ∃ u, us = [u] ∧ RelV x u := by
  cases r with
  | cons r1 r2 => cases r2; exact ⟨_, rfl, r1⟩
theorem vals2 {x y : V} {us : List Value} (r : Vals [x, y] us) : ∃ u w', us = [u, w'] ∧ RelV x u ∧ RelV y w' := by
  cases r with
  | cons r1 r2 =>
    cases r2 with
    | cons r3 r4 => cases r4; exact ⟨_, _, rfl, r1, r3⟩
end
end L2

namespace L2
open PySem PySem.Spec PyProof.Rows

/-! ### an instance, its attributes a map -/
structure ObjM (h : Heap) (x dx C : Addr) (mA : Str → Option Value) : Prop where
  obj : h.get? x = some (PySem.W.instObj C dx)
  ns : h.Ns1 dx mA
  ne : dx ≠ x

theorem lookIn_ns {h : Heap} {dx : Addr} {mA : Str → Option Value} (n : h.Ns1 dx mA) : ∃ od, h.get? dx = some od ∧ ∀ name, PySem.W.lookIn name od = some (mA name) := by
  obtain ⟨o, es, ep, ho, hd, hk, _, hm⟩ := n
  refine ⟨o, ho, fun name => ?_⟩
  have e := hm name
  unfold nsFind findBy at e
  rw [← Array.find?_toList] at e
  unfold PySem.W.lookIn
  rw [hd]
  dsimp only
  split
  · rename_i y q
    rw [q] at e
    exact congrArg some e
  · rename_i q
    rw [q] at e
    have a : es.toList.any (·.refKey) = false := by
      rw [List.any_eq_false]
      intro y hy
      obtain ⟨z, t, hkey⟩ := hk y (Array.mem_toList_iff.mp hy)
      simp [DictEntry.refKey, hkey]
    have a' : ¬ es.toList.any (·.refKey) = true := by rw [a]; exact Bool.false_ne_true
    rw [if_neg a']
    exact congrArg some e

theorem ObjM.look {h : Heap} {x dx C : Addr} {mA : Str → Option Value} (I : ObjM h x dx C mA) : ∃ od, PySem.W.InstAt h x (PySem.W.instObj C dx) C (some od) ∧ ∀ name, PySem.W.lookIn name od = some (mA name) :=
  let ⟨od, ho, hl⟩ := lookIn_ns I.ns
  ⟨od, ⟨I.obj, rfl, rfl, ho⟩, hl⟩

section
variable {prog : Program} {w : World} {A : Around} {E : Value → Shared → Prop} {s : Shared} {K : PySem.W.Frag} {x dx C f : Addr} {mA : Str → Option Value} {name : Str} {v : Value}





end

/-! ### the attributes as a list of pairs -/

theorem RelO.some_of {v : V} {o : Option Value} (r : RelO (some v) o) : ∃ u, o = some u ∧ RelV v u := by
  cases o with
  | none => exact (show False from r).elim
  | some u => exact ⟨u, rfl, r⟩
theorem handed_of {v : V} {u : Value} (r : RelV v u) : PySem.W.handedIn u = true := by
  cases v with
  | non => cases (show u = Value.none from r); rfl
  | bl b => cases (show u = Value.bool b from r); rfl
  | int i => obtain ⟨t, e⟩ := (show ∃ t, u = Value.int i t from r); cases e; rfl
  | str x => obtain ⟨t, e⟩ := (show ∃ t, u = Value.str x t from r); cases e; rfl
  | byt b => obtain ⟨t, e⟩ := (show ∃ t, u = Value.bytes b t from r); cases e; rfl
  | flt b => obtain ⟨t, e⟩ := (show ∃ t, u = Value.float b t from r); cases e; rfl
  | ref a => cases (show u = Value.ref a from r); rfl
  | ty n => cases (show u = Value.type n from r); rfl

section
variable {P : Program} {w : World} {H H' : Hp} {h h' : Heap} {a C dx : Addr} {fs fs' : List (Str × V)}
theorem ins_get (hok : HOk P w H h) (e : H a = some (.ins C dx fs)) : ∃ mA, ObjM h a dx C mA ∧ (∀ f, RelO (fs.lookup f) (mA f)) ∧ PySem.Within mA (fs.map (·.1)) ∧ fs.length ≤ 1000 ∧ H dx = some (.own a) := by
  obtain ⟨d, z, ne, ob, mA, n, r, q⟩ := (show ObjOk P w H h a (.ins C dx fs) from hok a _ e)
  exact ⟨mA, ⟨ob, n, ne⟩, r, q, z, d⟩
end

/-! ### what of the text a class must have -/
structure Cls (K : PySem.W.Frag) (C : Addr) : Prop where
  pg : PySem.W.plainGet K C Str.empty = true
  hd : PySem.W.hasDictIn K C = true
  po : PySem.W.plainOver K C = true
  sa : PySem.W.findIn K (.ref C) "__setattr__" = some (some (.builtin "object.__setattr__"))
theorem Cls.get {K : PySem.W.Frag} {C : Addr} (c : Cls K C) (f : Str) : PySem.W.plainGet K C f = true := c.pg

section
variable {X : Cx} {pins : List (Addr × Obj)} {σ : St} {H : Hp} {s : Shared} {a C dx : Addr} {fs : List (Str × V)} {f : Str} {v : V} {A : Around} {E : Value → Shared → Prop}






/-- e.f where nothing but the object is asked: through attributeBase (super) and the last hold -/
theorem attr_of {prog : Program} {w : World} {env : Env} {e : Expr} {f : Str} {pos : Pos} {s : Shared} {Q : Value → Shared → Prop} (hb : attributeBase e f env (eval e env) = eval e env)
    (h : wpAny (model prog w) A (eval e env) (fun o s₁ => wpAny (model prog w) A (getAttr o f true) Q E s₁) E s) : wpAny (model prog w) A (eval (.Attribute e f pos) env) Q E s :=
  Attribute_any_ h (by rw [arm_eval_Attribute, hb])
end

/-! ### readings and rules -/

section
variable {X : Cx} {o e value : Expr} {f : Str} {pos pos' tpos : Pos} {ta tv : TE}

end

/-! ### isinstance -/
section
variable {X : Cx} {pins : List (Addr × Obj)} {σ : St} {H : Hp} {s : Shared} {A : Around} {E : Value → Shared → Prop} {Q : Value → Shared → Prop} {c : Value} {b : Bool}
/-- the type of a value, as the fragment's deciders take it; for an instance its class -/
inductive TyOf (K : PySem.W.Frag) (H : Hp) : V → Value → Prop where
  | non : TyOf K H .non (.type "NoneType")
  | bl (x : Bool) : TyOf K H (.bl x) (.type "bool")
  | int (i : Int) : TyOf K H (.int i) (.type "int")
  | str (x : Str) : TyOf K H (.str x) (.type "str")
  | flt (x : UInt64) : TyOf K H (.flt x) (.type "float")
  | lst {a : Addr} {xs : List V} (e : H a = some (.lst xs)) : TyOf K H (.ref a) (.type "list")
  | frz {a : Addr} {o : Obj} {xs : List V} (e : H a = some (.frz o (.lst xs))) : TyOf K H (.ref a) (.type "list")
  | tup {a : Addr} {xs : List V} (e : H a = some (.tup xs)) : TyOf K H (.ref a) (.type "tuple")
  | dK {a : Addr} {kvs : List (Key × V)} (e : H a = some (.dK kvs)) : TyOf K H (.ref a) (.type "dict")
  | dT {a : Addr} {kvs : List (List Key × V)} (e : H a = some (.dT kvs)) : TyOf K H (.ref a) (.type "dict")
  | ins {a C dx : Addr} {fs : List (Str × V)} (e : H a = some (.ins C dx fs)) (cl : Cls K C) (ha : PySem.W.findIn K (.ref C) "__class__" = some (some (.builtin "object.__class__")))
      (hn : PySem.W.specialIn K (.builtin "object.__class__") "__get__" = some (some (.builtin "getset_descriptor.__get__"))) (htk : PySem.W.takesIn K (.builtin "object.__class__") = some true)
      (hm : PySem.W.mroIn K C (.type "object") = some true) : TyOf K H (.ref a) (.ref C)
/-- isinstance(x, c) for one class c, a built-in or an own one: kitOne's answer -/
theorem isinst_ok {x : V} {u t : Value} (I : Inv X pins σ H s) (rx : RelV x u) (ty : TyOf X.K H x t) (e : PySem.W.kitOne X.K t c = some b) (h : ∀ tk, Q (.bool b) { s with toks := tk }) :
    wpAny (model X.prog X.w) A (call (.builtin "isinstance") [u, c]) Q E s := by
  cases ty with
  | non => cases (show u = Value.none from rx); exact PySem.W.kia_one PySem.W.kitx_none I.kIn True.intro e (fun z => nomatch z) h
  | bl y => cases (show u = Value.bool y from rx); exact PySem.W.kia_one PySem.W.kitx_bool I.kIn True.intro e (fun z => nomatch z) h
  | int i => obtain ⟨t, q⟩ := (show ∃ t, u = Value.int i t from rx); cases q; exact PySem.W.kia_one PySem.W.kitx_int I.kIn True.intro e (fun z => nomatch z) h
  | str y => obtain ⟨t, q⟩ := (show ∃ t, u = Value.str y t from rx); cases q; exact PySem.W.kia_one PySem.W.kitx_str I.kIn True.intro e (fun z => nomatch z) h
  | flt y => obtain ⟨t, q⟩ := (show ∃ t, u = Value.float y t from rx); cases q; exact PySem.W.kia_one PySem.W.kitx_float I.kIn True.intro e (fun z => nomatch z) h
  | @lst a xs ea =>
    cases (show u = Value.ref a from rx)
    obtain ⟨_, _, n, _, h1⟩ := (show ObjOk X.prog X.w H s.heap a (.lst xs) from I.hok a _ ea)
    exact PySem.W.kia_one PySem.W.kitx_list I.kIn ⟨_, h1, rfl⟩ e (fun z => nomatch z) h
  | @frz a ob xs ea =>
    cases (show u = Value.ref a from rx)
    obtain ⟨_, _, _, n, _, h1⟩ := (show ObjOk X.prog X.w H s.heap a (.frz ob (.lst xs)) from I.hok a _ ea)
    exact PySem.W.kia_one PySem.W.kitx_list I.kIn ⟨_, h1, rfl⟩ e (fun z => nomatch z) h
  | @tup a xs ea =>
    cases (show u = Value.ref a from rx)
    obtain ⟨_, _, _, p⟩ := (show ObjOk X.prog X.w H s.heap a (.tup xs) from I.hok a _ ea)
    obtain ⟨o, h1, h2, _⟩ := p
    exact PySem.W.kia_one PySem.W.kitx_tuple I.kIn ⟨o, h1, h2⟩ e (fun z => nomatch z) h
  | @dK a kvs ea =>
    cases (show u = Value.ref a from rx)
    obtain ⟨_, _, vs, _, p⟩ := (show ObjOk X.prog X.w H s.heap a (.dK kvs) from I.hok a _ ea)
    obtain ⟨o, es, ep, h1, h2, _⟩ := p
    exact PySem.W.kia_one PySem.W.kitx_dict I.kIn ⟨o, h1, h2.1⟩ e (fun z => nomatch z) h
  | @dT a kvs ea =>
    cases (show u = Value.ref a from rx)
    obtain ⟨_, _, xs, _, o, es, ep, h1, h2, _⟩ := (show ObjOk X.prog X.w H s.heap a (.dT kvs) from I.hok a _ ea)
    exact PySem.W.kia_one PySem.W.kitx_dict I.kIn ⟨o, h1, h2.1⟩ e (fun z => nomatch z) h
  | @ins a C dx fs ea cl ha hn htk hm =>
    cases (show u = Value.ref a from rx)
    obtain ⟨mA, O, _⟩ := ins_get I.hok ea
    obtain ⟨od, J, _⟩ := O.look
    exact PySem.W.kia_one (PySem.W.kitx_own (cl.get _) cl.hd ha hn htk hm) I.kIn J e (fun z => nomatch z) h
end
end L2

namespace L2
open PySem PySem.Spec PyProof.Rows

/-! ### room -/
structure Room (k : Nat) (A : Around) : Prop where
  hd : A.handled = none
  gd : A.guards = some []
  dp : A.depth + 3 * k + 5 < recursionLimit
  un : A.units + 16 * k + 200 < cLine
theorem Room.mono {j k : Nat} {A : Around} (r : Room k A) (h : j ≤ k) : Room j A := ⟨r.hd, r.gd, by have := r.dp; omega, by have := r.un; omega⟩
theorem Room.deeper {k : Nat} {A : Around} (r : Room (k + 1) A) (env : Env) : Room k (A.deeper env) :=
  ⟨r.hd, r.gd, by have := r.dp; show A.depth + 1 + 3 * k + 5 < _; omega, by have := r.un; show A.units + 3 + 16 * k + 200 < _; omega⟩
theorem make_depth {A : Around} {C : Addr} {us : List Value} {kw : List (Str × Value)} : (A.under (.builtin "type.__call__" ⟨.ref C :: us, kw⟩)).depth = A.depth + 1 := by
  first | rfl | simp [Around.under, Code.weight, Code.isCreation, Code.isGuard, Code.isCaller, Code.frames, Code.isFrame, guardIds]
theorem make_units {A : Around} {C : Addr} {us : List Value} {kw : List (Str × Value)} : (A.under (.builtin "type.__call__" ⟨.ref C :: us, kw⟩)).units = A.units + 1 := by
  first | rfl | simp [Around.under, Code.cUnits, Code.frames, Code.isFrame]
theorem make_guards {A : Around} {C : Addr} {us : List Value} {kw : List (Str × Value)} : (A.under (.builtin "type.__call__" ⟨.ref C :: us, kw⟩)).guards = A.guards := by
  first | rfl | simp [Around.under, Code.guards, pushGuards, Code.isGuard, guardIds]
theorem Room.make {k : Nat} {A : Around} (r : Room (k + 1) A) (C : Addr) (us : List Value) (kw : List (Str × Value)) : Room k (A.under (.builtin "type.__call__" ⟨.ref C :: us, kw⟩)) :=
  ⟨r.hd, make_guards.trans r.gd, by have := r.dp; rw [make_depth]; omega, by have := r.un; rw [make_units]; omega⟩
theorem Room.depth {k : Nat} {A : Around} (r : Room k A) : A.depth < recursionLimit := by have := r.dp; omega
theorem Room.units {k : Nat} {A : Around} (r : Room k A) : A.units + 64 < cLine := by have := r.un; omega
theorem Room.units0 {k : Nat} {A : Around} (r : Room k A) : A.units < cLine := by have := r.un; omega

/-! ### argument lists and displays -/
def tNil : TA := fun _ H Q => Q [] H
def tCons (ta : TE) (tr : TA) : TA := fun σ H Q => ta σ H fun x H1 => tr σ H1 fun xs H2 => Q (x :: xs) H2
section
variable {X : Cx} {e : Expr} {es : List Expr} {te : TE} {t : TA} {pos : Pos}
theorem pa_nil : PA X [] tNil := fun _ _ _ _ H Q I h => Calls.spliced_nil ⟨[], H, I, .nil, h⟩
theorem pa_cons (ha : PE X e te) (hr : PA X es t) (hs : starEach (e :: es) X.env = (false, eval e X.env) :: starEach es X.env := by rfl) : PA X (e :: es) (tCons te t) := by
  intro pos pins s σ H Q I h
  rw [hs]
  show wpAny _ _ (spliced ((false, eval e X.env) :: backTo pos (starEach es X.env))) _ _ s
  refine Calls.spliced_cons (thn (ha pins s σ H _ I h) fun u s1 ⟨x, H1, I1, r1, q1⟩ => ?_)
  exact thn (hr pos pins s1 σ H1 _ I1 q1) fun us s2 ⟨xs, H2, I2, r2, q2⟩ => ⟨x :: xs, H2, I2, .cons r1 r2, q2⟩

/-- a tuple, a list of written items -/
def tTup (t : TA) : TE := fun σ H Q => t σ H fun xs H1 => xs.length ≤ sizeLine ∧ ∀ p, H1 p = none → Q (.ref p) (upd H1 p (.tup xs))
def tLst (t : TA) : TE := fun σ H Q => t σ H fun xs H1 => xs.length ≤ sizeLine ∧ ∀ p, H1 p = none → Q (.ref p) (upd H1 p (.lst xs))
theorem pe_tup {x1} (h : PA X es t) : PE X (.Tuple es x1 pos) (tTup t) := by
  intro pins s σ H Q I hq
  refine wpAny_Tuple_spliced (thn (h pos pins s σ H _ I hq) fun us s1 ⟨xs, H1, I1, r, z, q⟩ => ⟨by rw [← r.length]; exact z, ?_⟩)
  have hf : H1 s1.heap.objs.size = none := I1.hok.fresh (Nat.le_refl _)
  refine ⟨.ref s1.heap.objs.size, upd H1 s1.heap.objs.size (.tup xs), I1.laid (t' := s1.toks) (fun b u e => Heap.get?_push_of_some _ e) (Nat.le_refl _) ?_, rfl, q _ hf⟩
  exact ⟨z, us, r, ⟨_, Heap.get?_push_size _ rfl, rfl, _, rfl⟩⟩
theorem pe_lst (h : PA X es t) : PE X (.List es pos) (tLst t) := by
  intro pins s σ H Q I hq
  refine wpAny_List_spliced (thn (h pos pins s σ H _ I hq) fun us s1 ⟨xs, H1, I1, r, z, q⟩ => ⟨by rw [← r.length]; exact z, ?_⟩)
  have hf : H1 s1.heap.objs.size = none := I1.hok.fresh (Nat.le_refl _)
  refine ⟨.ref s1.heap.objs.size, upd H1 s1.heap.objs.size (.lst xs), I1.laid (t' := s1.toks) (fun b u e => Heap.get?_push_of_some _ e) (Nat.le_refl _) ?_, rfl, q _ hf⟩
  exact ⟨z, us, 0, r, Heap.get?_push_size _ rfl⟩
end

/-! ### what a def promises -/
/-- a def's promise: the bound arguments in the parameters' order, the heap, the wanted end, the wanted exception -/
abbrev Sp := List V → Hp → VK → XK → Prop
/-- how an exception lies behind a call (file 08 gives it): the callers' frames, abstract heap and state ahead of the call, the wish, the exception, the state -/
abbrev CXT := List Env → Hp → Shared → XK → Value → Shared → Prop

/-- the state at a call -/
structure Env0 (P : Program) (w : World) (K : PySem.W.Frag) (mg : Str → Option Value) (base : Heap) (A : Around) (outer : List Env) (s : Shared) (H : Hp) : Prop where
  frames : A.frames = some outer
  mod : Mod K mg base
  bs : ∀ b o, base.get? b = some o → s.heap.get? b = some o ∧ H b = none
  bsz : base.objs.size ≤ s.heap.objs.size
  funs : s.heap.FunFrames base outer
  frf : ∀ b ∈ frs outer, H b = none
  hok : HOk P w H s.heap
  bare : AllBare s.gens
/-- a call's end -/
def CE (outer : List Env) (P : Program) (w : World) (H : Hp) (s : Shared) (Q : VK) (u : Value) (s' : Shared) : Prop :=
  ∃ v H', s'.os = s.os ∧ AllBare s'.gens ∧ Un (frs outer) [] H H' s.heap s'.heap ∧ HOk P w H' s'.heap ∧ RelV v u ∧ Q v H'
def CR (CX : CXT) (outer : List Env) (P : Program) (w : World) (H : Hp) (s : Shared) (Q : VK) (E : XK) (r : Result) (s' : Shared) : Prop :=
  match r with
  | .ok (.ret u) => CE outer P w H s Q u s'
  | .ok _ => False
  | .error e => CX outer H s E e s'
structure FnOk (P : Program) (w : World) (K : PySem.W.Frag) (mg : Str → Option Value) (base : Heap) (CX : CXT) (k : Nat) (f : Addr) (fd : FuncData) (ps : List Str) (sp : Sp) : Prop where
  len : ∀ vs H Q E, sp vs H Q E → vs.length = ps.length
  run : ∀ (A : Around) (outer : List Env) (s : Shared) (H : Hp) (args : Args) (us : List Value) (vs : List V) (Q : VK) (E : XK), Room k A → Env0 P w K mg base A outer s H → BindsTo s fd args (ps.zip us) → Vals vs us → sp vs H Q E →
    codeAny (model P w) A (.call (.ref f) args) (CR CX outer P w H s Q E) s

theorem Env0.make {P : Program} {w : World} {K : PySem.W.Frag} {mg : Str → Option Value} {base : Heap} {A : Around} {outer : List Env} {s : Shared} {H : Hp} (e : Env0 P w K mg base A outer s H) (C : Addr) (us : List Value) (kw : List (Str × Value)) :
    Env0 P w K mg base (A.under (.builtin "type.__call__" ⟨.ref C :: us, kw⟩)) outer s H := ⟨by first | exact e.frames | (simpa [Around.under, Code.envs, Code.isFrame, pushEnvs] using e.frames), e.mod, e.bs, e.bsz, e.funs, e.frf, e.hok, e.bare⟩

section
variable {X : Cx} {pins : List (Addr × Obj)} {σ : St} {H : Hp} {s s' : Shared}
/-- from a body: what a callee wants -/
theorem Inv.env0 (I : Inv X pins σ H s) : Env0 X.prog X.w X.K X.mg X.base X.A X.stack s H :=
  ⟨I.ok.frames, I.ok.mod, I.bs, Nat.le_trans I.ok.bsz I.sz, I.stack, I.stkFree, I.hok, I.bare⟩
/-- behind a call -/
theorem Inv.after {Q : VK} {u : Value} (I : Inv X pins σ H s) (h : CE X.stack X.prog X.w H s Q u s') : EP X pins σ Q u s' := by
  obtain ⟨v, H', os, bare, un, hok, r, q⟩ := h
  obtain ⟨hh, g, d, t, os'⟩ := s'
  obtain rfl : os' = s.os := os
  exact ⟨v, H', I.call (h' := hh) (g' := g) (d' := d) (t' := t) (ch := []) un hok bare (fun b z => absurd z (by simp)), r, q⟩
end

/-! ### calls -/
/-- f(..): the written arguments, then the defaults dvs; E: what is wanted of an exception -/
def tCall (sp : Sp) (dvs : List V) (E : XK) (t : TA) : TE := fun σ H Q => t σ H fun vs H1 => sp (vs ++ dvs) H1 Q E

/-- how the parameters are bound: us the positional arguments, kw the keywords' values by name, ds the defaults that fill up -/
def Binds (K : PySem.W.Frag) (fd : FuncData) (ps : List Str) (ds : List Value) : Prop :=
  ∀ (s : Shared) (us : List Value), K.In s.heap → (us ++ ds).length = ps.length → BindsTo s fd ⟨us, []⟩ (ps.zip (us ++ ds))
/-- every parameter is given -/
theorem Binds.all {K : PySem.W.Frag} {fd : FuncData} {ps : List Str} (h : ∀ us : List Value, us.length = ps.length → bindArgs fd ⟨us, []⟩ = pure (ps.zip us)) : Binds K fd ps [] := fun s us _ hl => by
  rw [List.append_nil] at hl ⊢
  exact .of_eq (h us hl)

/-- an exception of a callee reaches what this body wants of exceptions -/
def Passes (CX : CXT) (X : Cx) (E : XK) : Prop := ∀ (pins : List (Addr × Obj)) (σ : St) (H : Hp) (s : Shared) (e : Value) (s' : Shared), Inv X pins σ H s → CX X.stack H s E e s' → X.xe e s'

section
variable {X : Cx} {CX : CXT} {k : Nat} {f C : Addr} {fd : FuncData} {ps : List Str} {sp : Sp} {dvs : List V} {ds : List Value} {E : XK} {x m : Str} {p pos apos : Pos} {e o : Expr} {es : List Expr} {ta : TE} {t : TA}

/-- the callee runs -/
theorem run_fn {pins : List (Addr × Obj)} {σ : St} {H : Hp} {s : Shared} {Q : VK} {us : List Value} {vs : List V} (F : FnOk X.prog X.w X.K X.mg X.base CX k f fd ps sp) (hr : Room k X.A) (hb : Binds X.K fd ps ds) (hd : Vals dvs ds) (hx : Passes CX X E)
    (I : Inv X pins σ H s) (r : Vals vs us) (h : sp (vs ++ dvs) H Q E) : wpAny (model X.prog X.w) X.A (call (.ref f) us) (EP X pins σ Q) X.xe s := by
  have r2 : Vals (vs ++ dvs) (us ++ ds) := r.append hd
  have hl : (us ++ ds).length = ps.length := by rw [← r2.length]; exact F.len _ _ _ _ h
  refine wpAny_call (codeAny_mono (F.run X.A X.stack s H ⟨us, []⟩ (us ++ ds) (vs ++ dvs) Q E hr I.env0 (hb s us I.kIn hl) r2 h) fun r s' hq => ?_)
  cases r with
  | error e => exact hx pins σ H s e s' I hq
  | ok fl =>
    cases fl with
    | ret u => exact I.after hq
    | next => exact False.elim hq
    | brk => exact False.elim hq
    | cont => exact False.elim hq

theorem pe_call (F : FnOk X.prog X.w X.K X.mg X.base CX k f fd ps sp) (hr : Room k X.A) (hg : Gl X x) (hm : X.mg x = some (.ref f)) (hk : PySem.W.keepIn X.K (.ref f) = true) (hb : Binds X.K fd ps ds) (hd : Vals dvs ds) (hx : Passes CX X E)
    (ha : PA X (e :: es) t) (hdb : (x == ("__debug__" : Str)) = false := by decide) (he : starEach (e :: es) X.env = (false, eval e X.env) :: starEach es X.env := by rfl) (hpl : (backTo pos (starEach es X.env)).any (·.1) = false := by rfl) :
    PE X (.Call (.Name x p) (e :: es) [] pos) (tCall sp dvs E t) := by
  intro pins s σ H Q I h
  refine wpAny_Call_Name_kw (ld_glob I hg hm ?_ hdb)
  refine PySem.W.callWith_K (h₀ := X.base) I.ok.mod.kin hk (thn (ha pos pins s σ H _ I h) fun us s1 ⟨vs, H1, I1, r, q⟩ => ⟨I1.kIn, ?_⟩) he hpl
  exact run_fn F hr hb hd hx I1 r q
theorem pe_call0 (F : FnOk X.prog X.w X.K X.mg X.base CX k f fd ps sp) (hr : Room k X.A) (hg : Gl X x) (hm : X.mg x = some (.ref f)) (hk : PySem.W.keepIn X.K (.ref f) = true) (hb : Binds X.K fd ps ds) (hd : Vals dvs ds) (hx : Passes CX X E)
    (hdb : (x == ("__debug__" : Str)) = false := by decide) : PE X (.Call (.Name x p) [] [] pos) (tCall sp dvs E tNil) := by
  intro pins s σ H Q I h
  refine wpAny_Call_Name_kw (ld_glob I hg hm ?_ hdb)
  exact PySem.W.callWith_K0 I.kIn hk (run_fn (us := []) F hr hb hd hx I .nil h)



end

/-! ### keywords -/
section
variable {X : Cx} {CX : CXT} {k : Nat} {f C : Addr} {fd : FuncData} {ps ks : List Str} {sp : Sp} {E : XK} {x m : Str} {p pos apos kpos : Pos} {e o : Expr} {es : List Expr} {kws : List Keyword} {te ta : TE} {t tk : TA} {nm : Option Str}

variable {g : List Value → List Value → List Value} {gV : List V → List V → List V}
end

/-! ### a def's body keeps its promise -/
/-- names: the parameters first -/
structure FnScope (N P : List Str) (sc : Scope) : Prop where
  kind : sc.kind = .function
  co : sc.isCoroutine = false
  gen : sc.isGenerator = false
  nd : N.Nodup
  pre : N.take P.length = P
  par : ∀ x ∈ P, sc.names.lookup x = some .local ∨ sc.names.lookup x = some .cell
  nofree : ∀ y ∈ sc.names, y.2 ≠ .free

theorem bindL_out {kindOf : Str → Option NameKind} {x : Str} : ∀ {binds : List (Str × Value)} {m : Str → Option Value}, (∀ v, (x, v) ∉ binds) → bindL kindOf binds m x = m x
  | [], _, _ => rfl
  | (n, v) :: r, m, h => by
    unfold bindL
    rw [bindL_out fun w hw => h w (List.mem_cons_of_mem _ hw)]
    split
    · have : x ≠ n := by rintro rfl; exact h v List.mem_cons_self
      simp [this]
    · rfl
theorem bindC_out {kindOf : Str → Option NameKind} {x : Str} : ∀ {binds : List (Str × Value)} {m : Str → Option Value}, (∀ v, (x, v) ∉ binds) → bindC kindOf binds m x = m x
  | [], _, _ => rfl
  | (n, v) :: r, m, h => by
    unfold bindC
    rw [bindC_out fun w hw => h w (List.mem_cons_of_mem _ hw)]
    split
    · rfl
    · have : x ≠ n := by rintro rfl; exact h v List.mem_cons_self
      simp [this]
theorem bindL_get {kindOf : Str → Option NameKind} {x : Str} {v : Value} : ∀ {P : List Str} {vs : List Value} {i : Nat} {m : Str → Option Value}, P.Nodup → P[i]? = some x → vs[i]? = some v → kindOf x = some .local →
    bindL kindOf (P.zip vs) m x = some v
  | [], _, _, _, _, h, _, _ => by simp at h
  | _ :: _, [], _, _, _, _, h, _ => by simp at h
  | p :: P, w :: vs, 0, m, nd, h1, h2, hk => by
    simp at h1 h2; subst h1; subst h2
    show bindL kindOf ((p, w) :: P.zip vs) m p = _
    unfold bindL
    rw [bindL_out fun v hv => (List.nodup_cons.mp nd).1 (List.of_mem_zip hv).1, if_pos hk]
    simp
  | p :: P, w :: vs, i + 1, m, nd, h1, h2, hk => by
    show bindL kindOf ((p, w) :: P.zip vs) m x = _
    unfold bindL
    exact bindL_get (i := i) (List.nodup_cons.mp nd).2 (by simpa using h1) (by simpa using h2) hk
theorem bindC_get {kindOf : Str → Option NameKind} {x : Str} {v : Value} : ∀ {P : List Str} {vs : List Value} {i : Nat} {m : Str → Option Value}, P.Nodup → P[i]? = some x → vs[i]? = some v → kindOf x ≠ some .local →
    bindC kindOf (P.zip vs) m x = some v
  | [], _, _, _, _, h, _, _ => by simp at h
  | _ :: _, [], _, _, _, _, h, _ => by simp at h
  | p :: P, w :: vs, 0, m, nd, h1, h2, hk => by
    simp at h1 h2; subst h1; subst h2
    show bindC kindOf ((p, w) :: P.zip vs) m p = _
    unfold bindC
    rw [bindC_out fun v hv => (List.nodup_cons.mp nd).1 (List.of_mem_zip hv).1, if_neg hk]
    simp
  | p :: P, w :: vs, i + 1, m, nd, h1, h2, hk => by
    show bindC kindOf ((p, w) :: P.zip vs) m x = _
    unfold bindC
    exact bindC_get (i := i) (List.nodup_cons.mp nd).2 (by simpa using h1) (by simpa using h2) hk

/-- the names' values at the entry -/
def start (N : List Str) (vs : List V) : St := vs.map some ++ List.replicate (N.length - vs.length) none

/-- the context of a def's body, at its entry; an exception leaves the frame, then lies as CX says -/
def cxOf (CX : CXT) (P : Program) (w : World) (K : PySem.W.Frag) (mg : Str → Option Value) (base : Heap) (N : List Str) (qual : Str) (scope : Scope) (f : Addr) (cd : Value) (A : Around) (outer : List Env) (s : Shared) (H : Hp) (E : XK) : Cx where
  prog := P
  w := w
  K := K
  mg := mg
  base := base
  A := A.deeper (envOfC qual scope s.heap.objs.size f cd)
  N := N
  s₀ := s
  H₀ := H
  env := envOfC qual scope s.heap.objs.size f cd
  outer := outer
  stack := envOfC qual scope s.heap.objs.size f cd :: outer
  ex := []
  calm := true
  fn := fun _ => true
  pn := []
  xe := fun e s' => wpAny (model P w) (A.deeper (envOfC qual scope s.heap.objs.size f cd)) (leaving (envOfC qual scope s.heap.objs.size f cd) e) (fun _ s'' => CX outer H s E e s'') (fun e' s'' => CX outer H s E e' s'') s'

theorem cell_has {sc : Scope} {n : Nat} {x : Str} (h : sc.names.lookup x = some .cell) : ∃ c, (cellsFrom n sc.names []).lookup x = some c := by
  have q := PySem.W.cellsFrom_some sc.names n [] (.inl h)
  exact Option.isSome_iff_exists.mp q

theorem inv_start {CX : CXT} {P : Program} {w : World} {K : PySem.W.Frag} {mg : Str → Option Value} {base : Heap} {N ps : List Str} {qual : Str} {scope : Scope} {f : Addr} {cd : Value} {A : Around} {outer : List Env} {s s1 : Shared} {H : Hp} {E : XK} {us : List Value} {vs : List V}
    (S : FnScope N ps scope) (hd : A.handled = none) (e0 : Env0 P w K mg base A outer s H) (hl : vs.length = ps.length) (r : Vals vs us)
    (x : InCallC s s.heap.objs.size (bindL (envOfC qual scope s.heap.objs.size f cd).kindOf (ps.zip us) fun _ => none) (cellsFrom (s.heap.objs.size + 1) scope.names []) (bindC (envOfC qual scope s.heap.objs.size f cd).kindOf (ps.zip us) fun _ => none) s1) :
    Inv (cxOf CX P w K mg base N qual scope f cd A outer s H E) [] (start N vs) H s1 := by
  have hpl : ps.length ≤ N.length := by have := congrArg List.length S.pre; rw [List.length_take] at this; omega
  obtain ⟨h1, tk, rfl, hk⟩ := x.done
  have noA : ∀ b : Addr, b ∉ (cxOf CX P w K mg base N qual scope f cd A outer s H E).ex := fun b z => absurd (show b ∈ ([] : List Addr) from z) (by simp)
  refine ⟨⟨e0.mod, S.kind, rfl, rfl, Nat.le_refl _, fun y z c h1 h2 => ?_, fun y hy => ?_, fun y c _ h => ?_, fun _ => hd, Around.frames_deeper e0.frames, .inr ⟨rfl, rfl⟩, fun b z => absurd z (noA b), e0.bs, e0.bsz, fun b _ _ => noA b, fun b z => absurd z (noA b), e0.funs, e0.frf⟩,
    rfl, e0.bare, Un.kept hk, ⟨_, x.toInCall.ns, fun i y v h1 h2 h3 => ?_⟩, fun y c h => ⟨_, x.cell y c h⟩, e0.hok.fresh (Nat.le_refl _), fun y c h => ?_, fun p hp => absurd (show p ∈ ([] : List (Addr × Obj)) from hp) (by simp), e0.hok.kept hk, ?_⟩
  · exact name_of_addr x.apart (PySem.mem_of_lookup h1) (PySem.mem_of_lookup h2)
  · have hy : scope.names.lookup y = some .cell ∨ scope.names.lookup y = some .free := hy
    rcases hy with hy | hy
    · exact cell_has hy
    · exact absurd rfl (S.nofree _ (PySem.mem_of_lookup hy))
  · exact Nat.le_of_lt (x.above y c (PySem.mem_of_lookup h))
  · have hi : i < vs.length := by
      unfold start at h2
      by_cases hi : i < vs.length
      · exact hi
      · rw [List.getElem?_append_right (by simpa using hi)] at h2
        rw [List.getElem?_replicate] at h2
        split at h2 <;> cases h2
    have ha : vs[i]? = some v := by
      unfold start at h2
      rw [List.getElem?_append_left (by simpa using hi), List.getElem?_map] at h2
      cases e : vs[i]? with
      | none => rw [e] at h2; cases h2
      | some a => rw [e] at h2; cases h2; rfl
    obtain ⟨u, hu, rv⟩ := r.get ha
    have hp : ps[i]? = some y := by
      rw [← S.pre, List.getElem?_take_of_lt (by omega)]; exact h1
    have ndP : ps.Nodup := by rw [← S.pre]; exact S.nd.sublist (List.take_sublist _ _)
    refine ⟨u, rv, ?_⟩
    rcases S.par y (List.mem_of_getElem? hp) with k | k
    · exact .inl ⟨k, bindL_get ndP hp hu k⟩
    · obtain ⟨c, e⟩ := cell_has (n := s.heap.objs.size + 1) k
      refine .inr ⟨.inl k, c, e, ?_⟩
      have q := x.cell y c e
      rw [bindC_get ndP hp hu (by show scope.names.lookup y ≠ _; rw [k]; decide)] at q
      exact q
  · exact e0.hok.fresh (Nat.le_of_lt (x.above y c (PySem.mem_of_lookup h)))
  · unfold start
    show _ = N.length
    rw [List.length_append, List.length_map, List.length_replicate]
    omega

/-- THE RULE: a def (or a method) of the text, by its body. The body's reading t is chosen for each entry; it is run at the parameters' values -/
theorem fn_of {CX : CXT} {P : Program} {w : World} {K : PySem.W.Frag} {mg : Str → Option Value} {base : Heap} {k : Nat} {f : Addr} {name qual : Str} {params : Arguments} {body : List Stmt} {scope : Scope} {dV kV doc pm cdv ct oc : Value} {an od : Option Addr}
    {osl : Array (Option Value)} {N ps : List Str} {sp : Sp} (lk : K.lookup f = some ⟨oc, od, .func (PySem.W.fnOf name qual params body scope dV kV doc pm an cdv ct), osl⟩) (hcd : PySem.W.codeIn K cdv qual = true) (S : FnScope N ps scope)
    (len : ∀ vs H Q E, sp vs H Q E → vs.length = ps.length)
    (hbody : ∀ (A : Around) (outer : List Env) (s : Shared) (H : Hp) (vs : List V) (Q : VK) (E : XK), Room k (A.deeper (envOfC qual scope s.heap.objs.size f cdv)) → sp vs H Q E →
      ∃ t, PSs (cxOf CX P w K mg base N qual scope f cdv A outer s H E) body t ∧ t { nx := fun _ H' => Q .non H', rt := Q } (start N vs) H) :
    FnOk P w K mg base CX (k + 1) f (PySem.W.fnOf name qual params body scope dV kV doc pm an cdv ct) ps sp := by
  refine ⟨len, fun A outer s H args us vs Q E hr e0 hb r hsp => ?_⟩
  have hl := len _ _ _ _ hsp
  have KX : K.In s.heap := e0.mod.kin.keeps fun b o e => (e0.bs b o e).1
  have lim : s.heap.NoLimit := e0.mod.nolimit.keeps fun b o e => (e0.bs b o e).1
  have hkind : ∀ y ∈ ps.zip us, scope.names.lookup y.1 = some .local ∨ (scope.names.lookup y.1 = some .cell ∧ ((cellsFrom (s.heap.objs.size + 1) scope.names []).lookup y.1).isSome = true) := fun ⟨n, v⟩ hy => by
    rcases S.par n (List.of_mem_zip hy).1 with q | q
    · exact .inl q
    · exact .inr ⟨q, PySem.W.cellsFrom_some _ _ _ (.inl q)⟩
  refine codeAny_call_function hr.depth (KX _ _ lk) rfl S.co S.gen rfl (PySem.W.codeRec_of KX hcd) (hb _ _ _ _ ?_)
  refine wpAny_newFunctionEnv_cells S.kind hkind fun env he s1 x => ?_
  subst he
  refine ⟨lim.keeps x.toInCall.keep, codeAny_func ?_⟩
  obtain ⟨t, ht, hq⟩ := hbody A outer s H vs Q E (hr.deeper _) hsp
  have I : Inv (cxOf CX P w K mg base N qual scope f cdv A outer s H E) [] (start N vs) H s1 := inv_start S hr.hd e0 hl r x
  refine wpAny_mono (ht [] s1 (start N vs) H _ I hq) (fun fl s' hs => ?_) fun e s' hs => hs
  have fin : ∀ {σ' : St} {H' : Hp} {v : V} {u : Value}, Inv (cxOf CX P w K mg base N qual scope f cdv A outer s H E) [] σ' H' s' → RelV v u → Q v H' → CE outer P w H s Q u s' :=
    fun {σ' H' v u} J rv q => ⟨v, H', J.os, J.bare, J.base, J.hok, rv, q⟩
  cases fl with
  | ret u =>
    obtain ⟨v, σ', H', J, rv, q⟩ := hs
    exact fin J rv q
  | next =>
    obtain ⟨σ', H', J, q⟩ := hs
    exact fin (v := V.non) (u := Value.none) J rfl q
  | brk =>
    obtain ⟨_, _, _, q⟩ := hs
    exact False.elim q
  | cont =>
    obtain ⟨_, _, _, q⟩ := hs
    exact False.elim q
end L2

namespace L2
open PySem PySem.Spec PyProof.Rows
section
variable {X : Cx} {x : Str} {p pos : Pos} {e : Expr} {es : List Expr} {t : TA} {id T : String} {r : List V → Hp → VK → Prop}

def tCB (r : List V → Hp → VK → Prop) (t : TA) : TE := fun σ H Q => t σ H fun vs H1 => r vs H1 Q
/-- f(e, ..), f a built-in function -/
theorem pe_callB (hc : CallR X (.builtin id) r) (hg : Gl X x) (hm : X.mg x = none) (hv : bootBuiltins x = some (.builtin id)) (ha : PA X (e :: es) t) (hn : x ≠ "__name__" := by decide) (hdb : (x == ("__debug__" : Str)) = false := by decide)
    (he : starEach (e :: es) X.env = (false, eval e X.env) :: starEach es X.env := by rfl) (hpl : (backTo pos (starEach es X.env)).any (·.1) = false := by rfl) : PE X (.Call (.Name x p) (e :: es) [] pos) (tCB r t) := by
  intro pins s σ H Q I h
  refine wpAny_Call_Name_kw (ld_blt I hg hm hv ?_ hn hdb)
  exact PyProof.Rows.callWith_builtin1 (thn (ha pos pins s σ H _ I h) fun us s1 ⟨vs, H1, I1, r1, q1⟩ => hc pins s1 σ H1 vs us Q I1 r1 q1) he hpl
/-- T(e, ..), T a built-in type -/
theorem pe_callTy (hc : CallR X (.type T) r) (hg : Gl X x) (hm : X.mg x = none) (hv : bootBuiltins x = some (.type T)) (ha : PA X (e :: es) t) (hn : x ≠ "__name__" := by decide) (hdb : (x == ("__debug__" : Str)) = false := by decide)
    (he : starEach (e :: es) X.env = (false, eval e X.env) :: starEach es X.env := by rfl) (hpl : (backTo pos (starEach es X.env)).any (·.1) = false := by rfl) : PE X (.Call (.Name x p) (e :: es) [] pos) (tCB r t) := by
  intro pins s σ H Q I h
  refine wpAny_Call_Name_kw (ld_blt I hg hm hv ?_ hn hdb)
  exact PyProof.Rows.callWith_type1 (thn (ha pos pins s σ H _ I h) fun us s1 ⟨vs, H1, I1, r1, q1⟩ => hc pins s1 σ H1 vs us Q I1 r1 q1) he hpl
end
end L2

namespace HT
open PySem PyProof.Rows



section
open PySem.SeqAt
open PySem.AutoSeq1 (wpAny_loadPart')
open PySem.MeetsSeq PySem.MeetsSeq2 PySem.MeetsSeq3

end

section
variable {prog : Program} {w : World} {A : Around} {E : Value → Shared → Prop} {s : Shared}


/-- t + u, t not empty -/
theorem cat_tup {t b : Addr} {vs ws : List Value} {Q : Value → Shared → Prop} (ht : IsTup s.heap t vs.toArray) (hb : IsTup s.heap b ws.toArray) (hv : vs ≠ [])
    (h1 : ws = [] → Q (.ref t) s) (h2 : ws ≠ [] → Q (.ref s.heap.objs.size) { s with heap := s.heap.push { cls := .type "tuple", data := .seq (vs ++ ws).toArray } })
    (hsz : vs.length + ws.length ≤ sizeLine) : wpAny (model prog w) A (binaryOp .Add (.ref t) (.ref b)) Q E s := by
  obtain ⟨⟨cls, dd, data, sl⟩, ho, hc, n, hd⟩ := id ht
  obtain ⟨⟨cls2, dd2, data2, sl2⟩, ho2, hc2, n2, hd2⟩ := id hb
  simp only at hc hd hc2 hd2
  subst hc hd hc2 hd2
  have e : vs.toArray ++ ws.toArray = (vs ++ ws).toArray := by simp
  by_cases hw : ws = []
  · exact concat_meets ⟨_, ho, rfl⟩ ⟨_, ho2, rfl⟩ noFill_tuple_add seq_tuple_add PySem.F.slot_tuple_add PySem.F.entry_tuple_add (PySem.F.args_tuple_add_2 _ _)
      (tuple_addW1 t b vs.toArray ws.toArray n n2 dd dd2 sl sl2 (by simpa using hv) (by simp [hw])) ⟨ho, ho2, h1 hw⟩
  · refine concat_meets ⟨_, ho, rfl⟩ ⟨_, ho2, rfl⟩ noFill_tuple_add seq_tuple_add PySem.F.slot_tuple_add PySem.F.entry_tuple_add (PySem.F.args_tuple_add_2 _ _)
      (tuple_addW2 t b vs.toArray ws.toArray n n2 dd dd2 sl sl2 (by simpa using hv) (by simpa using hw) (by rw [List.size_toArray, List.size_toArray]; exact hsz)) ⟨ho, ho2, ?_⟩
    rw [e]
    exact h2 hw

/-! ### t[a:b], not the whole -/
/-- a slice's bound as a place among n (d where it is left out) -/
def sIx (n d : Nat) : Option Int → Nat
  | none => d
  | some v => if v < 0 then (v + (n : Int)).toNat else min v.toNat n
theorem sIx_le (n d : Nat) (hd : d ≤ n) (o : Option Int) : sIx n d o ≤ n := by
  cases o with
  | none => exact hd
  | some v =>
    show (if v < 0 then (v + (n : Int)).toNat else min v.toNat n) ≤ n
    by_cases hv : v < 0
    · rw [if_pos hv]; omega
    · rw [if_neg hv]; exact Nat.min_le_right _ _
theorem clip_eq (v : Int) (n d : Nat) : (if v < 0 then max (v + (n : Int)) 0 else min v (n : Int)) = ((sIx n d (some v) : Nat) : Int) := by
  show (if v < 0 then max (v + (n : Int)) 0 else min v (n : Int)) = (((if v < 0 then (v + (n : Int)).toNat else min v.toNat n) : Nat) : Int)
  by_cases hv : v < 0
  · simp only [if_pos hv]; omega
  · simp only [if_neg hv]; omega
theorem adjust_gen (lo hi : Option Int) (n : Nat) : Builtin.Slice.sliceAdjust lo hi 1 (n : Int) = (((sIx n 0 lo : Nat) : Int), ((sIx n n hi : Nat) : Int)) := by
  have h1 : ¬ ((1 : Int) < 0) := by omega
  unfold Builtin.Slice.sliceAdjust
  simp only [h1, if_false]
  refine Prod.ext ?_ ?_
  · cases lo with
    | none => rfl
    | some v => exact clip_eq v n 0
  · cases hi with
    | none => rfl
    | some v => exact clip_eq v n n
theorem places_gen (i j : Nat) : Builtin.Slice.slicePlaces (i : Int) (j : Int) 1 = j - i := by
  unfold Builtin.Slice.slicePlaces
  have h1 : (1 : Int) > 0 := by omega
  simp only [h1, if_true, Int.ediv_one]
  split <;> omega
theorem slicePart_ {v : Value} {o : Option Int} {Q : Option Int → Shared → Prop} (p : IsPart v o) (h : Q o s) : wpAny (model prog w) A (Builtin.Slice.slicePartIndex v) Q E s := by
  cases p with
  | none => exact slicePart_none h
  | int i t => exact slicePart_int h
theorem sliceApplied_gen {sl : Addr} {vl vu : Value} {lo hi : Option Int} {n : Nat} {Q : Int × Int × Nat → Shared → Prop} (hs : s.heap.IsSliceOf sl vl vu .none) (pl : IsPart vl lo) (pu : IsPart vu hi)
    (h : Q (((sIx n 0 lo : Nat) : Int), 1, sIx n n hi - sIx n 0 lo) s) : wpAny (model prog w) A (Builtin.Slice.sliceApplied (.ref sl) (pure (n : Int))) Q E s := by
  obtain ⟨os, hos, hcs, hds⟩ := id hs
  unfold Builtin.Slice.sliceApplied Builtin.Slice.sliceFields
  refine wpAny_bind (wpAny_bind (wpAny_field hos hds (x := vl) rfl (wpAny_bind (wpAny_field hos hds (x := vu) rfl (wpAny_bind (wpAny_field hos hds (x := .none) rfl (wpAny_pure ?_)))))))
  refine wpAny_bind (slicePart_none ?_)
  show wpAny _ _ (if ((1 : Int) == 0) = true then _ else _) _ _ s
  rw [if_neg (by decide)]
  refine wpAny_bind (slicePart_ pl (wpAny_bind (slicePart_ pu (wpAny_bind (wpAny_pure ?_)))))
  show wpAny _ _ (match Builtin.Slice.sliceAdjust lo hi 1 (n : Int) with | (lo, hi) => pure (lo, (1 : Int), Builtin.Slice.slicePlaces lo hi 1)) _ _ s
  rw [adjust_gen lo hi n]
  show wpAny _ _ (pure (((sIx n 0 lo : Nat) : Int), (1 : Int), Builtin.Slice.slicePlaces ((sIx n 0 lo : Nat) : Int) ((sIx n n hi : Nat) : Int) 1)) _ _ s
  rw [places_gen]
  exact wpAny_pure h
theorem pick_gen (xs : Array Value) (i k : Nat) : ((List.range k).filterMap fun (m : Nat) => xs[((i : Int) + (m : Int) * 1).toNat]?).toArray = ((xs.toList.drop i).take k).toArray := by
  have e : (fun (m : Nat) => xs[((i : Int) + (m : Int) * 1).toNat]?) = fun m => xs[i + m]? := by
    funext m
    have : ((i : Int) + (m : Int) * 1).toNat = i + m := by omega
    rw [this]
  rw [e]
  have := pick_run xs i k
  rw [List.filterMap_map] at this
  have e2 : ((fun x => xs[x]?) ∘ fun x => i + x) = fun m => xs[i + m]? := rfl
  rw [e2] at this
  rw [this]

theorem getItem_tuple_cut {t sl : Addr} {items : Array Value} {vl vu : Value} {lo hi : Option Int} {Q : Value → Shared → Prop} (ht : IsTup s.heap t items) (hs : s.heap.IsSliceOf sl vl vu .none) (pl : IsPart vl lo) (pu : IsPart vu hi)
    (hw : ¬ (sIx items.size 0 lo = 0 ∧ sIx items.size items.size hi = items.size))
    (h : Q (.ref s.heap.objs.size) { s with heap := s.heap.push { cls := .type "tuple", data := .seq ((items.toList.drop (sIx items.size 0 lo)).take (sIx items.size items.size hi - sIx items.size 0 lo)).toArray } })
    (hsz : items.size ≤ sizeLine) : wpAny (model prog w) A (getItem (.ref t) (.ref sl)) Q E s := by
  have htake : sizeOk (.seq ((items.toList.drop (sIx items.size 0 lo)).take (sIx items.size items.size hi - sIx items.size 0 lo)).toArray) := by
    show ((items.toList.drop (sIx items.size 0 lo)).take (sIx items.size items.size hi - sIx items.size 0 lo)).toArray.size ≤ sizeLine
    rw [List.size_toArray, List.length_take, List.length_drop, Array.length_toList]
    omega
  have hj : sIx items.size items.size hi ≤ items.size := sIx_le _ _ (Nat.le_refl _) hi
  obtain ⟨os, hos, hcs, hds⟩ := id hs
  have hTs : s.TypeIs (.ref sl) "slice" := ⟨os, hos, hcs⟩
  unfold getItem
  try with_reducible refine wpAny_holding ?_
  first | refine wpAny_bind (wpAny_pure ?_) | skip
  refine wpAny_bind (wpAny_sequenceKey ht.typeIs (by decide) ?_)
  refine wpAny_bind (wpAny_callSpecial?_slot (name := Str.ofString "__getitem__") ht.typeIs PyProof.Rows.slot_tuple_getitem
    (wpAny_call_entry PyProof.Rows.slot_tuple_getitem ht.typeIs entry_tuple_getitem ?_ (args_tuple_getitem _ _)))
  show wpAny _ _ (Builtin.Tuple.tupleItemsOf (.ref t) >>= _) _ _ s
  refine wpAny_bind (tupleItemsOf_ ht ?_)
  refine wpAny_bind (wpAny_typeOf hTs ?_)
  rw [if_pos (by decide)]
  refine wpAny_bind (sliceApplied_gen hs pl pu ?_)
  have hno : ¬ ((((sIx items.size 0 lo : Nat) : Int) == 0 && (1 : Int) == 1 && (sIx items.size items.size hi - sIx items.size 0 lo) == items.size) = true) := by
    intro q
    rw [Bool.and_eq_true, Bool.and_eq_true] at q
    have q1 : ((sIx items.size 0 lo : Nat) : Int) = 0 := eq_of_beq q.1.1
    have q2 : sIx items.size items.size hi - sIx items.size 0 lo = items.size := eq_of_beq q.2
    exact hw ⟨by omega, by omega⟩
  show wpAny _ _ (if (((sIx items.size 0 lo : Nat) : Int) == 0 && (1 : Int) == 1 && (sIx items.size items.size hi - sIx items.size 0 lo) == items.size) = true then _ else _) _ _ s
  rw [if_neg hno, pick_gen]
  first
    | exact wpAny_bind (m := Builtin.Tuple.tupleExact _) (wpAny_newObj_type (wpAny_pure ⟨_, rfl, wpAny_pure h⟩) htake)
    | exact wpAny_bind (m := Builtin.Tuple.tupleExact _) (wpAny_newObj_type (wpAny_bind (wpAny_pure (wpAny_pure ⟨_, rfl, wpAny_pure h⟩))) htake)
    | exact wpAny_bind (wpAny_bind (m := Builtin.Tuple.tupleExact _) (wpAny_newObj_type (wpAny_pure (wpAny_pure ⟨_, rfl, wpAny_pure h⟩)) htake))
    | exact wpAny_bind (wpAny_bind (m := Builtin.Tuple.tupleExact _) (wpAny_newObj_type (wpAny_pure ⟨_, rfl, wpAny_pure h⟩) htake))
end
end HT

namespace L2
open PySem PySem.Spec PyProof.Rows

/-! ### the parts of a slice -/
abbrev TO := St → Hp → (Option Int → Hp → Prop) → Prop
/-- a slice's part (left out, or an int) -/
def PO (X : Cx) (e : Option Expr) (t : TO) : Prop :=
  ∀ (pins : List (Addr × Obj)) (s : Shared) (σ : St) (H : Hp) (Q : Option Int → Hp → Prop), Inv X pins σ H s → t σ H Q →
    wpAny (model X.prog X.w) X.A (evalPart e X.env) (fun u s' => ∃ o H', Inv X pins σ H' s' ∧ IsPart u o ∧ Q o H') X.xe s
def tNoPart : TO := fun _ H Q => Q none H
def tPart (t : TE) : TO := fun σ H Q => t σ H fun x H1 => ∃ i, x = .int i ∧ Q (some i) H1


section
variable {X : Cx} {e : Expr} {te : TE} {lo hi : Option Expr} {tl th : TO} {pos p2 : Pos}

theorem po_none : PO X none tNoPart := by
  intro pins s σ H Q I h
  rw [evalPart_none]
  exact wpAny_pure ⟨none, H, I, .none, h⟩
theorem po_some (h : PE X e te) : PO X (some e) (tPart te) := by
  intro pins s σ H Q I hw
  rw [evalPart_some]
  refine thn (h pins s σ H _ I hw) fun u s1 ⟨x, H1, I1, r1, q1⟩ => ?_
  obtain ⟨i, rfl, q⟩ := q1
  obtain ⟨t, rfl⟩ := r1
  exact ⟨some i, H1, I1, .int i t, q⟩

/-- what a slice of a value is, by values: the slice object stands at sl -/
def SlR (X : Cx) (r : V → Option Int → Option Int → Hp → VK → Prop) : Prop :=
  ∀ (pins : List (Addr × Obj)) (s : Shared) (σ : St) (H : Hp) (x : V) (v vl vu : Value) (lo hi : Option Int) (sl : Addr) (Q : VK), Inv X pins σ H s → RelV x v → s.heap.IsSliceOf sl vl vu .none → IsPart vl lo → IsPart vu hi → r x lo hi H Q →
    ∃ T id, typeLookup (.type T) "__getitem__" = pure (some (.builtin id)) ∧ s.TypeIs v T ∧ wpAny (model X.prog X.w) X.A (getItem v (.ref sl)) (EP X pins σ Q) X.xe s
def tSl (r : V → Option Int → Option Int → Hp → VK → Prop) (te : TE) (tl th : TO) : TE := fun σ H Q => te σ H fun x H1 => tl σ H1 fun l H2 => th σ H2 fun u H3 => r x l u H3 Q
/-- a[lo:hi], any a -/
theorem pe_slice {r : V → Option Int → Option Int → Hp → VK → Prop} (hr : SlR X r) (he : PE X e te) (hl : PO X lo tl) (hu : PO X hi th) : PE X (.Subscript e (.Slice lo hi none p2) pos) (tSl r te tl th) := by
  intro pins s σ H Q I h
  refine Subscript_ (thn (he pins s σ H _ I h) fun v s1 ⟨x, H1, I1, r1, q1⟩ => ?_)
  refine wpAny_Slice (thn (hl pins s1 σ H1 _ I1 q1) fun vl s2 ⟨l, H2, I2, pl, q2⟩ => thn (hu pins s2 σ H2 _ I2 q2) fun vu s3 ⟨u, H3, I3, pu, q3⟩ => ?_)
  rw [evalPart_none]
  refine wpAny_pure ?_
  have I4 : Inv X pins σ H3 { s3 with heap := s3.heap.push { cls := .type "slice", data := .fields #[vl, vu, .none] } } := I3.kept (t' := s3.toks) fun b ob q => Heap.get?_push_of_some _ q
  obtain ⟨T, id, hT, ht, hg⟩ := hr pins { s3 with heap := s3.heap.push { cls := .type "slice", data := .fields #[vl, vu, .none] } } σ H3 x v vl vu l u s3.heap.objs.size Q I4 r1 (Heap.IsSliceOf.new ..) pl pu q3
  show wpAny (model X.prog X.w) X.A (subscriptTail e (.Slice lo hi none p2) v (.ref s3.heap.objs.size)) (EP X pins σ Q) X.xe { s3 with heap := s3.heap.push { cls := .type "slice", data := .fields #[vl, vu, .none] } }
  exact tail_any (ops := [.ref s3.heap.objs.size, v]) ht hT hg (by with_unfolding_all rfl)

/-- the items of xs[lo:hi] -/
def cutV (xs : List V) (lo hi : Option Int) : List V := (xs.drop (HT.sIx xs.length 0 lo)).take (HT.sIx xs.length xs.length hi - HT.sIx xs.length 0 lo)
theorem cutV_length (xs : List V) (lo hi : Option Int) : (cutV xs lo hi).length ≤ xs.length := by
  unfold cutV
  rw [List.length_take, List.length_drop]
  omega
/-- t[lo:hi], not the whole of it (the whole would be t itself) -/
def rSlT (K : PySem.W.Frag) : V → Option Int → Option Int → Hp → VK → Prop := fun x lo hi H Q => ∃ a xs, x = .ref a ∧ SqT K H a xs ∧
  ¬ (HT.sIx xs.length 0 lo = 0 ∧ HT.sIx xs.length xs.length hi = xs.length) ∧ ∀ p, H p = none → Q (.ref p) (upd H p (.tup (cutV xs lo hi)))
theorem sl_tup : SlR X (rSlT X.K) := by
  intro pins s σ H x v vl vu lo hi sl Q I rx hs pl pu h
  obtain ⟨a, xs, rfl, hx, hw, q⟩ := h
  cases rx
  obtain ⟨its, r, ht, hz⟩ := I.tuple hx
  have hlen : its.toArray.size = xs.length := by rw [List.size_toArray]; exact r.length.symm
  refine ⟨"tuple", _, PyProof.Rows.slot_tuple_getitem.lookup, ht.typeIs, ?_⟩
  refine HT.getItem_tuple_cut ht hs pl pu (by rw [hlen]; exact hw) ?_ (by rw [hlen]; exact hz)
  rw [hlen]
  refine ⟨.ref s.heap.objs.size, _, I.laid (t' := s.toks) (o := .tup (cutV xs lo hi)) (fun b ob q => Heap.get?_push_of_some _ q) (Nat.le_refl _) ?_, rfl, q _ (I.hok.fresh (Nat.le_refl _))⟩
  exact ⟨Nat.le_trans (cutV_length xs lo hi) hz, _, (r.drop (HT.sIx xs.length 0 lo)).take (HT.sIx xs.length xs.length hi - HT.sIx xs.length 0 lo), IsTup.new _ _⟩

/-! ### t < u, t + u -/
/-- t + u, t not empty: u empty gives t itself -/
def rCatT (K : PySem.W.Frag) : R2 := fun x y H Q => ∃ a b xs ys, x = .ref a ∧ y = .ref b ∧ SqT K H a xs ∧ SqT K H b ys ∧ xs ≠ [] ∧ xs.length + ys.length ≤ sizeLine ∧
  (ys = [] → Q (.ref a) H) ∧ (ys ≠ [] → ∀ p, H p = none → Q (.ref p) (upd H p (.tup (xs ++ ys))))
theorem Vals.nil_iff {xs : List V} {us : List Value} (r : Vals xs us) : us = [] ↔ xs = [] := by
  cases r with
  | nil => simp
  | cons _ _ => simp
theorem op_catT : OpR X (binaryOp .Add) (rCatT X.K) := by
  intro pins s σ H x y v u Q I rx ry h
  obtain ⟨a, b, xs, ys, rfl, rfl, ha, hb, hx, hz, q1, q2⟩ := h
  cases rx
  cases ry
  obtain ⟨its, r1, p1, _⟩ := I.tuple ha
  obtain ⟨its2, r2, p2, _⟩ := I.tuple hb
  refine HT.cat_tup p1 p2 (fun z => hx (r1.nil_iff.mp z)) (fun z => ⟨.ref a, H, I, rfl, q1 (r2.nil_iff.mp z)⟩) (fun z => ?_) (by rw [← r1.length, ← r2.length]; exact hz)
  refine ⟨.ref s.heap.objs.size, _, I.laid (t' := s.toks) (o := .tup (xs ++ ys)) (fun b ob q => Heap.get?_push_of_some _ q) (Nat.le_refl _) ?_, rfl, q2 (fun w => z (r2.nil_iff.mpr w)) _ (I.hok.fresh (Nat.le_refl _))⟩
  exact ⟨by rw [List.length_append]; exact hz, _, r1.append r2, IsTup.new _ _⟩
end
end L2

namespace L2
open PySem PySem.Spec PyProof.Rows

/-! ### places -/
/-- the place that an index of any sign means -/
def ixN (n : Nat) (i : Int) : Option Nat := if 0 ≤ i then (if i < n then some i.toNat else none) else if -(n : Int) ≤ i then some (i + n).toNat else none
def atI {α : Type} (xs : List α) (i : Int) : Option α := (ixN xs.length i).bind fun j => xs[j]?
theorem ixN_seq {n : Nat} {i : Int} {j : Nat} (h : ixN n i = some j) : seqIndex? i n = some j ∧ j < n ∧ -(n : Int) ≤ i ∧ i < n := by
  unfold ixN at h
  by_cases h0 : 0 ≤ i
  · rw [if_pos h0] at h
    by_cases h1 : i < n
    · rw [if_pos h1] at h
      have e : i.toNat = j := Option.some.inj h
      exact ⟨by rw [seqIndex_of h0 h1, e], by omega, by omega, h1⟩
    · rw [if_neg h1] at h; cases h
  · rw [if_neg h0] at h
    by_cases h1 : -(n : Int) ≤ i
    · rw [if_pos h1] at h
      have e : (i + n).toNat = j := Option.some.inj h
      exact ⟨by rw [seqIndex_neg (by omega) h1, e], by omega, h1, by omega⟩
    · rw [if_neg h1] at h; cases h
theorem atI_get {α : Type} {xs : List α} {i : Int} {v : α} (h : atI xs i = some v) : ∃ j, seqIndex? i xs.length = some j ∧ xs[j]? = some v ∧ j < xs.length ∧ -(xs.length : Int) ≤ i ∧ i < xs.length := by
  unfold atI at h
  cases e : ixN xs.length i with
  | none => rw [e] at h; cases h
  | some j =>
    rw [e] at h
    obtain ⟨h1, h2, h3, h4⟩ := ixN_seq e
    exact ⟨j, h1, h, h2, h3, h4⟩
theorem atI_nat {α : Type} {xs : List α} {j : Nat} {v : α} (h : xs[j]? = some v) : atI xs (j : Int) = some v := by
  have hj : j < xs.length := (List.getElem?_eq_some_iff.mp h).1
  have e : ixN xs.length (j : Int) = some j := by
    unfold ixN
    rw [if_pos (by omega), if_pos (by omega)]; simp
  unfold atI; rw [e]; exact h
theorem atI_last {α : Type} (xs : List α) (v : α) : atI (xs ++ [v]) (-1) = some v := by
  have hl : (xs ++ [v]).length = xs.length + 1 := by simp
  have e : ixN (xs ++ [v]).length (-1) = some xs.length := by
    unfold ixN
    rw [hl, if_neg (by decide), if_pos (by omega)]
    congr 1
    omega
  unfold atI
  rw [e]
  show (xs ++ [v])[xs.length]? = some v
  simp

/-! ### what may be subscripted -/
/-- what stands as an index of a plain subscript -/
def PlainIx (b : Expr) : Prop := ∀ o i, subscripted b false o i = operate [o, i] (getItem o i)
/-- a subscript by values -/
def IxR (X : Cx) (r : R2) : Prop :=
  ∀ (value slice : Expr) (pins : List (Addr × Obj)) (s : Shared) (σ : St) (H : Hp) (x y : V) (v u : Value) (Q : VK), Inv X pins σ H s → RelV x v → RelV y u → r x y H Q →
    subscripted slice false v u = operate [v, u] (getItem v u) → wpAny (model X.prog X.w) X.A (subscriptTail value slice v u) (EP X pins σ Q) X.xe s
/-- a call of a builtin's method by values: the receiver, the arguments -/
def MtR (X : Cx) (id : String) (r : V → List V → Hp → VK → Prop) : Prop :=
  ∀ (pins : List (Addr × Obj)) (s : Shared) (σ : St) (H : Hp) (x : V) (xs : List V) (v : Value) (us : List Value) (Q : VK), Inv X pins σ H s → RelV x v → Vals xs us → r x xs H Q →
    wpAny (model X.prog X.w) X.A (call (.builtin id) (v :: us)) (EP X pins σ Q) X.xe s
section
variable {X : Cx} {a b : Expr} {ta tb : TE} {pos : Pos}
/-- a[b] -/
theorem pe_ix {r : R2} (hr : IxR X r) (ha : PE X a ta) (hb : PE X b tb) (hs : PlainIx b) : PE X (.Subscript a b pos) (tOp r ta tb) := by
  intro pins s σ H Q I h
  exact Subscript_ (binT ha hb I h fun v u s2 x y H2 I2 rx ry q => hr a b pins s2 σ H2 x y v u Q I2 rx ry q (hs _ _))

def rIxL (K : PySem.W.Frag) : R2 := fun x y H Q => ∃ p xs i v, x = .ref p ∧ y = .int i ∧ SqL K H p xs ∧ atI xs i = some v ∧ Q v H
def rIxT (K : PySem.W.Frag) : R2 := fun x y H Q => ∃ p xs i v, x = .ref p ∧ y = .int i ∧ SqT K H p xs ∧ atI xs i = some v ∧ Q v H
def rIxS : R2 := fun x y H Q => ∃ z i c, x = .str z ∧ y = .int i ∧ z.length ≤ sizeLine ∧ atI z.cps.toList i = some c ∧ Q (.str ⟨#[c]⟩) H
theorem ix_list : IxR X (rIxL X.K) := by
  intro value slice pins s σ H x y v u Q I rx ry h hs
  obtain ⟨p, xs, i, z, rfl, rfl, hq, he, q⟩ := h
  cases rx
  obtain ⟨t, rfl⟩ := ry
  obtain ⟨its, r, pl, hz⟩ := I.list hq
  obtain ⟨j, h1, h2, h3, h4, h5⟩ := atI_get he
  obtain ⟨w, ew, rw'⟩ := r.get h2
  have hl := r.length
  have hn := line63
  have fin : EP X pins σ Q w s := ⟨z, H, I, rw', q⟩
  by_cases h0 : 0 ≤ i
  · have hj : i.toNat = j := by
      rw [seqIndex_of h0 h5] at h1
      exact Option.some.inj h1
    exact item_listR pl.isList h0 (by omega) (by rw [hj]; simpa using ew) fin hs
  · have hj : (i + (its.toArray.size : Int)).toNat = j := by
      rw [seqIndex_neg (by omega) h4] at h1
      rw [List.size_toArray, ← hl]
      exact Option.some.inj h1
    exact subscriptTail_builtinR (x := w) pl.isList.typeIs slot_list_getitem.lookup
      (wpAny_getItem_list_neg (Q := fun r s' => r = w ∧ EP X pins σ Q r s') pl.isList (by omega) (by rw [List.size_toArray] <;> omega) (by omega) (by rw [hj]; simpa using ew) ⟨rfl, fin⟩) hs
theorem ix_tup : IxR X (rIxT X.K) := by
  intro value slice pins s σ H x y v u Q I rx ry h hs
  obtain ⟨p, xs, i, z, rfl, rfl, hq, he, q⟩ := h
  cases rx
  obtain ⟨t, rfl⟩ := ry
  obtain ⟨its, r, pl, hz⟩ := I.tuple hq
  obtain ⟨j, h1, h2, h3, h4, h5⟩ := atI_get he
  obtain ⟨w, ew, rw'⟩ := r.get h2
  have hl := r.length
  have hn := line63
  have fin : EP X pins σ Q w s := ⟨z, H, I, rw', q⟩
  exact subscriptTail_builtinR (x := w) pl.typeIs slot_tuple_getitem.lookup
    (getItem_tuple (j := j) (Q := fun r s' => r = w ∧ EP X pins σ Q r s') pl (by omega) (by omega) (by rw [List.size_toArray, ← hl]; exact h1) (by simpa using ew) ⟨rfl, fin⟩) hs
theorem ix_str : IxR X rIxS := by
  intro value slice pins s σ H x y v u Q I rx ry h hs
  obtain ⟨z, i, c, rfl, rfl, hz, he, q⟩ := h
  obtain ⟨t, rfl⟩ := rx
  obtain ⟨t', rfl⟩ := ry
  obtain ⟨j, h1, h2, h3, h4, h5⟩ := atI_get he
  have hl : z.cps.toList.length = z.length := by simp [Str.length]
  rw [hl] at h1 h4 h5
  have hn := line63
  exact tail_any (typeIs_str s z t) slot_str_getitem.lookup (getItem_str (c := c) (by
    have e1 : decide (i < -(2 ^ 63 : Int)) = false := decide_eq_false (by omega)
    have e2 : decide (i ≥ 2 ^ 63) = false := decide_eq_false (by omega)
    rw [e1, e2, Bool.or_false]) (by rw [h1]; simpa using h2) ⟨.str ⟨#[c]⟩, H, I.tok _, ⟨_, rfl⟩, q⟩) hs

/-! ### xs[i] = v, any sign -/
/-- the list's object behind a store -/
theorem mapSeq_set (its : List Value) (n j : Nat) (u : Value) : Obj.mapSeq (·.setIfInBounds j u) { cls := .type "list", data := .seq its.toArray n } = { cls := .type "list", data := .seq (its.set j u).toArray n } := by
  simp [Obj.mapSeq]
theorem Inv.lst {pins : List (Addr × Obj)} {σ : St} {H : Hp} {s : Shared} {p : Addr} {xs : List V} (I : Inv X pins σ H s) (h : H p = some (.lst xs)) :
    ∃ (its : List Value) (n : Nat), Vals xs its ∧ s.heap.get? p = some { cls := .type "list", data := .seq its.toArray n } ∧ xs.length ≤ sizeLine := by
  obtain ⟨z, its, n, r, e⟩ := I.hok p _ h
  exact ⟨its, n, r, e, z⟩
/-- the list at p is written by an update of its object -/
theorem Inv.lstUpd {pins : List (Addr × Obj)} {σ : St} {H : Hp} {s : Shared} {p : Addr} {xs ys : List V} {its its' : List Value} {n n' : Nat} {f : Obj → Obj} (I : Inv X pins σ H s) (h : H p = some (.lst xs))
    (ho : s.heap.get? p = some { cls := .type "list", data := .seq its.toArray n }) (hf : f { cls := .type "list", data := .seq its.toArray n } = { cls := .type "list", data := .seq its'.toArray n' }) (r : Vals ys its') (hz : ys.length ≤ sizeLine) (t : Nat) :
    Inv X pins σ (upd H p (.lst ys)) { s with heap := s.heap.update p f, toks := t } := by
  have e : (s.heap.update p f).get? p = some { cls := .type "list", data := .seq its'.toArray n' } := by
    rw [Heap.get?_update_self f ho (by rw [hf] <;> rfl), hf]
  refine I.write (x := p) (e := p) (by rw [h]; trivial) (.inl rfl) (fun b u hb q => (Heap.get?_update_other _ _ (Ne.symm hb)).trans q) ⟨_, e⟩ ?_
  exact ⟨hz, its', n', r, e⟩
def rSetL : V → V → V → Hp → (Hp → Prop) → Prop := fun o i v H Q => ∃ p xs k j, o = .ref p ∧ i = .int k ∧ H p = some (.lst xs) ∧ ixN xs.length k = some j ∧ Q (upd H p (.lst (xs.set j v)))
theorem set_list : PSet X rSetL := by
  intro pins s σ H o i v ov iv u Q I ro ri rv h
  obtain ⟨p, xs, k, j, rfl, rfl, hp, hj, q⟩ := h
  cases ro
  obtain ⟨t, rfl⟩ := ri
  obtain ⟨its, n, r, ho, hz⟩ := I.lst hp
  obtain ⟨h1, h2, h3, h4⟩ := ixN_seq hj
  have hl := r.length
  have hn := line63
  have I' : Inv X pins σ (upd H p (.lst (xs.set j v))) { s with heap := s.heap.update p (Obj.mapSeq (·.setIfInBounds j u)) } :=
    I.lstUpd hp ho (mapSeq_set its n j u) (r.set rv j) (by rw [List.length_set]; exact hz) s.toks
  by_cases h0 : 0 ≤ k
  · have hk : k.toNat = j := by
      rw [seqIndex_of h0 h4] at h1
      exact Option.some.inj h1
    exact PySem.W.ki_setAt ho h0 (by omega) (by rw [List.size_toArray, ← hl]; exact h4) (by rw [hk]; exact ⟨_, I', q⟩)
  · have hk : (k + (its.toArray.size : Int)).toNat = j := by
      rw [seqIndex_neg (by omega) h3] at h1
      rw [List.size_toArray, ← hl]
      exact Option.some.inj h1
    exact PySem.W.ki_setBack ho (by omega) (by rw [List.size_toArray, ← hl]; exact h3) (by omega) (by rw [hk]; exact ⟨_, I', q⟩)

/-! ### slices -/
theorem slice_bounds (lo hi : Option Int) (n : Nat) : (sliceBounds lo hi none n).1 = ((HT.sIx n 0 lo : Nat) : Int) ∧ (sliceBounds lo hi none n).2.1 = ((HT.sIx n n hi : Nat) : Int) ∧ (sliceBounds lo hi none n).2.2 = 1 := by
  refine ⟨?_, ?_, rfl⟩
  · cases lo with
    | none => simp [sliceBounds, HT.sIx]
    | some i =>
      simp only [sliceBounds, HT.sIx, Option.getD_none, show (1 : Int) > 0 by decide, if_true]
      by_cases h : i < 0
      · simp only [h, if_true] <;> omega
      · simp only [h, if_false] <;> omega
  · cases hi with
    | none => simp [sliceBounds, HT.sIx]
    | some i =>
      simp only [sliceBounds, HT.sIx, Option.getD_none, show (1 : Int) > 0 by decide, if_true]
      by_cases h : i < 0
      · simp only [h, if_true] <;> omega
      · simp only [h, if_false] <;> omega
theorem slicePick_cut (its : List Value) (lo hi : Option Int) : slicePick its.toArray lo hi none = ((its.drop (HT.sIx its.length 0 lo)).take (HT.sIx its.length its.length hi - HT.sIx its.length 0 lo)).toArray := by
  obtain ⟨h1, h2, h3⟩ := slice_bounds lo hi its.toArray.size
  unfold slicePick
  rw [h1, h2, h3]
  simp only [sliceRange_one, pick_run, List.size_toArray] <;> rfl
/-- xs[lo:hi] of a list: a new list -/
def rSlL (K : PySem.W.Frag) : V → Option Int → Option Int → Hp → VK → Prop := fun x lo hi H Q => ∃ a xs, x = .ref a ∧ SqL K H a xs ∧ ∀ p, H p = none → Q (.ref p) (upd H p (.lst (cutV xs lo hi)))
theorem sl_list : SlR X (rSlL X.K) := by
  intro pins s σ H x v vl vu lo hi sl Q I rx hs pl pu h
  obtain ⟨a, xs, rfl, hx, q⟩ := h
  cases rx
  obtain ⟨its, r, ht, hz⟩ := I.list hx
  have hlen := r.length
  refine ⟨"list", _, slot_list_getitem.lookup, ht.isList.typeIs, ?_⟩
  refine wpAny_getItem_list_slice ht.isList hs pl pu .none (by simp) ?_ (by rw [List.size_toArray] <;> omega)
  rw [slicePick_cut, ← hlen]
  refine ⟨.ref s.heap.objs.size, _, I.laid (t' := s.toks) (o := .lst (cutV xs lo hi)) (fun b ob q => Heap.get?_push_of_some _ q) (Nat.le_refl _) ?_, rfl, q _ (I.hok.fresh (Nat.le_refl _))⟩
  exact ⟨Nat.le_trans (cutV_length xs lo hi) hz, _, 0, (r.drop (HT.sIx xs.length 0 lo)).take (HT.sIx xs.length xs.length hi - HT.sIx xs.length 0 lo), Heap.get?_push_size _ rfl⟩

/-! ### in, not in: flat items -/
def flatV : V → Bool
  | .non => true
  | .bl _ => true
  | .int _ => true
  | .str _ => true
  | _ => false
/-- == of flat values -/
def eqV : V → V → Bool
  | .non, .non => true
  | .bl a, .bl b => a == b
  | .bl a, .int b => (if a then 1 else 0) == b
  | .int a, .bl b => a == (if b then 1 else 0)
  | .int a, .int b => a == b
  | .str a, .str b => a == b
  | _, _ => false
theorem eqAt_V {A : Around} {s : Shared} {y x : V} {u v : Value} (ry : RelV y u) (rx : RelV x v) (fy : flatV y = true) (fx : flatV x = true) : SeqAt.EqAt A s u v (eqV y x) := by
  cases y with
  | non =>
    cases ry
    cases x with
    | non => cases rx; exact SeqAt.EqAt.same _
    | bl b => cases rx; exact SeqAt.EqAt.none_bool b
    | int b => obtain ⟨t, rfl⟩ := rx; exact SeqAt.EqAt.none_int b t
    | str b => obtain ⟨t, rfl⟩ := rx; exact SeqAt.EqAt.none_str b t
    | _ => exact absurd (show false = true from fx) Bool.false_ne_true
  | bl a =>
    cases ry
    cases x with
    | non => cases rx; exact SeqAt.EqAt.bool_none a
    | bl b => cases rx; exact SeqAt.EqAt.bool_bool a b
    | int b => obtain ⟨t, rfl⟩ := rx; exact SeqAt.EqAt.bool_int a b t
    | str b => obtain ⟨t, rfl⟩ := rx; exact SeqAt.EqAt.bool_str a b t
    | _ => exact absurd (show false = true from fx) Bool.false_ne_true
  | int a =>
    obtain ⟨t', rfl⟩ := ry
    cases x with
    | non => cases rx; exact SeqAt.EqAt.int_none a t'
    | bl b => cases rx; exact SeqAt.EqAt.int_bool a t' b
    | int b => obtain ⟨t, rfl⟩ := rx; exact SeqAt.EqAt.int_int a t' b t
    | str b => obtain ⟨t, rfl⟩ := rx; exact SeqAt.EqAt.int_str a t' b t
    | _ => exact absurd (show false = true from fx) Bool.false_ne_true
  | str a =>
    obtain ⟨t', rfl⟩ := ry
    cases x with
    | non => cases rx; exact SeqAt.EqAt.str_none a t'
    | bl b => cases rx; exact SeqAt.EqAt.str_bool a t' b
    | int b => obtain ⟨t, rfl⟩ := rx; exact SeqAt.EqAt.str_int a t' b t
    | str b => obtain ⟨t, rfl⟩ := rx; exact SeqAt.EqAt.str_str a t' b t
    | _ => exact absurd (show false = true from fx) Bool.false_ne_true
  | _ => exact absurd (show false = true from fy) Bool.false_ne_true
/-- the items' answers, read off the values (a value's own answer does not lean on its token) -/
def eqU (x : V) (u : Value) : Bool := match u with
  | .none => eqV .non x
  | .bool b => eqV (.bl b) x
  | .int i _ => eqV (.int i) x
  | .str z _ => eqV (.str z) x
  | _ => false
theorem eqU_of {x y : V} {u : Value} (r : RelV y u) (f : flatV y = true) : eqU x u = eqV y x := by
  cases y with
  | non => cases r; rfl
  | bl b => cases r; rfl
  | int i => obtain ⟨t, rfl⟩ := r; rfl
  | str z => obtain ⟨t, rfl⟩ := r; rfl
  | _ => exact absurd (show false = true from f) Bool.false_ne_true
theorem any_eqU {x : V} : ∀ {xs : List V} {us : List Value}, Vals xs us → xs.all flatV = true → us.any (eqU x) = xs.any fun y => eqV y x
  | _, _, .nil, _ => rfl
  | y :: xs, u :: us, .cons r t, f => by
    rw [List.all_cons, Bool.and_eq_true] at f
    rw [List.any_cons, List.any_cons, eqU_of r f.1, any_eqU t f.2]
theorem mem_eqAt {A : Around} {s : Shared} {x : V} {v : Value} (rx : RelV x v) (fx : flatV x = true) : ∀ {xs : List V} {us : List Value}, Vals xs us → xs.all flatV = true → ∀ u ∈ us, SeqAt.EqAt A s u v (eqU x u)
  | _, _, .nil, _ => fun u hu => by cases hu
  | y :: xs, u :: us, .cons r t, f => fun u' hu => by
    rw [List.all_cons, Bool.and_eq_true] at f
    rcases List.mem_cons.mp hu with rfl | hu
    · rw [eqU_of r f.1]; exact eqAt_V r rx f.1 fx
    · exact mem_eqAt rx fx t f.2 u' hu
def inV (x : V) (xs : List V) : Bool := xs.any fun y => eqV y x
/-- x in a list or tuple of flat items -/
def rIn (K : PySem.W.Frag) (neg : Bool) : R2 := fun x y H Q => ∃ p xs, y = .ref p ∧ (SqL K H p xs ∨ SqT K H p xs) ∧ flatV x = true ∧ xs.all flatV = true ∧ Q (.bl (if neg then !inV x xs else inV x xs)) H
theorem op_in_seq : OpR X (compareOp .In) (rIn X.K false) := by
  intro pins s σ H x y v u Q I rx ry h
  obtain ⟨p, xs, rfl, hq, fx, fs, q⟩ := h
  cases ry
  rcases hq with hq | hq
  · obtain ⟨its, r, pl, hz⟩ := I.list hq
    refine SeqAt.in_listAt (eqU x) pl.isList (fun w hw => mem_eqAt rx fx r fs w (by simpa using hw)) ⟨.bl _, H, I, rfl, ?_⟩
    rw [show its.toArray.any (eqU x) = its.any (eqU x) by simp, any_eqU r fs]
    exact q
  · obtain ⟨its, r, pl, hz⟩ := I.tuple hq
    refine SeqAt.in_tupleAt (eqU x) pl (fun w hw => mem_eqAt rx fx r fs w (by simpa using hw)) ⟨.bl _, H, I, rfl, ?_⟩
    rw [show its.toArray.any (eqU x) = its.any (eqU x) by simp, any_eqU r fs]
    exact q
theorem op_notIn_seq : OpR X (compareOp .NotIn) (rIn X.K true) := by
  intro pins s σ H x y v u Q I rx ry h
  obtain ⟨p, xs, rfl, hq, fx, fs, q⟩ := h
  cases ry
  rcases hq with hq | hq
  · obtain ⟨its, r, pl, hz⟩ := I.list hq
    refine SeqAt.notIn_listAt (eqU x) pl.isList (fun w hw => mem_eqAt rx fx r fs w (by simpa using hw)) ⟨.bl _, H, I, rfl, ?_⟩
    rw [show its.toArray.any (eqU x) = its.any (eqU x) by simp, any_eqU r fs]
    exact q
  · obtain ⟨its, r, pl, hz⟩ := I.tuple hq
    refine SeqAt.notIn_tupleAt (eqU x) pl (fun w hw => mem_eqAt rx fx r fs w (by simpa using hw)) ⟨.bl _, H, I, rfl, ?_⟩
    rw [show its.toArray.any (eqU x) = its.any (eqU x) by simp, any_eqU r fs]
    exact q

/-! ### len, list(x), tuple(x) of any list or tuple that is read -/
theorem call_len_seq : CallR X (.builtin "len") (fun xs H Q => ∃ p ys, xs = [.ref p] ∧ (SqL X.K H p ys ∨ SqT X.K H p ys) ∧ Q (.int ys.length) H) := by
  intro pins s σ H xs us Q I r h
  obtain ⟨p, ys, rfl, hq, q⟩ := h
  obtain ⟨u, rfl, rx⟩ := vals1 r
  cases rx
  have hn := line63
  rcases hq with hq | hq
  · obtain ⟨its, r', pl, hz⟩ := I.list hq
    have hlen := r'.length
    exact Calls.call_len_list pl.isList (by simp only [List.size_toArray] <;> omega) ⟨.int ys.length, H, I.tok _, ⟨s.toks + 1, by rw [List.size_toArray, hlen]⟩, q⟩
  · obtain ⟨its, r', pl, hz⟩ := I.tuple hq
    have hlen := r'.length
    exact len_tuple pl (by simp only [List.size_toArray] <;> omega) ⟨.int ys.length, H, I.tok _, ⟨s.toks + 1, by rw [List.size_toArray, hlen]⟩, q⟩
theorem call_len_str : CallR X (.builtin "len") (fun xs H Q => ∃ z, xs = [.str z] ∧ z.length ≤ sizeLine ∧ Q (.int z.length) H) := by
  intro pins s σ H xs us Q I r h
  obtain ⟨z, rfl, hz, q⟩ := h
  obtain ⟨u, rfl, t, rfl⟩ := vals1 r
  have hn := line63
  exact len_str (by omega) ⟨.int z.length, H, I.tok _, ⟨_, rfl⟩, q⟩
theorem call_list_of : CallR X (.type "list") (fun xs H Q => ∃ p ys, xs = [.ref p] ∧ (SqL X.K H p ys ∨ SqT X.K H p ys) ∧ ∀ l, H l = none → Q (.ref l) (upd H l (.lst ys))) := by
  intro pins s σ H xs us Q I r h
  obtain ⟨p, ys, rfl, hq, q⟩ := h
  obtain ⟨u, rfl, rx⟩ := vals1 r
  cases rx
  have fin : ∀ (its : List Value), Vals ys its → ys.length ≤ sizeLine → ∀ (h' : Heap) (c' : Nat), (∀ b o', s.heap.get? b = some o' → h'.get? b = some o') →
      h'.get? s.heap.objs.size = some { cls := .type "list", dict := none, data := .seq its.toArray c', slots := #[] } → EP X pins σ Q (.ref s.heap.objs.size) { s with heap := h' } := fun its r' hz h' c' kp e =>
    ⟨.ref s.heap.objs.size, _, I.laid (t' := s.toks) kp (Nat.le_refl _) (show ObjOk X.prog X.w _ h' _ (.lst ys) from ⟨hz, its, c', r', e⟩), rfl, q _ (I.hok.fresh (Nat.le_refl _))⟩
  rcases hq with hq | hq
  · obtain ⟨its, r', pl, hz⟩ := I.list hq
    have hlen := r'.length
    obtain ⟨o, ho, hc, n, hd⟩ := pl.isList
    exact call_list_seq p (.inl rfl) ho hc hd (fun h' c' kp e => fin its r' hz h' c' kp e) (by simp only [List.size_toArray] <;> omega)
  · obtain ⟨its, r', pl, hz⟩ := I.tuple hq
    have hlen := r'.length
    obtain ⟨o, ho, hc, n, hd⟩ := pl
    exact call_list_seq p (.inr rfl) ho hc hd (fun h' c' kp e => fin its r' hz h' c' kp e) (by simp only [List.size_toArray] <;> omega)
theorem call_tuple_of : CallR X (.type "tuple") (fun xs H Q => ∃ p ys, xs = [.ref p] ∧ ((SqL X.K H p ys ∧ ∀ l, H l = none → Q (.ref l) (upd H l (.tup ys))) ∨ (SqT X.K H p ys ∧ Q (.ref p) H))) := by
  intro pins s σ H xs us Q I r h
  obtain ⟨p, ys, rfl, h⟩ := h
  obtain ⟨u, rfl, rx⟩ := vals1 r
  cases rx
  rcases h with ⟨hq, q⟩ | ⟨hq, q⟩
  · obtain ⟨its, r', pl, hz⟩ := I.list hq
    have hlen := r'.length
    refine call_tuple_list pl.isList (fun h' kp => ?_) (by simp only [List.size_toArray] <;> omega)
    have I1 : Inv X pins σ H { s with heap := h' } := I.kept (t' := s.toks) kp
    have I2 : Inv X pins σ (upd H h'.objs.size (.tup ys)) { s with heap := h'.push { cls := .type "tuple", data := .seq its.toArray } } :=
      I1.laid (t' := s.toks) (fun b o e => Heap.get?_push_of_some _ e) (Nat.le_refl _) (show ObjOk X.prog X.w _ _ _ (.tup ys) from ⟨hz, its, r', IsTup.new _ _⟩)
    exact ⟨.ref h'.objs.size, _, I2, rfl, q _ (I1.hok.fresh (Nat.le_refl _))⟩
  · obtain ⟨its, r', pl, hz⟩ := I.tuple hq
    exact call_tuple_same pl ⟨.ref p, H, I, rfl, q⟩

/-! ### the call of a builtin's method: o.m(..) -/
/-- the value is of that builtin type -/
def tyV (K : PySem.W.Frag) (T : String) (x : V) (H : Hp) : Prop := match x with
  | .str _ => T = "str"
  | .int _ => T = "int"
  | .ref p => (T = "list" ∧ ∃ xs, SqL K H p xs) ∨ (T = "tuple" ∧ ∃ o, K.lookup p = some o ∧ o.cls = .type "tuple" ∧ o.dict = none) ∨
      (T = "dict" ∧ ((∃ kvs, H p = some (.dK kvs)) ∨ ∃ kvs, H p = some (.dT kvs))) ∨ (T = "set" ∧ ∃ S n, H p = some (.set S n))
  | _ => False
theorem tyV_is {pins : List (Addr × Obj)} {σ : St} {H : Hp} {s : Shared} {T : String} {x : V} {v : Value} (I : Inv X pins σ H s) (r : RelV x v) (ty : tyV X.K T x H) :
    s.TypeIs v T ∧ ∀ a, v = .ref a → ∃ ob, s.heap.get? a = some ob ∧ ob.dict = none := by
  cases x with
  | str z =>
    obtain ⟨t, rfl⟩ := r
    cases (show T = "str" from ty)
    exact ⟨typeIs_str s z t, fun _ e => nomatch e⟩
  | int i =>
    obtain ⟨t, rfl⟩ := r
    cases (show T = "int" from ty)
    exact ⟨typeIs_int s i t, fun _ e => nomatch e⟩
  | ref p =>
    cases r
    rcases ty with ⟨rfl, xs, hq⟩ | ⟨rfl, o, hk, hc, hd⟩ | ⟨rfl, hk⟩ | ⟨rfl, S, n, hk⟩
    · obtain ⟨its, _, pl, _⟩ := I.list hq
      refine ⟨pl.isList.typeIs, fun a e => ?_⟩
      cases e
      obtain ⟨o, n, e, c, hd, _⟩ := pl
      exact ⟨o, e, hd⟩
    · refine ⟨⟨o, I.kIn p o hk, hc⟩, fun a e => ?_⟩
      cases e
      exact ⟨o, I.kIn _ o hk, hd⟩
    · have z : ∃ o, s.heap.get? p = some o ∧ o.ExactDict := by
        rcases hk with ⟨kvs, hk⟩ | ⟨kvs, hk⟩
        · obtain ⟨_, _, _, _, o, _, _, e, ex, _⟩ := I.hok p _ hk
          exact ⟨o, e, ex⟩
        · obtain ⟨_, _, _, _, o, _, _, e, ex, _⟩ := I.hok p _ hk
          exact ⟨o, e, ex⟩
      obtain ⟨o, e, ex⟩ := z
      refine ⟨⟨o, e, ex.1⟩, fun a e2 => ?_⟩
      cases e2
      exact ⟨o, e, ex.2.1⟩
    · obtain ⟨o, _, _, _, e, ex, _⟩ := I.hok p _ hk
      refine ⟨⟨o, e, ex.1⟩, fun a e2 => ?_⟩
      cases e2
      exact ⟨o, e, ex.2.1⟩
  | _ => exact False.elim ty
def tBM (K : PySem.W.Frag) (T : String) (r : V → List V → Hp → VK → Prop) (to : TE) (t : TA) : TE := fun σ H Q => to σ H fun x H1 => tyV K T x H1 ∧ t σ H1 fun xs H2 => r x xs H2 Q
variable {o e : Expr} {es : List Expr} {to : TE} {t : TA} {name : Str} {apos cpos : Pos} {T id : String} {r : V → List V → Hp → VK → Prop}
theorem pe_bm (pa : PlainAttrs T) (slot : Slot T name id) (hty : typeOf (.builtin id) = pure (.type "method_descriptor")) (hm : MtR X id r) (ho : PE X o to) (ha : PA X (e :: es) t)
    (hbase : attributeBase o name X.env (eval o X.env) = eval o X.env := by rfl)
    (hfew : ((backTo cpos (starEach (e :: es) X.env)).all (fun x => !x.1) && (backToKw cpos (keywordEach [] X.env)).all (fun x => x.1.isSome)
      && decide ((e :: es).length + ([] : List Keyword).length + (if ([] : List Keyword).isEmpty then 0 else 1) < 30)) = true := by rfl)
    (hline : (apos.endLine == cpos.line) = true := by rfl) (hs : starEach (e :: es) X.env = (false, eval e X.env) :: starEach es X.env := by rfl) (hplain : (backTo cpos (starEach es X.env)).any (·.1) = false := by rfl) :
    PE X (.Call (.Attribute o name apos) (e :: es) [] cpos) (tBM X.K T r to t) := by
  intro pins s σ H Q I h
  refine wpAny_Call_method_late hbase hfew hline rfl (thn (ho pins s σ H _ I h) fun v s1 ⟨x, H1, I1, r1, ty, q1⟩ => ?_)
  obtain ⟨h1, h2⟩ := tyV_is I1 r1 ty
  refine ⟨T, id, pa, slot, hty, h1, h2, ?_⟩
  have hA := ha cpos pins s1 σ H1 _ I1 q1
  rw [hs] at hA ⊢
  refine Calls.callWith_builtin (by show (false || (backTo cpos (starEach es X.env)).any (·.1)) = false; rw [hplain] <;> rfl) (Calls.evalArgs_plain ?_)
  exact thn hA fun us s2 ⟨vs, H2, I2, r2, q2⟩ => hm pins s2 σ H2 x vs v us Q I2 r1 r2 q2
/- xs.append(e), list.index on a module's tuple .. are MtR facts of 06m -/
end
end L2

namespace L2
open PySem PySem.Spec PyProof.Rows

def MtM (X : Cx) (id : String) (r : V → List V → Hp → VK → Prop) : Prop :=
  ∀ (pins : List (Addr × Obj)) (s : Shared) (σ : St) (H : Hp) (x : V) (xs : List V) (v : Value) (us : List Value) (Q : VK), Inv X pins σ H s → RelV x v → Vals xs us → r x xs H Q →
    wpAny (model X.prog X.w) X.A (call (.builtin id) (v :: us)) (EP X pins σ Q) X.xe s

/-! ### lists of values -/
theorem Vals.one : ∀ {x : V} {us : List Value}, Vals [x] us → ∃ u, us = [u] ∧ RelV x u
  | _, _, .cons r .nil => ⟨_, rfl, r⟩

section
variable {X : Cx} {pins : List (Addr × Obj)} {σ : St} {H : Hp} {s : Shared} {l b : Addr} {xs ys zs : List V}

/-! ### the two steps: a tracked list is rewritten, a new list is laid -/
theorem Inv.lset {its its' : List Value} {n : Nat} {f : Array Value → Array Value} {t' : Nat} (I : Inv X pins σ H s) (hH : H l = some (.lst xs))
    (e : s.heap.get? l = some { cls := .type "list", data := .seq its.toArray n }) (hf : f its.toArray = its'.toArray) (hv : Vals ys its') (hz : ys.length ≤ sizeLine) :
    Inv X pins σ (upd H l (.lst ys)) { s with heap := s.heap.update l (Obj.mapSeq f), toks := t' } := by
  have q := PySem.IsL.update e f
  rw [hf] at q
  refine I.write (x := l) (e := l) (by rw [hH]; exact trivial) (.inl rfl) (fun b' u hb hu => (Heap.get?_update_other s.heap (Obj.mapSeq f) (Ne.symm hb)).trans hu) ⟨_, q⟩ ?_
  exact ⟨hz, its', _, hv, q⟩
theorem Inv.lnew {its : List Value} {t' : Nat} (I : Inv X pins σ H s) (hv : Vals ys its) (hz : ys.length ≤ sizeLine) :
    Inv X pins σ (upd H s.heap.objs.size (.lst ys)) { s with heap := s.heap.push { cls := .type "list", data := .seq its.toArray }, toks := t' } :=
  I.laid (fun _ _ q => Heap.get?_push_of_some _ q) (Nat.le_refl _) ⟨hz, its, 0, hv, Heap.get?_push_size _ rfl⟩
theorem Inv.fresh (I : Inv X pins σ H s) : H s.heap.objs.size = none := I.hok.fresh (Nat.le_refl _)
theorem Inv.lstM (I : Inv X pins σ H s) (hH : H l = some (.lst xs)) : xs.length ≤ sizeLine ∧ ∃ (its : List Value) (n : Nat), Vals xs its ∧ xs.length = its.length ∧ s.heap.get? l = some { cls := .type "list", data := .seq its.toArray n } := by
  obtain ⟨z, its, n, r, e⟩ := I.hok l _ hH
  exact ⟨z, its, n, r, r.length, e⟩

end

section
variable {X : Cx}

/-! ### methods -/
def rAppend : V → List V → Hp → VK → Prop := fun x vs H Q => ∃ l xs y, x = .ref l ∧ vs = [y] ∧ H l = some (.lst xs) ∧ xs.length < sizeLine ∧ Q .non (upd H l (.lst (xs ++ [y])))
theorem mt_append : MtM X "list.append" rAppend := by
  intro pins s σ H x vs v us Q I rx rv h
  obtain ⟨l, xs, y, rfl, rfl, hH, hz, q⟩ := h
  cases rx
  obtain ⟨u, rfl, ru⟩ := rv.one
  obtain ⟨z, its, n, r, hl, e⟩ := I.lstM hH
  refine call_meets F.slot_list_append ⟨_, e, rfl⟩ F.entry_list_append (F.args_list_append_2 _ _) (PySem.list_append l its.toArray n u (by rw [List.size_toArray]; omega)) ⟨e, ?_⟩
  refine ⟨.non, _, I.lset (its' := its ++ [u]) hH e (by simp) (r.append (.cons ru .nil)) ?_, rfl, q⟩
  rw [List.length_append, List.length_singleton]
  omega






/-! ### list + list, list += list, list * int -/
def rCat : R2 := fun x y H Q => ∃ l b xs zs, x = .ref l ∧ y = .ref b ∧ H l = some (.lst xs) ∧ H b = some (.lst zs) ∧ xs.length + zs.length ≤ sizeLine ∧ ∀ p, H p = none → Q (.ref p) (upd H p (.lst (xs ++ zs)))
theorem op_cat : OpR X (binaryOp .Add) rCat := by
  intro pins s σ H x y v u Q I rx ry h
  obtain ⟨l, b, xs, zs, rfl, rfl, hH, hB, hz, q⟩ := h
  cases rx
  cases ry
  obtain ⟨z, its, n, r, hl, e⟩ := I.lstM hH
  obtain ⟨z2, its2, n2, r2, hl2, e2⟩ := I.lstM hB
  refine PySem.P.add_list e e2 ?_ (by rw [List.size_toArray, List.size_toArray]; omega)
  have ea : its.toArray ++ its2.toArray = (its ++ its2).toArray := by simp
  rw [ea]
  exact ⟨.ref _, _, I.lnew (t' := s.toks) (r.append r2) (by rw [List.length_append]; omega), rfl, q _ I.fresh⟩

/-! ### del xs[i] -/
end

/-! ### xs[a:b] = ys -/
section
variable {prog : Program} {w : World} {A : Around} {E : Value → Shared → Prop} {s : Shared}
end

section
variable {X : Cx}
end
end L2

namespace L2
open PySem PySem.Spec PyProof.Rows

/-! ### lists of pairs as tables -/
section
variable {κ : Type} [DecidableEq κ]
def valV (kvs : List (κ × V)) (k : κ) : Option V := (kvs.find? fun kv => decide (kv.1 = k)).map (·.2)
/-- in its place, or at the end -/
def putK (kvs : List (κ × V)) (k : κ) (v : V) : List (κ × V) :=
  if (kvs.any fun kv => decide (kv.1 = k)) = true then kvs.map (fun kv => if kv.1 = k then (kv.1, v) else kv) else kvs ++ [(k, v)]

theorem valV_pos {p : κ × V} {r : List (κ × V)} {k : κ} (e : p.1 = k) : valV (p :: r) k = some p.2 := by simp [valV, List.find?_cons, e]
theorem valV_neg {p : κ × V} {r : List (κ × V)} {k : κ} (e : ¬ p.1 = k) : valV (p :: r) k = valV r k := by simp [valV, List.find?_cons, e]
theorem valV_any (k : κ) : ∀ kvs : List (κ × V), (kvs.any fun kv => decide (kv.1 = k)) = (valV kvs k).isSome
  | [] => rfl
  | p :: r => by
    rw [List.any_cons]
    by_cases e : p.1 = k
    · simp only [valV_pos e, decide_eq_true e, Bool.true_or, Option.isSome_some]
    · rw [valV_neg e, decide_eq_false e, Bool.false_or]; exact valV_any k r
theorem length_putK (kvs : List (κ × V)) (k : κ) (v : V) : (putK kvs k v).length ≤ kvs.length + 1 := by
  unfold putK
  split
  · rw [List.length_map]; omega
  · rw [List.length_append, List.length_cons, List.length_nil]; omega

theorem RelO.isSome_eq {o : Option V} {u : Option Value} (r : RelO o u) : o.isSome = u.isSome := by
  cases o with
  | none => cases u with
    | none => rfl
    | some _ => exact (show False from r).elim
  | some _ => cases u with
    | none => exact (show False from r).elim
    | some _ => rfl
theorem RelO.getD {o : Option V} {u : Option Value} {d : V} {d' : Value} (r : RelO o u) (rd : RelV d d') : RelV (o.getD d) (u.getD d') := by
  cases o with
  | none => cases u with
    | none => exact rd
    | some _ => exact (show False from r).elim
  | some _ => cases u with
    | none => exact (show False from r).elim
    | some _ => exact r

/-- raw tables of the same keys -/
theorem KV.val {kvs : List (κ × V)} {vs : List (κ × Value)} (r : KV kvs vs) (k : κ) : RelO (valV kvs k) (valueAt vs k) := by
  unfold KV at r
  induction r with
  | nil => exact True.intro
  | @cons p q ps qs h t ih =>
    obtain ⟨h1, h2⟩ := h
    by_cases e : p.1 = k
    · have e' : q.1 = k := h1.symm.trans e
      have b : valueAt (q :: qs) k = some q.2 := by simp [valueAt, List.find?_cons, e']
      rw [valV_pos e, b]; exact h2
    · have e' : ¬ q.1 = k := fun z => e (h1.trans z)
      have b : valueAt (q :: qs) k = valueAt qs k := by simp [valueAt, List.find?_cons, e']
      rw [valV_neg e, b]; exact ih
theorem KV.any {kvs : List (κ × V)} {vs : List (κ × Value)} (r : KV kvs vs) (k : κ) : (kvs.any fun kv => decide (kv.1 = k)) = vs.any fun kv => decide (kv.1 = k) := by
  unfold KV at r
  induction r with
  | nil => rfl
  | cons h t ih => rw [List.any_cons, List.any_cons, ih, h.1]
theorem KV.repl {kvs : List (κ × V)} {vs : List (κ × Value)} (r : KV kvs vs) (k : κ) {y : V} {u : Value} (ry : RelV y u) :
    KV (kvs.map fun kv => if kv.1 = k then (kv.1, y) else kv) (vs.map fun kv => if kv.1 = k then (kv.1, u) else kv) := by
  unfold KV at r ⊢
  induction r with
  | nil => exact .nil
  | @cons p q ps qs h t ih =>
    rw [List.map_cons, List.map_cons]
    refine .cons ?_ ih
    obtain ⟨h1, h2⟩ := h
    by_cases e : p.1 = k
    · rw [if_pos e, if_pos (h1.symm.trans e)]; exact ⟨h1, ry⟩
    · rw [if_neg e, if_neg (fun z => e (h1.trans z))]; exact ⟨h1, h2⟩
theorem KV.put {kvs : List (κ × V)} {vs : List (κ × Value)} (r : KV kvs vs) (k : κ) {y : V} {u : Value} (ry : RelV y u) : KV (putK kvs k y) (stored vs k u) := by
  unfold putK stored
  rw [r.any k]
  by_cases e : (vs.any fun kv => decide (kv.1 = k)) = true
  · rw [if_pos e, if_pos e]; exact r.repl k ry
  · rw [if_neg e, if_neg e]; exact Paired.snoc r ⟨rfl, ry⟩
theorem KV.length {kvs : List (κ × V)} {vs : List (κ × Value)} (r : KV kvs vs) : kvs.length = vs.length := Paired.length r
end


/-! ### a tracked dict, its keys ints and texts or tuples of these -/
theorem kV_is {P : Program} {w : World} {k : Key} {u : Value} (r : RelV (kV k) u) : (mixKind P w).is k u = true := by
  cases k with
  | inl i => obtain ⟨t, e⟩ := (show ∃ t, u = Value.int i t from r); subst e; exact mixKind_int P w i t
  | inr x => obtain ⟨t, e⟩ := (show ∃ t, u = Value.str x t from r); subst e; exact mixKind_str P w x t
theorem items_are {P : Program} {w : World} : ∀ {ks : List Key} {us : List Value}, Vals (ks.map kV) us → ItemsAre (mixKind P w) ks us
  | [], _, r => by rw [List.map_nil] at r; cases r; exact .nil
  | k :: ks, _, r => by
    rw [List.map_cons] at r
    cases r with
    | cons h t => exact .cons (kV_is h) (items_are t)

/-- raw entries of a dict with tuple keys -/
abbrev KT (H : Hp) : List (List Key × V) → List (List Key × Addr × Value) → Prop := Paired fun p q => p.1 = q.1 ∧ H q.2.1 = some (.tup (p.1.map kV)) ∧ RelV p.2 q.2.2
theorem KT.val {H : Hp} {kvs : List (List Key × V)} {xs : List (List Key × Addr × Value)} (r : KT H kvs xs) (k : List Key) : RelO (valV kvs k) ((atKey xs k).map (·.2)) := by
  induction r with
  | nil => exact True.intro
  | @cons p q ps qs h t ih =>
    obtain ⟨h1, _, h2⟩ := h
    by_cases e : p.1 = k
    · have e' : q.1 = k := h1.symm.trans e
      have b : atKey (q :: qs) k = some q.2 := by simp [atKey, List.find?_cons, e']
      rw [valV_pos e, b]; exact h2
    · have e' : ¬ q.1 = k := fun z => e (h1.trans z)
      have b : atKey (q :: qs) k = atKey qs k := by simp [atKey, List.find?_cons, e']
      rw [valV_neg e, b]; exact ih
theorem KT.repl {H : Hp} {kvs : List (List Key × V)} {xs : List (List Key × Addr × Value)} (r : KT H kvs xs) (k : List Key) {y : V} {u : Value} (ry : RelV y u) :
    KT H (kvs.map fun kv => if kv.1 = k then (kv.1, y) else kv) (xs.map (putAt k u)) := by
  induction r with
  | nil => exact .nil
  | @cons p q ps qs h t ih =>
    rw [List.map_cons, List.map_cons]
    refine .cons ?_ ih
    obtain ⟨h1, h2, h3⟩ := h
    unfold putAt
    by_cases e : p.1 = k
    · rw [if_pos e, if_pos (h1.symm.trans e)]; exact ⟨h1, h2, ry⟩
    · rw [if_neg e, if_neg (fun z => e (h1.trans z))]; exact ⟨h1, h2, h3⟩
theorem KT.put {H : Hp} {kvs : List (List Key × V)} {xs : List (List Key × Addr × Value)} (r : KT H kvs xs) (k : List Key) {b : Addr} {y : V} {u : Value} (hb : H b = some (.tup (k.map kV))) (ry : RelV y u) :
    KT H (putK kvs k y) (storedH xs k b u) := by
  have e : (kvs.any fun kv => decide (kv.1 = k)) = (atKey xs k).isSome := by
    rw [valV_any, (r.val k).isSome_eq, Option.isSome_map]
  unfold putK storedH
  rw [e]
  by_cases q : (atKey xs k).isSome = true
  · rw [if_pos q, if_pos q]; exact r.repl k ry
  · rw [if_neg q, if_neg q]; exact Paired.snoc r ⟨rfl, hb, ry⟩
theorem KT.keeps {H H' : Hp} {kvs : List (List Key × V)} {xs : List (List Key × Addr × Value)} (r : KT H kvs xs) (ht : ∀ b ys, H b = some (.tup ys) → H' b = some (.tup ys)) : KT H' kvs xs :=
  Paired.mapP r fun _ _ z => ⟨z.1, ht _ _ z.2.1, z.2.2⟩

section
variable {P : Program} {w : World} {H : Hp} {h : Heap} {a : Addr}
theorem rd_of {u : HO} (ok : HOk P w H h) (e : Rd H a u) : ObjOk P w H h a u := e.ok ok
theorem dk_rd {kvs : List (Key × V)} (ok : HOk P w H h) (e : Rd H a (.dK kvs)) : kvs.length ≤ sizeLine ∧ (a == sysModules) = false ∧ ∃ vs, KV kvs vs ∧ h.DictOf (mixKind P w) a vs :=
  show ObjOk P w H h a (.dK kvs) from rd_of ok e
theorem dk_of {kvs : List (Key × V)} (ok : HOk P w H h) (e : H a = some (.dK kvs)) : kvs.length ≤ sizeLine ∧ (a == sysModules) = false ∧ ∃ vs, KV kvs vs ∧ h.DictOf (mixKind P w) a vs := dk_rd ok (.inl e)
/-- a tracked tuple of ints and texts is a key -/
theorem key_of {ks : List Key} (ok : HOk P w H h) (e : H a = some (.tup (ks.map kV))) : (tupleKind (mixKind P w)).is h ks a := by
  obtain ⟨_, its, r, o, h1, h2, n, h3⟩ := (show ObjOk P w H h a (.tup (ks.map kV)) from ok a _ e)
  exact ⟨o, its.toArray, n, h1, h2, h3, by simpa using items_are r⟩
theorem dt_rd {kvs : List (List Key × V)} (ok : HOk P w H h) (e : Rd H a (.dT kvs)) : kvs.length ≤ sizeLine ∧ (a == sysModules) = false ∧
    ∃ xs, KT H kvs xs ∧ h.DictOfH (tupleKind (mixKind P w)) a xs := by
  obtain ⟨z, y, xs, r, o, es, ep, h1, h2, h3, h4, h5⟩ := (show ObjOk P w H h a (.dT kvs) from rd_of ok e)
  refine ⟨z, y, xs, r, o, es, ep, h1, h2, h3, h4, fun x hx => ?_, h5⟩
  have all : ∀ {l : List (List Key × V)} {m : List (List Key × Addr × Value)}, KT H l m → ∀ x ∈ m, (tupleKind (mixKind P w)).is h x.1 x.2.1 := by
    intro l m q
    induction q with
    | nil => intro x hx; exact nomatch hx
    | @cons p q ps qs hq t ih =>
      intro x hx
      rcases List.mem_cons.mp hx with e | hx
      · subst e
        exact key_of ok (by rw [← hq.1]; exact hq.2.1)
      · exact ih x hx
  exact all r x hx
theorem dt_of {kvs : List (List Key × V)} (ok : HOk P w H h) (e : H a = some (.dT kvs)) : kvs.length ≤ sizeLine ∧ (a == sysModules) = false ∧
    ∃ xs, KT H kvs xs ∧ h.DictOfH (tupleKind (mixKind P w)) a xs := dt_rd ok (.inl e)
end

/-- what the dict at a holds at the key y -/
def DGet (H : Hp) (a : Addr) (y : V) (r : Option V) : Prop :=
  (∃ kvs k, Rd H a (.dK kvs) ∧ y = kV k ∧ r = valV kvs k) ∨ ∃ kvs k b, Rd H a (.dT kvs) ∧ y = .ref b ∧ H b = some (.tup (k.map kV)) ∧ r = valV kvs k
/-- the heap behind a[y] = v -/
def DPut (H : Hp) (a : Addr) (y v : V) (H' : Hp) : Prop :=
  (∃ kvs k, H a = some (.dK kvs) ∧ y = kV k ∧ kvs.length < sizeLine ∧ H' = upd H a (.dK (putK kvs k v))) ∨
  ∃ kvs k b, H a = some (.dT kvs) ∧ y = .ref b ∧ H b = some (.tup (k.map kV)) ∧ kvs.length < sizeLine ∧ H' = upd H a (.dT (putK kvs k v))
theorem DGet.k {H : Hp} {a : Addr} {kvs : List (Key × V)} {k : Key} (e : H a = some (.dK kvs)) : DGet H a (kV k) (valV kvs k) := .inl ⟨kvs, k, .inl e, rfl, rfl⟩
theorem DPut.k {H : Hp} {a : Addr} {kvs : List (Key × V)} {k : Key} {v : V} (e : H a = some (.dK kvs)) (hl : kvs.length < sizeLine) : DPut H a (kV k) v (upd H a (.dK (putK kvs k v))) := .inl ⟨kvs, k, e, rfl, hl, rfl⟩


section
variable {X : Cx} {pins : List (Addr × Obj)} {σ : St} {H : Hp} {s : Shared} {a : Addr} {y v : V} {u r : Value} {o : Option V} {A : Around} {E : Value → Shared → Prop}

theorem Inv.big (I : Inv X pins σ H s) : sysModules < s.heap.objs.size := by
  have h : mainGlobals < s.heap.objs.size := (I.mod.glob.keeps I.bk).lt
  exact Nat.lt_trans (by decide) h

/-- d[y], there -/
theorem d_getItem {Q : Value → Shared → Prop} (hu : A.units + 1 < cLine) (I : Inv X pins σ H s) (g : DGet H a y (some v)) (ry : RelV y u) (h : ∀ w' s', Inv X pins σ H s' → RelV v w' → Q w' s') :
    wpAny (model X.prog X.w) A (getItem (.ref a) u) Q E s := by
  rcases g with ⟨kvs, k, e, ey, l⟩ | ⟨kvs, k, b, e, ey, eb, l⟩
  · subst ey
    obtain ⟨z, hd, vs, rel, dd⟩ := dk_rd I.hok e
    obtain ⟨w', hw, rw'⟩ := RelO.some_of (v := v) (o := valueAt vs k) (by rw [l]; exact rel.val k)
    exact wpAny_getItem_of (kV_is ry) dd.mapOf hw (h w' _ (I.tok _) rw')
  · subst ey
    cases (show u = Value.ref b from ry)
    obtain ⟨z, hd, xs, rel, dd⟩ := dt_rd I.hok e
    obtain ⟨w', hw, rw'⟩ := RelO.some_of (v := v) (o := (atKey xs k).map (·.2)) (by rw [l]; exact rel.val k)
    obtain ⟨p, hp, hp2⟩ := Option.map_eq_some_iff.mp hw
    refine wpAny_getItem_heap (tupleKind_room_in1 hu) (key_of I.hok eb) dd hp ?_
    rw [hp2]
    exact h w' _ (I.tok _) rw'
/-- a dict's object is replaced -/
theorem d_write {h' : Heap} {t' : Nat} {ob : HO} (I : Inv X pins σ H s) (mu : Mut (H a)) (hs : Heap.SameBut a s.heap h') (he : ∃ q, h'.get? a = some q) (new : ObjOk X.prog X.w (upd H a ob) h' a ob) :
    Inv X pins σ (upd H a ob) { s with heap := h', toks := t' } :=
  I.write (x := a) (e := a) mu (.inl rfl) (fun b q hb z => (hs.2 b hb).trans z) he new
theorem dk_new {P : Program} {w : World} {H' : Hp} {h' : Heap} {kvs : List (Key × V)} {vs : List (Key × Value)} (z : kvs.length ≤ sizeLine) (hd : (a == sysModules) = false) (rel : KV kvs vs) (dd : h'.DictOf (mixKind P w) a vs) :
    ObjOk P w H' h' a (.dK kvs) := ⟨z, hd, vs, rel, dd⟩
/-- d[y] = v -/
theorem d_setItem {H' : Hp} {Q : Unit → Shared → Prop} (hu : A.units + 1 < cLine) (I : Inv X pins σ H s) (g : DPut H a y v H') (ry : RelV y u) (rv : RelV v r) (h : ∀ s', Inv X pins σ H' s' → Q () s') :
    wpAny (model X.prog X.w) A (setItem (.ref a) u r) Q E s := by
  rcases g with ⟨kvs, k, e, ey, l, eH⟩ | ⟨kvs, k, b, e, ey, eb, l, eH⟩
  · subst ey eH
    obtain ⟨z, hd, vs, rel, dd⟩ := dk_of I.hok e
    have hz : vs.length ≤ sizeLine := by rw [← rel.length]; exact z
    have hl : (putK kvs k v).length ≤ sizeLine := by have := length_putK kvs k v; omega
    refine wpAny_setItem_pairs (hsz := hz) (kV_is ry) dd fun h' dd' hs => h _ ?_
    have he : ∃ q, h'.get? a = some q := let ⟨q, _, _, hq, _⟩ := dd'; ⟨q, hq⟩
    exact d_write I (by rw [e]; exact True.intro) hs he (dk_new hl hd (rel.put k rv) dd')
  · subst ey eH
    cases (show u = Value.ref b from ry)
    obtain ⟨z, hd, xs, rel, dd⟩ := dt_of I.hok e
    have hz : xs.length ≤ sizeLine := by rw [← Paired.length rel]; exact z
    have hl : (putK kvs k v).length ≤ sizeLine := by have := length_putK kvs k v; omega
    refine wpAny_setItem_heap (hsz := hz) (tupleKind_room_in1 hu) (key_of I.hok eb) dd fun h' dd' hs => h _ ?_
    obtain ⟨q, es, ep, hq, h2, h3, h4, _, h5⟩ := dd'
    refine d_write I (by rw [e]; exact True.intro) hs ⟨q, hq⟩ ⟨hl, hd, _, (rel.put k eb rv).keeps fun c ys ec => ?_, q, es, ep, hq, h2, h3, h4, h5⟩
    rw [upd_ne (ne_of ec e (fun z => nomatch z))]
    exact ec
end

section
variable {X : Cx} {pins : List (Addr × Obj)} {σ : St} {H : Hp} {s : Shared} {a : Addr} {kvs : List (Key × V)} {k : Key} {u : Value} {A : Around} {E : Value → Shared → Prop}
end


/-! ### readings and rules -/
/-- the element of a subscription, not a slice -/
def NoSl (i : Expr) : Prop := ∀ ov iv, subscripted i false ov iv = operate [ov, iv] (getItem ov iv)
theorem subD_of {prog : Program} {w : World} {A : Around} {E : Value → Shared → Prop} {s : Shared} {env : Env} {value slice : Expr} {pos : Pos} {T id : String} {Q : Value → Shared → Prop}
    (hl : typeLookup (.type T) "__getitem__" = pure (some (.builtin id))) (hs : NoSl slice)
    (h : wpAny (model prog w) A (eval value env) (fun o s₁ => wpAny (model prog w) A (eval slice env) (fun i s₂ => s₂.TypeIs o T ∧ wpAny (model prog w) A (getItem o i) Q E s₂) E s₁) E s) :
    wpAny (model prog w) A (eval (.Subscript value slice pos) env) Q E s := by
  refine Subscript_ (wpAny_mono h (fun o s₁ h₁ => wpAny_mono h₁ (fun i s₂ h₂ => ?_) fun _ _ x => x) fun _ _ x => x)
  obtain ⟨hT, h₂⟩ := h₂
  unfold subscriptTail
  refine wpAny_bind ?_
  rw [getitemInPython_of_ne hT.not_modules]
  refine wpAny_bind (wpAny_specialOf hT hl ?_)
  have fin : wpAny (model prog w) A (subscripted slice false o i) (fun r s₃ => wpAny (model prog w) A (letTemporaryGo value o r >>= fun _ => pure r) Q E s₃) E s₂ := by
    rw [hs o i]
    exact wpAny_operating (wpAny_mono h₂ (fun r s₃ h₃ => wpAny_bind (wpAny_letTemporaryGo (wpAny_pure h₃))) fun _ _ x => x)
  first
    | exact wpAny_pure (wpAny_bind fin)
    | exact wpAny_bind (wpAny_pure (wpAny_bind fin))
    | exact wpAny_bind fin

theorem dict_typeIs {X : Cx} {pins : List (Addr × Obj)} {σ : St} {H : Hp} {s : Shared} {a : Addr} {y : V} {o : Option V} (I : Inv X pins σ H s) (g : DGet H a y o) : s.TypeIs (.ref a) "dict" := by
  rcases g with ⟨kvs, k, e, _, _⟩ | ⟨kvs, k, b, e, _, _, _⟩
  · obtain ⟨_, _, vs, _, dd⟩ := dk_rd I.hok e
    exact dd.typeIs
  · obtain ⟨_, _, xs, _, dd⟩ := dt_rd I.hok e
    exact dd.typeIs

/-- d[y] -/
def tDGet (td ty : TE) : TE := fun σ H Q => td σ H fun x H1 => ty σ H1 fun y H2 => ∃ a v, x = .ref a ∧ DGet H2 a y (some v) ∧ Q v H2
/-- d[y] = v -/
def sDPut (td ty tv : TE) : TS := fun D σ H => tv σ H fun v H1 => td σ H1 fun x H2 => ty σ H2 fun y H3 => ∃ a H4, x = .ref a ∧ DPut H3 a y v H4 ∧ D.nx σ H4

section
variable {X : Cx} {o i e value : Expr} {pos pos' tpos : Pos} {td ty tv : TE}
theorem pe_dget (hu : X.A.units + 1 < cLine) (ho : PE X o td) (hi : PE X i ty) (hs : NoSl i) : PE X (.Subscript o i pos) (tDGet td ty) := by
  intro pins s σ H Q I h
  refine subD_of PySem.F.slot_dict_getitem.lookup hs (thn (ho pins s σ H _ I h) fun u s1 ⟨x, H1, I1, rx, q1⟩ => thn (hi pins s1 σ H1 _ I1 q1) fun iv s2 ⟨y, H2, I2, ry, a, v, ex, g, q2⟩ => ?_)
  subst ex
  obtain rfl : u = Value.ref a := rx
  exact ⟨dict_typeIs I2 g, d_getItem hu I2 g ry fun w' s3 I3 rw' => ⟨v, H2, I3, rw', q2⟩⟩
theorem ps_dput (hu : X.A.units + 1 < cLine) (ho : PE X o td) (hi : PE X i ty) (hv : PE X value tv) (hs : swapsWith value (some (.Subscript o i pos')) pos.line X.env = pure false) :
    PS X (.Assign [.Subscript o i pos'] value pos) (sDPut td ty tv) := by
  intro pins s σ H D I h
  refine wpAny_Assign_Subscript (thn (hv pins s σ H _ I h) fun r s1 ⟨v, H1, I1, rv, q1⟩ => thn (ho pins s1 σ H1 _ I1 q1) fun u s2 ⟨x, H2, I2, rx, q2⟩ => thn (hi pins s2 σ H2 _ I2 q2) fun iv s3 ⟨y, H3, I3, ry, a, H4, ex, g, q3⟩ => ?_) hs
  subst ex
  obtain rfl : u = Value.ref a := rx
  exact d_setItem hu I3 g ry rv fun s4 I4 => ⟨σ, H4, I4, q3⟩
end


/-! ### displays -/
theorem dk_empty {P : Program} {w : World} {H : Hp} (h : Heap) (hb : sysModules < h.objs.size) : ObjOk P w H (h.push { cls := .type "dict", data := .dict #[] }) h.objs.size (.dK []) :=
  ⟨Nat.zero_le _, beq_eq_false_iff_ne.mpr (Ne.symm (Nat.ne_of_lt hb)), [], .nil, Heap.DictOf.new h⟩
section
variable {X : Cx} {pos : Pos}
end

/-- the pairs of a display, from the left -/
def tPairs : List (TE × TE) → St → Hp → (List (V × V) → Hp → Prop) → Prop
  | [], _, H, Q => Q [] H
  | (tk, tv) :: r, σ, H, Q => tk σ H fun x H1 => tv σ H1 fun y H2 => tPairs r σ H2 fun ps H3 => Q ((x, y) :: ps) H3
abbrev VV : List (V × V) → List (Value × Value) → Prop := Paired fun p q => RelV p.1 q.1 ∧ RelV p.2 q.2
def PPs (X : Cx) (pos : Pos) (keys : List (Option Expr)) (values : List Expr) (trs : List (TE × TE)) : Prop :=
  ∀ (pins : List (Addr × Obj)) (s : Shared) (σ : St) (H : Hp) (Q : List (V × V) → Hp → Prop), Inv X pins σ H s → tPairs trs σ H Q →
    wpAny (model X.prog X.w) X.A (evalPairs (pairTrees keys values X.env pos)) (fun vs s' => ∃ ps H', Inv X pins σ H' s' ∧ VV ps vs ∧ Q ps H') X.xe s
theorem pps_nil {X : Cx} {pos : Pos} : PPs X pos [] [] [] := fun pins s σ H Q I h => pairTrees_nil_walk ⟨[], H, I, .nil, h⟩
theorem pps_cons {X : Cx} {pos : Pos} {k v : Expr} {ks : List (Option Expr)} {vs : List Expr} {tk tv : TE} {trs : List (TE × TE)} (hk : PE X k tk) (hv : PE X v tv) (hr : PPs X pos ks vs trs) :
    PPs X pos (some k :: ks) (v :: vs) ((tk, tv) :: trs) := fun pins s σ H Q I h =>
  pairTrees_cons_walk (thn (hk pins s σ H _ I h) fun u s1 ⟨x, H1, I1, rx, q1⟩ => thn (hv pins s1 σ H1 _ I1 q1) fun w2 s2 ⟨y, H2, I2, ry, q2⟩ =>
    thn (hr pins s2 σ H2 _ I2 q2) fun ws s3 ⟨ps, H3, I3, rel, q3⟩ => ⟨(x, y) :: ps, H3, I3, .cons ⟨rx, ry⟩ rel, q3⟩)

def mergeK (kvs more : List (Key × V)) : List (Key × V) := more.foldl (fun acc kv => putK acc kv.1 kv.2) kvs
theorem KV.merge : ∀ {more : List (Key × V)} {rs : List (Key × Value)} {kvs : List (Key × V)} {vs : List (Key × Value)}, KV more rs → KV kvs vs → KV (mergeK kvs more) (merged vs rs) := by
  intro more rs kvs vs r
  unfold KV at r
  induction r generalizing kvs vs with
  | nil => intro q; exact q
  | @cons p q ps qs h t ih =>
    intro r0
    have e : KV (putK kvs p.1 p.2) (stored vs q.1 q.2) := by
      have := r0.put p.1 h.2
      rw [← h.1]; exact this
    exact ih e
theorem length_mergeK : ∀ (more kvs : List (Key × V)), (mergeK kvs more).length ≤ kvs.length + more.length
  | [], kvs => by show kvs.length ≤ kvs.length + 0; omega
  | p :: r, kvs => by
    have h1 := length_mergeK r (putK kvs p.1 p.2)
    have h2 := length_putK kvs p.1 p.2
    show (mergeK (putK kvs p.1 p.2) r).length ≤ _
    rw [List.length_cons]; omega
theorem carries_of {P : Program} {w : World} : ∀ {kvs : List (Key × V)} {ws : List (Value × Value)}, VV (kvs.map fun kv => (kV kv.1, kv.2)) ws → ∃ rs, Carries (mixKind P w) ws rs ∧ KV kvs rs
  | [], _, r => by rw [List.map_nil] at r; cases r; exact ⟨[], True.intro, .nil⟩
  | p :: kvs, _, r => by
    rw [List.map_cons] at r
    cases r with
    | @cons a b as bs h t =>
      obtain ⟨rs, c, q⟩ := carries_of (P := P) (w := w) t
      obtain ⟨b1, b2⟩ := b
      exact ⟨(p.1, b2) :: rs, ⟨kV_is h.1, rfl, c⟩, .cons ⟨rfl, h.2⟩ q⟩
/-- {k: v, ..} with keys ints and texts; the new dict stands empty while the pairs are made -/
def tDisp (trs : List (TE × TE)) : TE := fun σ H Q => ∀ p, H p = none → tPairs trs σ (upd H p (.dK [])) fun ps H2 => H2 p = some (.dK []) ∧ ∃ kvs : List (Key × V), ps = kvs.map (fun kv => (kV kv.1, kv.2)) ∧ kvs.length ≤ 15 ∧ Q (.ref p) (upd H2 p (.dK (mergeK [] kvs)))
theorem pe_disp {X : Cx} {pos : Pos} {keys : List (Option Expr)} {values : List Expr} {trs : List (TE × TE)} (h : PPs X pos keys values trs) (hall : keys.all (·.isSome) = true) (hl : keys.length = values.length) (h0 : keys ≠ [])
    (h15 : keys.length ≤ 15) : PE X (.Dict keys values pos) (tDisp trs) := by
  intro pins s σ H Q I q
  have hn := I.hok.fresh (Nat.le_refl s.heap.objs.size)
  have I1 := I.laid (a := s.heap.objs.size) (o := .dK []) (h' := s.heap.push { cls := .type "dict", data := .dict #[] }) (t' := s.toks) (fun _ _ q => Heap.get?_push_of_some _ q) (Nat.le_refl _) (dk_empty s.heap I.big)
  refine wpAny_Dict_walk (knd := mixKind X.prog X.w) hall hl h0 h15 (thn (h pins _ σ _ _ I1 (q _ hn)) fun ws s2 ⟨ps, H2, I2, rel, e, kvs, ep, lk, q2⟩ => ?_)
  subst ep
  obtain ⟨rs, c, rk⟩ := carries_of (P := X.prog) (w := X.w) rel
  obtain ⟨z, hd, vs0, r0, dd⟩ := dk_of I2.hok e
  cases r0
  refine ⟨rs, c, dd, fun h' dd' hs => ⟨.ref s.heap.objs.size, _, ?_, rfl, q2⟩⟩
  have hz : (mergeK [] kvs).length ≤ sizeLine := by
    have h1 := length_mergeK kvs []
    rw [List.length_nil] at h1
    rw [sizeLine_eq]; omega
  have he : ∃ q, h'.get? s.heap.objs.size = some q := let ⟨q, _, _, hq, _⟩ := dd'; ⟨q, hq⟩
  exact d_write I2 (by rw [e]; exact True.intro) hs he (dk_new hz hd (rk.merge .nil) dd')


/-! ### methods -/
structure M2 (X : Cx) (o : Expr) (m : Str) (apos : Pos) (e f : Expr) (cpos : Pos) : Prop where
  base : attributeBase o m X.env (eval o X.env) = eval o X.env
  few : ((backTo cpos (starEach [e, f] X.env)).all (fun x => !x.1) && (backToKw cpos (keywordEach [] X.env)).all (fun x => x.1.isSome)
    && decide (([e, f] : List Expr).length + ([] : List Keyword).length + (if ([] : List Keyword).isEmpty then 0 else 1) < 30)) = true
  line : (apos.endLine == cpos.line) = true
  trees : backTo cpos (starEach [e, f] X.env) = [(false, eval e X.env), (false, eval f X.env)]

/-- a is a dict, whatever its keys -/
def IsD (H : Hp) (a : Addr) : Prop := (∃ kvs, Rd H a (.dK kvs)) ∨ ∃ kvs, Rd H a (.dT kvs)
theorem isD_at {X : Cx} {pins : List (Addr × Obj)} {σ : St} {H : Hp} {s : Shared} {a : Addr} (I : Inv X pins σ H s) (d : IsD H a) :
    s.TypeIs (.ref a) "dict" ∧ (∀ b, Value.ref a = .ref b → ∃ ob, s.heap.get? b = some ob ∧ ob.dict = none) ∧ (a == sysModules) = false := by
  rcases d with ⟨kvs, e⟩ | ⟨kvs, e⟩
  · obtain ⟨_, hd, vs, _, dd⟩ := dk_rd I.hok e
    refine ⟨dd.typeIs, fun b q => ?_, hd⟩
    cases q
    obtain ⟨ob, _, _, h1, h2, _⟩ := dd
    exact ⟨ob, h1, h2.2.1⟩
  · obtain ⟨_, hd, xs, _, dd⟩ := dt_rd I.hok e
    refine ⟨dd.typeIs, fun b q => ?_, hd⟩
    cases q
    obtain ⟨ob, _, _, h1, h2, _⟩ := dd
    exact ⟨ob, h1, h2.2.1⟩

section
variable {X : Cx} {pins : List (Addr × Obj)} {σ : St} {H : Hp} {s : Shared} {a : Addr} {y d : V} {u r : Value} {o : Option V} {A : Around} {E : Value → Shared → Prop}
/-- d.get(y, x) -/
theorem d_get2 {Q : Value → Shared → Prop} (hu : A.units + 1 < cLine) (I : Inv X pins σ H s) (g : DGet H a y o) (ry : RelV y u) (rd : RelV d r) (h : ∀ w' s', Inv X pins σ H s' → RelV (o.getD d) w' → Q w' s') :
    wpAny (model X.prog X.w) A (call (.builtin "dict.get") [.ref a, u, r]) Q E s := by
  rcases g with ⟨kvs, k, e, ey, l⟩ | ⟨kvs, k, b, e, ey, eb, l⟩
  · subst ey
    obtain ⟨z, hd, vs, rel, dd⟩ := dk_rd I.hok e
    refine call_meetsIn PySem.F.slot_dict_get dd.typeIs PySem.F.entry_dict_get (PySem.F.args_dict_get_3 _ _ _) (meets_dict_get_default (mixKind X.prog X.w) a (kV_is ry) hd r) ⟨_, dd.mapOf, h _ _ (I.tok _) ?_⟩
    rw [l]
    exact (rel.val k).getD rd
  · subst ey
    cases (show u = Value.ref b from ry)
    obtain ⟨z, hd, xs, rel, dd⟩ := dt_rd I.hok e
    refine call_meetsIn PySem.F.slot_dict_get dd.typeIs PySem.F.entry_dict_get (PySem.F.args_dict_get_3 _ _ _) (meetsH_dict_get_default (tupleKind (mixKind X.prog X.w)) a b hd r) ⟨tupleKind_room_in1 hu, k, xs, key_of I.hok eb, dd, h _ _ (I.tok _) ?_⟩
    rw [l]
    exact (rel.val k).getD rd
end

def tDGet2 (td ty tx : TE) : TE := fun σ H Q => td σ H fun x H1 => ∃ a, x = .ref a ∧ IsD H1 a ∧ ty σ H1 fun y H2 => tx σ H2 fun z H3 => ∃ o, DGet H3 a y o ∧ Q (o.getD z) H3
section
variable {X : Cx} {o e f : Expr} {apos cpos : Pos} {td ty tx : TE}
theorem pe_dget2 (hu : X.A.units + 1 < cLine) (ho : PE X o td) (he : PE X e ty) (hf : PE X f tx) (m : M2 X o "get" apos e f cpos) : PE X (.Call (.Attribute o "get" apos) [e, f] [] cpos) (tDGet2 td ty tx) := by
  intro pins s σ H Q I h
  refine wpAny_Call_method m.base m.few m.line PySem.F.plainAttrs_dict PySem.F.slot_dict_get PySem.F.type_dict_get (thn (ho pins s σ H _ I h) fun u s1 ⟨x, H1, I1, rx, a, ex, d, q1⟩ => ?_)
  subst ex
  obtain rfl : u = Value.ref a := rx
  obtain ⟨t1, t2, _⟩ := isD_at I1 d
  refine ⟨t1, t2, ?_⟩
  rw [m.trees]
  refine Calls.callWith_builtin rfl (Calls.evalArgs_plain (Calls.spliced_cons (thn (he pins s1 σ H1 _ I1 q1) fun iv s2 ⟨y, H2, I2, ry, q2⟩ =>
    Calls.spliced_cons (thn (hf pins s2 σ H2 _ I2 q2) fun fv s3 ⟨z, H3, I3, rz, ov, g, q3⟩ => Calls.spliced_nil ?_))))
  exact d_get2 hu I3 g ry rz fun w' s4 I4 rw' => ⟨_, H3, I4, rw', q3⟩
end

/-! ### dict(d): a copy -/
section
variable {X : Cx} {pins : List (Addr × Obj)} {σ : St} {H : Hp} {s : Shared} {a : Addr} {kvs : List (Key × V)} {A : Around} {E : Value → Shared → Prop}
end


section
variable {X : Cx} {pins : List (Addr × Obj)} {σ : St} {H : Hp} {s : Shared} {a : Addr} {y : V} {u : Value} {A : Around} {E : Value → Shared → Prop}
end
end L2

namespace Att
open PySem PySem.W PySem.Calls PyProof.Rows

/-! ### the script -/
theorem ints_of_wellAll {P : Params} {h : Heap} : ∀ (ns : List Int) (vs : List Value), WellAll P h vs (ns.map WData.int) → IntsAre vs ns := by
  intro ns
  induction ns with
  | nil =>
    intro vs w
    rw [List.map_nil] at w
    cases w
    exact .nil
  | cons n ns ih =>
    intro vs w
    rw [List.map_cons] at w
    cases w with
    | cons a b =>
      cases a
      exact .cons _ _ (ih _ b)

theorem script_of {l : OpenLaw} {n : Nat} (hn : l.most = some n) {P : Params} {h : Heap} {args : List WData} {vals : List Value}
    (hpre : l.row.toRowW.claim.pre args = true) (hwl : WellAll P h vals args) :
    ∃ a vs ns, vals = [Value.ref a] ∧ args = [WData.list (ns.map WData.int)] ∧ h.get? a = some { cls := .type "list", data := .seq vs.toArray } ∧ IntsAre vs ns ∧ ns.length ≤ n := by
  have hsh : WShape.hasAll [] args [.list .int] = true := (pre_splitW hpre).1
  have hc : l.pre.holds [] { args := args } = true := (pre_splitW hpre).2
  obtain ⟨d, r, rfl, h1, h2⟩ := hasAllW_cons hsh
  obtain rfl := hasAllW_nil h2
  obtain ⟨xs, rfl, h3⟩ := hasW_list h1
  obtain ⟨ns, rfl⟩ := items_int h3
  have hlen : ns.length ≤ n := by
    unfold OpenLaw.pre at hc
    have h4 : (WTm.not (.lt (.lit (.int (n : Int))) (.len (.arg 0)))).holds [] { args := [.list (ns.map .int)] } = true := by
      have h4 := (holds_andW hc).1
      rw [hn] at h4
      exact h4
    have h5 := condW_of h4 (w_not (w_lt w_lit (w_len_list (w_arg rfl))))
    rw [List.length_map] at h5
    refine Nat.le_of_not_lt fun q => ?_
    have q' : (n : Int) < ((ns.length : Nat) : Int) := by omega
    first
      | (rw [decide_eq_true q'] at h5; exact absurd h5 (by decide))
      | (simp at h5; omega)
  cases hwl with
  | cons w1 w2 =>
    cases w2
    cases w1 with
    | list ho hall => exact ⟨_, _, ns, rfl, rfl, ho, ints_of_wellAll ns _ hall, hlen⟩

theorem post_true (l : OpenLaw) (args : List WData) : l.row.toRowW.claim.post args (.bool true) args = true :=
  postW_of (r := l.row.toRowW) (X := (true == true))
    (show WShape.has [] (.bool true) .bool = true by first | rfl | decide | simp [WShape.has, WShape.arms, WShape.armsAll])
    (show (WTm.eq .res (.lit (.bool true))).value [] { args := args, res := some (.bool true), after := args } = some (.bool (true == true)) from w_eq_bool (w_res rfl) w_lit) rfl

/-! ### the attachment: holds_open's last premise (the goal 'hc' behind k_head) from a wpAny of the law's body -/

/-- the same from a codeAny of the CALL (for a layer whose function contracts speak of calls) -/
theorem attach_call {l : OpenLaw} {n : Nat} {q : Program} {loose : List Str} {XP : (Str → Option Value) → Heap → Prop} {YP : World → Heap → Prop} {d : DefRec}
    (hn : l.most = some n) (hdf : d.params.defaults = [])
    (call : ∀ (w : World) (s₀ s₁ : Shared) (mg mb : Str → Option Value) (fa : Addr) (o : Obj) (pm cd doc : Value) (a : Addr) (vs : List Value) (ns : List Int),
      Ground q loose [] XP w s₀ mg mb s₁.heap → YP w s₁.heap →
      s₁.heap.get? fa = some o → o.data = .func (docDef d.name d.params d.body d.scope pm cd doc) → s₁.heap.CodeRec cd d.name → mg d.name = some (.ref fa) →
      s₁.heap.get? a = some { cls := .type "list", data := .seq vs.toArray } → IntsAre vs ns → ns.length ≤ n → s₁.gens = #[] →
      codeAny (model l.prog w) callerA (.call (.ref fa) ⟨[.ref a], []⟩) (fun r s' => r = .ok (.ret (.bool true)) ∧ OldK s₁.heap s'.heap ∧ s'.os = s₁.os ∧ AllBare s'.gens) s₁) :
    WalkO q loose XP YP l.row.toRowW d [] (fun f vs => PySem.call f vs) := by
  intro w s₀ s₁ mg mb G Y fa o pm cd doc dV kV ho hd hcd hD hmg hg args vals as hpre hlay hrd hwl hlo
  obtain rfl : dV = .none := Dflts.none hD hdf
  obtain rfl : kV = .none := Dflts.noKw hD
  obtain ⟨a, vs, ns, rfl, rfl, hobj, hints, hlen⟩ := script_of hn hpre hwl
  refine enter_call (codeAny_mono (call w s₀ s₁ mg mb fa o pm cd doc a vs ns G Y ho (fd_plain hd) hcd hmg hobj hints hlen hg) fun r s' hq => ?_)
  obtain ⟨rfl, h2, h3, h4⟩ := hq
  exact ⟨.inl ⟨.bool true, .bool true, [], rfl, fun _ => rfl, .bool true, post_true l _, fun _ => ⟨List.Pairwise.nil, fun _ hm => (nomatch hm)⟩⟩, h2, h3, h4⟩


/-! ### rules over ANY heap (no ledger) from facts about the written part K: the library's own take a ledger (News) for what they write -/
section
variable {prog : Program} {w : World} {A : Around} {E : Value → Shared → Prop} {s : Shared} {K : Frag}





/-! the whole heap as the ledger: makes every rule that writes through a ledger a rule over any heap -/

end
end Att

namespace L2
open PySem PySem.Spec PyProof.Rows

theorem vals_ints : ∀ {vs : List Value} {ns : List Int}, IntsAre vs ns → Vals (ns.map V.int) vs
  | _, _, .nil => .nil
  | _, _, .cons n t h => .cons ⟨t, rfl⟩ (vals_ints h)

/-- nothing is tracked but the script, known to the object (or it is an object of the module) -/
def Only (H : Hp) : Prop := ∀ b, H b = none ∨ ∃ o xs, H b = some (.frz o (.lst xs))

/-- THE HEAD: the law's promise, at the heap behind the top. F, the promise of the law's def, may use that base is part of the heap (so K.In base, base.Ns mainGlobals mg stand in Mod) -/
theorem law_call {P : Program} {w : World} {K : PySem.W.Frag} {mg mb : Str → Option Value} {CX : CXT} {k : Nat} {fa a : Addr} {fd : FuncData} {x : Str} {sp : Sp} {s₁ : Shared} {vs : List Value} {ns : List Int}
    (KX : K.In s₁.heap) (hns : s₁.heap.Ns mainGlobals mg) (hb : s₁.heap.Ns builtinsNs mb) (hbb : ∀ x : Str, x ≠ "__name__" → mb x = bootBuiltins x) (hlim : s₁.heap.NoLimit) (hg : s₁.gens = #[])
    (ha : s₁.heap.get? a = some { cls := .type "list", data := .seq vs.toArray }) (hi : IntsAre vs ns) (hl : ns.length ≤ sizeLine) (hr : Room k callerA)
    (F : ∀ base : Heap, K.In base → base.Ns mainGlobals mg → FnOk P w K mg base CX k fa fd [x] sp) (hbind : ∀ (s : Shared) (u : Value), BindsTo s fd ⟨[u], []⟩ [(x, u)])
    (hsp : ∀ H : Hp, Only H → SqL K H a (ns.map V.int) → sp [.ref a] H (fun v _ => v = .bl true) fun _ _ _ => False)
    (hCX : ∀ H e s', CX [] H s₁ (fun _ _ _ => False) e s' → False) :
    codeAny (model P w) callerA (.call (.ref fa) ⟨[.ref a], []⟩) (fun r s' => r = .ok (.ret (.bool true)) ∧ OldK s₁.heap s'.heap ∧ s'.os = s₁.os ∧ AllBare s'.gens) s₁ := by
  have rv := vals_ints hi
  have lenV := hi.length
  -- from an abstract heap in which nothing but the script may be tracked
  have core : ∀ H : Hp, Only H → SqL K H a (ns.map V.int) → HOk P w H s₁.heap → (∀ b, H b ≠ none → b = a) → (H a ≠ none → K.lookup a = none) →
      codeAny (model P w) callerA (.call (.ref fa) ⟨[.ref a], []⟩) (fun r s' => r = .ok (.ret (.bool true)) ∧ OldK s₁.heap s'.heap ∧ s'.os = s₁.os ∧ AllBare s'.gens) s₁ := by
    intro H hO hS hok hA hK
    have base_of : ∀ {b : Addr} {o : Obj}, s₁.heap.get? b = some o → H b = none → (hidT s₁.heap H).get? b = some o := fun e n => hidT_get e n
    have noA : ∀ {b : Addr} {o : Obj} {es : Array DictEntry} {ep : Nat}, s₁.heap.get? b = some o → o.data = .dict es ep → H b = none := fun {b o es ep} e d => by
      cases q : H b with
      | none => rfl
      | some u =>
        have e' : b = a := hA b (by rw [q]; simp)
        subst e'
        rw [ha] at e; cases e
        have d' : Data.seq vs.toArray _ = Data.dict es ep := d
        cases d'
    have nsK : ∀ {b : Addr} {m : Str → Option Value}, s₁.heap.Ns b m → (hidT s₁.heap H).Ns b m := fun {b m} ⟨o, es, ep, e, d, r⟩ => ⟨o, es, ep, base_of e (noA e d), d, r⟩
    have hKb : K.In (hidT s₁.heap H) := fun b o e => base_of (KX b o e) (by
      cases q : H b with
      | none => rfl
      | some u =>
        have e' : b = a := hA b (by rw [q]; simp)
        subst e'
        rw [hK (by rw [q]; simp)] at e; cases e)
    have hM : Mod K mg (hidT s₁.heap H) := ⟨hKb, nsK hns, ⟨mb, nsK hb, hbb⟩, let ⟨mc, h1, h2⟩ := hlim; ⟨mc, nsK h1, h2⟩⟩
    have e0 : Env0 P w K mg (hidT s₁.heap H) callerA [] s₁ H := ⟨rfl, hM, fun b o e => of_hidT e, Nat.le_of_eq (hidT_size _ _), trivial, fun b hb => absurd (show b ∈ ([] : List Addr) from hb) (by simp), hok, .of_eq hg⟩
    refine codeAny_mono ((F _ hKb (nsK hns)).run callerA [] s₁ H ⟨[.ref a], []⟩ [.ref a] [.ref a] _ _ hr e0 (hbind s₁ (.ref a)) (.cons rfl .nil) (hsp H hO hS)) fun r s' h => ?_
    cases r with
    | error e => exact (hCX H e s' h).elim
    | ok fl =>
      cases fl with
      | next => exact False.elim h
      | brk => exact False.elim h
      | cont => exact False.elim h
      | ret u =>
        obtain ⟨v, H', os, bare, un, hok', r', q⟩ := h
        have q' : v = .bl true := q
        subst q'
        obtain rfl : u = Value.bool true := r'
        refine ⟨rfl, OldK.of_keep fun b o e => ?_, os, bare⟩
        cases q : H b with
        | none => exact un.keep b o e q (by intro z; exact absurd (show b ∈ ([] : List Addr) from z) (by simp)) (by simp)
        | some u =>
          rcases hO b with z | ⟨ob, xs, z⟩
          · rw [q] at z; cases z
          · have z2 := un.frzs b ob _ z
            obtain ⟨e1, _⟩ := hok b _ z
            obtain ⟨e2, _⟩ := hok' b _ z2
            rw [e] at e1; cases e1
            exact e2
  cases hk : K.lookup a with
  | some o =>
    -- the script is one of the module's own objects
    have e := KX a o hk
    rw [ha] at e
    cases e
    refine core (fun _ => none) (fun _ => .inl rfl) (.inr ⟨_, vs.toArray, _, hk, rfl, rfl, rfl, by rw [List.size_toArray, lenV]; exact hl, by simpa using rv⟩) (fun b u z => by have z' : (none : Option HO) = some u := z; cases z') (fun b z => absurd rfl z) fun z => absurd rfl z
  | none =>
    refine core (fun b => if b = a then some (.frz { cls := .type "list", data := .seq vs.toArray } (.lst (ns.map V.int))) else none) (fun b => ?_) (.inl (.inr ⟨{ cls := .type "list", data := .seq vs.toArray }, if_pos rfl⟩)) (fun b u z => ?_) (fun b z => ?_) fun _ => hk
    · by_cases hb : b = a
      · exact .inr ⟨_, _, if_pos hb⟩
      · exact .inl (if_neg hb)
    · by_cases hb : b = a
      · have z' := (if_pos hb).symm.trans z
        cases z'
        subst hb
        exact ⟨ha, by rw [List.length_map]; exact hl, vs, _, rv, ha⟩
      · have z' := (if_neg hb).symm.trans z
        cases z'
    · by_cases hb : b = a
      · exact hb
      · exact absurd (if_neg hb) z
end L2

namespace L2
open PySem PySem.Spec PyProof.Rows


/-- the goal that k_head leaves (case hc), from the law's promise. F gives the function object fd (K's own) once, then the promise over every base -/
theorem walk_of {l : PySem.W.OpenLaw} {n k : Nat} {q : Program} {loose : List Str} {XP : (Str → Option Value) → Heap → Prop} {YP : World → Heap → Prop} {d : DefRec} {K : Params → PySem.W.Frag} {CX : World → CXT} {sp : World → Sp} {x : Str}
    (hn : l.most = some n) (hn2 : n ≤ sizeLine) (hdf : d.params.defaults = []) (hr : Room k callerA)
    (hY : ∀ (w : World) (h : Heap), YP w h → (K w.params).In h)
    (F : ∀ (w : World) (mg : Str → Option Value) (fa : Addr) (h : Heap), (K w.params).In h → h.Ns mainGlobals mg → mg d.name = some (.ref fa) →
      ∃ fd : FuncData, (∀ (s : Shared) (u : Value), BindsTo s fd ⟨[u], []⟩ [(x, u)]) ∧
        ∀ base : Heap, (K w.params).In base → base.Ns mainGlobals mg → FnOk l.prog w (K w.params) mg base (CX w) k fa fd [x] (sp w))
    (hsp : ∀ (w : World) (H : Hp) (a : Addr) (ns : List Int), ns.length ≤ n → Only H → SqL (K w.params) H a (ns.map V.int) → sp w [.ref a] H (fun v _ => v = .bl true) fun _ _ _ => False)
    (hCX : ∀ (w : World) (H : Hp) (s : Shared) (e : Value) (s' : Shared), CX w [] H s (fun _ _ _ => False) e s' → False) :
    PySem.W.WalkO q loose XP YP l.row.toRowW d [] (fun f vs => PySem.call f vs) := by
  refine Att.attach_call hn hdf fun w s₀ s₁ mg mb fa o pm cd doc a vs ns G Y ho hd hcd hmg hobj hints hlen hg => ?_
  have KX := hY w _ Y
  obtain ⟨fd, hb, hF⟩ := F w mg fa _ KX G.T.g hmg
  exact law_call KX G.T.g G.T.b G.T.builtins G.T.nolimit hg hobj hints (Nat.le_trans hlen hn2) hr hF hb (fun H hO hS => hsp w H a ns hlen hO hS) fun H e s' => hCX w H s₁ e s'
end L2

/- THE LAST THEOREM (shape; LID, My.* are yours):
   My.Adr: a structure of the addresses that your layer names (classes, functions); My.Txt K t: a structure (Prop) of the equations over K;
   My.txt_mk : {K} {implicit addresses ..} (e1 : nsIn K mainGlobals "law" = some (some (.ref f))) (e2 : K.lookup f = some ⟨oc, od, .func (fnOf "law" "law" params body scope dV kV doc pm an cdv ct), sl⟩) (e3 : codeIn K cdv "law" = true) .. : ∃ t, My.Txt K t

set_option maxRecDepth 100000 in
set_option maxHeartbeats 0 in
theorem PySem.Challenge.cw_LID_holds : PySem.Challenge.rw_LID.Holds := by
  w_on; o_law; k_head; (case hw => w_witness2)
  k_fill
  refine L2.walk_of (l := PySem.Challenge.rw_LID) (n := 63) (k := 40) (x := "script") (CX := fun w => ..) (sp := fun _ => My.sp_law) rfl (by decide) rfl ⟨rfl, by decide, by decide⟩ (fun w h Y => PySem.W.kIn_of Y) ?F ?S ?C
  case F =>
    intro w mg fa h KX G hmg
    have T : ∃ t, My.Txt (L2.KOf KX) t := by
      dsimp only [L2.KOf]                          -- K must stand as «<heap const> w.params» for k_is
      refine' My.txt_mk ?e1 ?e2 ?e3 ..
      (case e1 => PySem.W.k_is)                    -- in the order: a name -> its address -> its object -> its parts
      (case e2 => PySem.W.k_is)
      ..
    obtain ⟨t, T⟩ := T
    have e0 := hmg.symm.trans (PySem.W.mg_of KX G T.law)
    cases e0                                       -- fa is the law's own address
    exact ⟨_, fun s u => .of_eq rfl, fun base kb nb => My.law_fn T kb nb⟩     -- if «.of_eq rfl» comes too early: refine' ⟨_, ?b, fun base kb nb => My.law_fn T kb nb⟩; exact fun s u => .of_eq rfl
  case S => exact fun w H a ns hl hO hS => ..
  case C => exact ..
(the tactic k_is has no namespace: write k_is) -/

/-! SHORT WORDS over the layer: a def of the text, its body, what a loop and a test want. -/
namespace L2
open PySem PySem.Spec PyProof.Rows

/-! ### the text by places -/

/-! ### no exception leaves a def -/
abbrev CX0 : CXT := fun _ _ _ _ _ _ => False
abbrev E0 : XK := fun _ _ _ => False
theorem pass0 {X : Cx} : Passes CX0 X E0 := fun _ _ _ _ _ _ _ h => h.elim

/-! ### a def (or method) of the text as it stands behind the top -/
structure Fun (K : PySem.W.Frag) (x qual : Str) (st : Stmt) (f : Addr) (fd : FuncData) : Prop where
  ex : ∃ (oc : Value) (od : Option Addr) (kV doc pm : Value) (an : Option Addr) (cdv ct : Value) (osl : Array (Option Value)),
    fd = PySem.W.fnOf x qual (defArgs st) (defBody st) (defScope st) .none kV doc pm an cdv ct ∧ K.lookup f = some ⟨oc, od, .func fd, osl⟩ ∧ PySem.W.codeIn K cdv qual = true
  kp : PySem.W.keepIn K (.ref f) = true
section
variable {P : Program} {w : World} {K : PySem.W.Frag} {mg : Str → Option Value} {base : Heap}
/-- THE RULE for a def: its body as a term of rules, and the reading of that term -/
theorem Fun.ok {x qual : Str} {st : Stmt} {f : Addr} {fd : FuncData} {N ps : List Str} {k : Nat} {sp : Sp} (F : Fun K x qual st f fd) (S : FnScope N ps (defScope st)) (len : ∀ vs H Q E, sp vs H Q E → vs.length = ps.length)
    (hbody : ∀ (cdv : Value) (A : Around) (outer : List Env) (s : Shared) (H : Hp) (vs : List V) (Q : VK) (E : XK), Room k (A.deeper (envOfC qual (defScope st) s.heap.objs.size f cdv)) → sp vs H Q E →
      ∃ t, PSs (cxOf CX0 P w K mg base N qual (defScope st) f cdv A outer s H E).nox (defBody st) t ∧ t { nx := fun _ H' => Q .non H', rt := Q } (start N vs) H) : FnOk P w K mg base CX0 (k + 1) f fd ps sp := by
  obtain ⟨oc, od, kV, doc, pm, an, cdv, ct, osl, rfl, lk, hcd⟩ := F.ex
  refine fn_of lk hcd S len fun A outer s H vs Q E hr hsp => ?_
  obtain ⟨t, h, q⟩ := hbody cdv A outer s H vs Q E hr hsp
  exact ⟨t, h.nox, q⟩
/-- how its arguments bind (no defaults): h is «fun _ _ _ _ _ _ us hl => match us, hl with | [_, _], _ => rfl», one _ a parameter -/
theorem Fun.binds {x qual : Str} {st : Stmt} {f : Addr} {fd : FuncData} {ps : List Str} (F : Fun K x qual st f fd)
    (h : ∀ (kV doc pm : Value) (an : Option Addr) (cdv ct : Value) (us : List Value), us.length = ps.length → bindArgs (PySem.W.fnOf x qual (defArgs st) (defBody st) (defScope st) .none kV doc pm an cdv ct) ⟨us, []⟩ = pure (ps.zip us)) : Binds K fd ps [] := by
  obtain ⟨oc, od, kV, doc, pm, an, cdv, ct, osl, rfl, lk, hcd⟩ := F.ex
  exact .all (h kV doc pm an cdv ct)
theorem fun_mk {x qual : Str} {st : Stmt} {f : Addr} {oc : Value} {od an : Option Addr} {osl : Array (Option Value)} {kV doc pm cdv ct : Value} (l : K.lookup f = some ⟨oc, od, .func (PySem.W.fnOf x qual (defArgs st) (defBody st) (defScope st) .none kV doc pm an cdv ct), osl⟩)
    (c : PySem.W.codeIn K cdv qual = true) (k : PySem.W.keepIn K (.ref f) = true) : Fun K x qual st f (PySem.W.fnOf x qual (defArgs st) (defBody st) (defScope st) .none kV doc pm an cdv ct) := ⟨⟨oc, od, kV, doc, pm, an, cdv, ct, osl, rfl, l, c⟩, k⟩
end
theorem hu_of {A : Around} {k : Nat} (hr : Room k A) : A.units + 1 < cLine := Nat.lt_of_le_of_lt (Nat.add_le_add_left (by decide : 1 ≤ 64) _) hr.units

/-! ### expressions in short: the name that stands in the i-th slot -/
section
variable {X : Cx}
theorem pv (i : Nat) {x : Str} {pos : Pos} (hN : X.N[i]? = some x := by rfl) (hv : Vis X.env.scope x := by first | exact Or.inl rfl | exact Or.inr (Or.inl rfl) | exact Or.inr (Or.inr rfl)) (hd : (x == ("__debug__" : Str)) = false := by decide)
    (hcd : (x == ("__classdict__" : Str)) = false := by decide) : PE X (.Name x pos) (tVar i) := pe_var hN hv hd hcd
end

/-! ### tests -/
theorem iteF {A B : Prop} (h : B) : if false = true then A else B := by
  rw [if_neg Bool.false_ne_true]
  exact h
theorem iteT {A B : Prop} (h : A) : if true = true then A else B := by
  rw [if_pos rfl]
  exact h
theorem ite2 {c A B : Prop} [Decidable c] (h1 : c → A) (h2 : ¬ c → B) : if c then A else B := by
  by_cases h : c
  · rw [if_pos h]
    exact h1 h
  · rw [if_neg h]
    exact h2 h

/-! ### heaps -/
/-- all that was tracked is as it was -/
def Same (H H' : Hp) : Prop := ∀ b o, H b = some o → H' b = some o
theorem Same.refl (H : Hp) : Same H H := fun _ _ h => h
theorem Same.trans {H H1 H2 : Hp} (a : Same H H1) (b : Same H1 H2) : Same H H2 := fun c o h => b c o (a c o h)
theorem Same.seq {K : PySem.W.Frag} {H H' : Hp} {a : Addr} {xs : List V} (e : Same H H') (h : SqL K H a xs) : SqL K H' a xs := by
  rcases h with (h | ⟨o, h⟩) | h
  · exact .inl (.inl (e _ _ h))
  · exact .inl (.inr ⟨o, e _ _ h⟩)
  · exact .inr h

end L2

namespace L2
open PySem PySem.Spec PyProof.Rows
section
variable {X : Cx}
end
/-! ### a dict's pairs: keys that differ -/
section
variable {κ : Type} [DecidableEq κ]
end
end L2


set_option Elab.async false
set_option linter.all false
set_option maxRecDepth 100000
set_option maxHeartbeats 4000000
namespace L2
open PySem PySem.Spec PyProof.Rows

/-! ### a list comprehension of one clause -/
section
variable {prog : Program} {w : World} {A : Around} {E : Value → Shared → Prop} {R : Result → Shared → Prop} {s : Shared}
theorem compLoop_gen {elt target iter : Expr} {ifs : List Expr} {scope : Scope} {pos : Pos} {it acc : Value} {env : Env} (I : Nat → Shared → Prop)
    (turn : ∀ n s, I n s → wpAny (model prog w) A (pyNext it) (fun r s1 => match r with
      | none => R (.ok .next) s1
      | some v => wpAny (model prog w) A (letOwnedTupleGo target it v) (fun _ s1' => wpAny (model prog w) A (assign target env v) (fun _ s2 =>
          wpAny (model prog w) A (forIn ifs true fun c r => if r = true then do let ok ← isTrue c env (eval c env); pure (ForInStep.yield ok) else pure (ForInStep.yield r)) (fun ok s3 =>
            if ok = true then wpAny (model prog w) A (eval elt env) (fun x s4 =>
              wpAny (model prog w) A (call (.builtin "list.append") [acc, x]) (fun _ s5 => ∃ m, m < n ∧ I m s5) (fun _ _ => False) s4) (fun _ _ => False) s3
            else ∃ m, m < n ∧ I m s3) (fun _ _ => False) s2) (fun _ _ => False) s1') (fun _ _ => False) s1) (fun _ _ => False) s)
    (n : Nat) (h : I n s) :
    codeAny (model prog w) A (.compLoop (.ListComp elt [⟨target, iter, ifs, 0⟩] scope pos) 0 it acc env) R s := by
  refine codeAny_loop rfl I (fun n s hI => ?_) n h
  show wpAny _ A ((compTurn (.ListComp elt [⟨target, iter, ifs, 0⟩] scope pos) 0 it acc env).onRaise (fun x => do noteFrame x env; theTreesLotGoes x)) _ _ s
  refine wpAny_noted ?_
  rw [compTurn_list]
  refine wpAny_bind (wpAny_standAt (wpAny_bind (wpAny_mono (turn n s hI) (fun r s₁ h₁ => ?_) fun _ _ h' => h'.elim)))
  cases r with
  | none => exact wpAny_pure h₁
  | some v =>
    refine wpAny_bind (wpAny_mono h₁ (fun _ s1' h1' => ?_) fun _ _ h' => h'.elim)
    refine wpAny_bind (wpAny_mono h1' (fun _ s₂ h₂ => wpAny_bind (wpAny_mono h₂ (fun ok s₃ h₃ => ?_) fun _ _ h' => h'.elim)) fun _ _ h' => h'.elim)
    cases ok with
    | false => exact wpAny_pure ⟨rfl, h₃⟩
    | true =>
      exact wpAny_bind (wpAny_bind (wpAny_mono h₃ (fun x s₄ h₄ => wpAny_bind (wpAny_mono h₄ (fun _ s₅ h₅ => wpAny_pure (wpAny_pure ⟨rfl, h₅⟩)) fun _ _ h' => h'.elim)) fun _ _ h' => h'.elim))
end

theorem closure_of {env : Env} : ∀ (names : List (Str × NameKind)) (cs : List (Str × Addr)), (∀ n, (n, NameKind.free) ∈ names → ∃ c, env.cells.lookup n = some c) →
    ∃ cl, (forIn names cs fun (x : Str × NameKind) (r : List (Str × Addr)) => match x with
      | (name, kind) => if (kind == NameKind.free) = true then do let c ← cellOf env name; pure (ForInStep.yield ((name, c) :: r)) else pure (ForInStep.yield r) : Sem (List (Str × Addr))) = pure cl ∧
      (∀ p ∈ cl, p ∈ cs ∨ env.cells.lookup p.1 = some p.2) ∧ (∀ p ∈ cs, p ∈ cl) ∧ (∀ n, (n, NameKind.free) ∈ names → ∃ c, (n, c) ∈ cl)
  | [], cs, _ => ⟨cs, by simp, fun p hp => .inl hp, fun p hp => hp, fun n hn => by cases hn⟩
  | (n, k) :: r, cs, h => by
    by_cases hk : (k == NameKind.free) = true
    · have hk' : k = NameKind.free := eq_of_beq hk
      subst hk'
      obtain ⟨c, hc⟩ := h n (List.mem_cons_self)
      obtain ⟨cl, e, h1, h2, h3⟩ := closure_of r ((n, c) :: cs) fun m hm => h m (List.mem_cons_of_mem _ hm)
      refine ⟨cl, ?_, fun p hp => ?_, fun p hp => h2 p (List.mem_cons_of_mem _ hp), fun m hm => ?_⟩
      · rw [List.forIn_cons]
        simp only [hk, if_true]
        unfold cellOf
        rw [hc]
        exact e
      · rcases h1 p hp with q | q
        · rcases List.mem_cons.mp q with q | q
          · subst q; exact .inr hc
          · exact .inl q
        · exact .inr q
      · rcases List.mem_cons.mp hm with q | q
        · cases q; exact ⟨c, h2 _ List.mem_cons_self⟩
        · exact h3 m q
    · obtain ⟨cl, e, h1, h2, h3⟩ := closure_of r cs fun m hm => h m (List.mem_cons_of_mem _ hm)
      refine ⟨cl, ?_, h1, h2, fun m hm => ?_⟩
      · rw [List.forIn_cons]
        simp only [hk]
        exact e
      · rcases List.mem_cons.mp hm with q | q
        · cases q; exact absurd rfl hk
        · exact h3 m q
theorem lookup_mem {κ : Type} [BEq κ] [LawfulBEq κ] {β : Type} : ∀ {l : List (κ × β)} {x : κ} {c : β}, l.lookup x = some c → (x, c) ∈ l
  | [], _, _, h => by simp at h
  | (n, k) :: r, x, c, h => by
    cases hx : x == n with
    | true =>
      simp only [List.lookup_cons, hx] at h
      cases h
      have e := eq_of_beq hx
      subst e
      exact List.mem_cons_self
    | false =>
      simp only [List.lookup_cons, hx] at h
      exact List.mem_cons_of_mem _ (lookup_mem h)
theorem mem_lookup {κ : Type} [BEq κ] [LawfulBEq κ] {β : Type} : ∀ {l : List (κ × β)} {x : κ} {c : β}, (x, c) ∈ l → ∃ c', l.lookup x = some c'
  | (n, k) :: r, x, c, h => by
    cases hx : x == n with
    | true => exact ⟨k, by simp only [List.lookup_cons, hx]⟩
    | false =>
      rcases List.mem_cons.mp h with q | q
      · cases q; simp at hx
      · obtain ⟨c', e⟩ := mem_lookup q
        exact ⟨c', by simp only [List.lookup_cons, hx]; exact e⟩
/-- the closure that a block takes along -/
theorem closure_ok {scope : Scope} {env : Env} (h : ∀ n, (n, NameKind.free) ∈ scope.names → ∃ c, env.cells.lookup n = some c) :
    ∃ cl, closureFor scope env = pure cl ∧ (∀ x c, cl.lookup x = some c → env.cells.lookup x = some c) ∧ ∀ n, (n, NameKind.free) ∈ scope.names → ∃ c, cl.lookup n = some c := by
  obtain ⟨cl, e, h1, _, h3⟩ := closure_of scope.names [] h
  refine ⟨cl, ?_, fun x c hx => ?_, fun n hn => ?_⟩
  · have e2 : closureFor scope env = ((forIn scope.names ([] : List (Str × Addr)) fun (x : Str × NameKind) (r : List (Str × Addr)) => match x with
          | (name, kind) => if (kind == NameKind.free) = true then do let c ← cellOf env name; pure (ForInStep.yield ((name, c) :: r)) else pure (ForInStep.yield r) : Sem (List (Str × Addr))) >>= fun r => pure r) := rfl
    rw [e2, e]
    rfl
  · rcases h1 _ (lookup_mem hx) with q | q
    · cases q
    · exact q
  · obtain ⟨c, hc⟩ := h3 n hn
    exact mem_lookup hc

/-- the context of a comprehension's block: N' its names, ex its iterator's records and its list -/
def compCx (X : Cx) (N' : List Str) (scope : Scope) (cl : List (Str × Addr)) (C : Addr) (ex : List Addr) (s0 : Shared) (H0 : Hp) : Cx :=
  { X with N := N', s₀ := s0, H₀ := H0, env := compEnvC scope cl C X.env, outer := X.stack, stack := X.stack, ex := ex, fn := fun _ => false, pn := [], xe := fun _ _ => False }
end L2

set_option Elab.async false
set_option linter.all false
set_option maxRecDepth 100000
set_option maxHeartbeats 4000000
namespace L2
open PySem PySem.Spec PyProof.Rows
section
variable {X : Cx} {pins : List (Addr × Obj)} {σ : St} {H : Hp} {s : Shared}
/-- an object of ours, not tracked so far, is tracked from here on -/
theorem Inv.track {a : Addr} {o : HO} (I : Inv X pins σ H s) (f : FpOk X pins H a) (new : ObjOk X.prog X.w (upd H a o) s.heap a o) : Inv X pins σ (upd H a o) s := by
  obtain ⟨f0, f1, f2, f3, f4, f5⟩ := f
  have ne : ∀ b u, H b = some u → b ≠ a := fun b u e => ne_of_none e f0
  refine ⟨I.ok, I.os, I.bare, ⟨I.base.keep, I.base.slot, fun b ob e n hx => ?_, I.base.there, fun b xs e => ?_, fun b ob u e => ?_, fun b ps e => ?_⟩, I.loc, I.cell, ?_, fun x c e => ?_, fun p hp => ?_, fun b u e => ?_, I.len⟩
  · have hb : b ≠ a := by
      rintro rfl
      rcases f3 with z | z
      · exact hx z
      · exact absurd (Nat.lt_of_lt_of_le (Heap.lt_size e) z) (Nat.lt_irrefl _)
    rw [upd_ne hb]
    exact I.base.free b ob e n hx
  · have q := I.base.tups b xs e
    rw [upd_ne (ne _ _ q)]; exact q
  · have q := I.base.frzs b ob u e
    rw [upd_ne (ne _ _ q)]; exact q
  · obtain ⟨more, q⟩ := I.base.tbls b ps e
    exact ⟨more, by rw [upd_ne (ne _ _ q)]; exact q⟩
  · rw [upd_ne (Ne.symm f1)]; exact I.free
  · rw [upd_ne (f4 x c e)]; exact I.freeC x c e
  · obtain ⟨e, n, ne', nf, d⟩ := I.pin p hp
    exact ⟨e, by rw [upd_ne (f5 p hp)]; exact n, ne', nf, d⟩
  · by_cases hb : b = a
    · subst hb
      rw [upd_same] at e; cases e
      exact new
    · rw [upd_ne hb] at e
      exact (I.hok b u e).stay (fun c v _ q => q) (fun c q => by rw [upd_ne (ne _ _ q)]; exact q) fun c xs q => by rw [upd_ne (ne _ _ q)]; exact q
end

/-- the tests of a clause -/
def PTs (X : Cx) (ifs : List Expr) (t : TT) : Prop :=
  ∀ (pins : List (Addr × Obj)) (s : Shared) (σ : St) (H : Hp) (Q : Bool → Hp → Prop), Inv X pins σ H s → t σ H Q →
    wpAny (model X.prog X.w) X.A (forIn ifs true fun c r => if r = true then do let ok ← isTrue c X.env (eval c X.env); pure (ForInStep.yield ok) else pure (ForInStep.yield r)) (TP X pins σ Q) X.xe s
def tNoTest : TT := fun _ H Q => Q true H
theorem pts_nil {X : Cx} : PTs X [] tNoTest := fun _ _ _ H _ I h => wpAny_tests_nil ⟨H, I, h⟩
theorem pts_one {X : Cx} {c : Expr} {t : TT} (h : PT X c t) : PTs X [c] t := fun pins s σ H Q I q => wpAny_tests_one (h pins s σ H Q I q)

/-- slot i of the block is slot j of the body (some j), or the block's own (none) -/
def liftSt (src : List (Option Nat)) (σ : St) : St := src.map fun o => match o with | some j => (σ[j]?).getD none | none => none
def tComp (src : List (Option Nat)) (wi : TI) (g : TG) (tt : TT) (te : TE) : TE := fun σ H Q => wi σ H fun J H1 => ∃ W : Nat → Nat → List V → St → Hp → Prop, (∃ m, W 0 m [] (liftSt src σ) H1) ∧ ∀ i m ys σc H, W i m ys σc H →
  (J.stop i H ∧ ∀ l, H l = none → Q (.ref l) (upd H l (.lst ys))) ∨
  (J.go i H ∧ ys.length < sizeLine ∧ ∀ x H', J.yld i H x H' → g x σc H' fun σ2 H2 => tt σ2 H2 fun b H3 =>
    if b = true then te σ2 H3 fun v H4 => ∃ m', m' < m ∧ W (i + 1) m' (ys ++ [v]) σ2 H4 else ∃ m', m' < m ∧ W (i + 1) m' ys σ2 H3)

section
variable {X : Cx} {elt tg iter : Expr} {ifs : List Expr} {scope : Scope} {pos : Pos} {N' : List Str} {src : List (Option Nat)} {wi : TI} {g : TG} {tt : TT} {te : TE}

theorem relabel_free {env : Env} : ∀ {names : List (Str × NameKind)} {x : Str} {k : NameKind}, (names.map fun (n, k) => if (k == NameKind.free && env.scope.kind == .function && env.kindOf n == some .cell) then (n, NameKind.cell) else (n, k)).lookup x = some k →
    (k = .cell ∨ k = .free) → (∀ y ∈ names, y.2 ≠ .cell) → (x, NameKind.free) ∈ names
  | [], _, _, h, _, _ => by simp at h
  | (n, k') :: r, x, k, h, hk, hc => by
    have ih := @relabel_free env r x k
    have h' : List.lookup x ((if (k' == NameKind.free && env.scope.kind == .function && env.kindOf n == some .cell) = true then (n, NameKind.cell) else (n, k')) :: (r.map fun (n, k) => if (k == NameKind.free && env.scope.kind == .function && env.kindOf n == some .cell) then (n, NameKind.cell) else (n, k))) = some k := h
    by_cases hx : x = n
    · subst hx
      by_cases hf : k' = .free
      · subst hf; exact List.mem_cons_self
      · have e : (k' == NameKind.free) = false := by simpa using hf
        rw [e] at h'
        simp only [Bool.false_and, Bool.false_eq_true, if_false, List.lookup_cons, beq_self_eq_true] at h'
        have e' : k' = k := Option.some.inj h'
        rcases hk with q | q
        · exact absurd (e'.trans q) (hc (x, k') List.mem_cons_self)
        · exact absurd (e'.trans q) hf
    · have e : (x == n) = false := by simpa using hx
      have h2 : (r.map fun (n, k) => if (k == NameKind.free && env.scope.kind == .function && env.kindOf n == some .cell) then (n, NameKind.cell) else (n, k)).lookup x = some k := by
        by_cases hc2 : (k' == NameKind.free && env.scope.kind == .function && env.kindOf n == some .cell) = true
        · rw [if_pos hc2] at h'; simp only [List.lookup_cons, e] at h'; exact h'
        · rw [if_neg hc2] at h'; simp only [List.lookup_cons, e] at h'; exact h'
      exact List.mem_cons_of_mem _ (ih h2 hk fun y hy => hc y (List.mem_cons_of_mem _ hy))

/-- what a comprehension's scope must be (each by rfl or decide) -/
structure CompScope (X : Cx) (scope : Scope) (N' : List Str) (src : List (Option Nat)) : Prop where
  kind : scope.kind = .function
  cell : ∀ y ∈ scope.names, y.2 ≠ .cell
  names : ∀ x ∈ scope.names, x.2 = .local → scope.names.lookup x.1 = some .local
  fr : ∀ n, (n, NameKind.free) ∈ scope.names → X.env.kindOf n = some .cell ∨ X.env.kindOf n = some .free
  excl : ∀ n, (n, NameKind.free) ∈ scope.names → ¬ scope.names.lookup n = some .local
  len : N'.length = src.length
  src : ∀ (i j : Nat), src[i]? = some (some j) → ∃ x : Str, N'[i]? = some x ∧ X.N[j]? = some x ∧ (x, NameKind.free) ∈ scope.names

/-- the block's own context, as it is entered -/
theorem comp_enter {cl : List (Str × Addr)} {C D : Addr} {fp : List Addr} {pins : List (Addr × Obj)} {σ : St} {H : Hp} {s3 : Shared} {h1 : Heap} {tk : Nat} (S : CompScope X scope N' src) (I3 : Inv X pins σ H s3)
    (hcl1 : ∀ x c, cl.lookup x = some c → X.env.cells.lookup x = some c) (hcl2 : ∀ n, (n, NameKind.free) ∈ scope.names → ∃ c, cl.lookup n = some c) (hC : C = s3.heap.objs.size)
    (hf : ∀ b ∈ D :: fp, FpOk X pins H b) (hlt : ∀ b ∈ D :: fp, b < s3.heap.objs.size) (hns : h1.Ns C (fun _ => none)) (hk : ∀ b o, s3.heap.get? b = some o → h1.get? b = some o) :
    Inv (compCx X N' scope cl C (D :: fp) s3 H) [] (liftSt src σ) H { s3 with heap := h1, toks := tk } := by
  have neC : ∀ b o, s3.heap.get? b = some o → b ≠ C := fun b o e => by rw [hC]; exact Nat.ne_of_lt (Heap.lt_size e)
  have HC : H C = none := I3.hok.fresh (Nat.le_of_eq hC.symm)
  have ok : (compCx X N' scope cl C (D :: fp) s3 H).Ok := by
    refine ⟨I3.ok.mod, S.kind, I3.ok.glob, I3.ok.blt, Nat.le_of_eq hC.symm, fun x y c e1 e2 => I3.ok.inj x y c (hcl1 x c e1) (hcl1 y c e2), fun x hx => ?_, fun x c z => absurd z Bool.false_ne_true, I3.ok.hd, I3.ok.frames, .inl rfl, fun b hb => ⟨?_, fun x c e => ?_⟩, I3.bs, Nat.le_trans I3.ok.bsz I3.sz, fun b o e hb => ?_, fun b hb => ?_, I3.stack, I3.stkFree⟩
    · refine hcl2 x ?_
      rcases hx with z | z
      · exact relabel_free (env := X.env) (show ((scope.names.map _).lookup x) = some .cell from z) (.inl rfl) S.cell
      · exact relabel_free (env := X.env) (show ((scope.names.map _).lookup x) = some .free from z) (.inr rfl) S.cell
    · show b ≠ C
      rw [hC]; exact Nat.ne_of_lt (hlt b hb)
    · exact (hf b hb).2.2.2.2.1 x c (hcl1 x c e)
    · rcases (hf b hb).2.2.2.1 with z | z
      · exact I3.ok.noex b o e z
      · exact absurd (Nat.lt_of_lt_of_le (Nat.lt_of_lt_of_le (Heap.lt_size e) I3.ok.bsz) z) (Nat.lt_irrefl _)
    · intro z
      have z' : b ∈ frs X.stack := z
      rcases List.mem_cons.mp (I3.stkSub b z') with q | q
      · exact (hf b hb).2.1 q
      · exact (hf b hb).2.2.1 q
  refine ⟨ok, rfl, I3.bare, Un.kept hk, ⟨_, hns, fun i x v e1 e2 e3 => ?_⟩, fun x c e => ?_, HC, fun x c e => I3.freeC x c (hcl1 x c e), fun p hp => absurd (show p ∈ ([] : List (Addr × Obj)) from hp) (by simp), I3.hok.kept hk, ?_⟩
  · have e2' : (src.map fun o => match o with | some j => (σ[j]?).getD none | none => none)[i]? = some (some v) := e2
    rw [List.getElem?_map] at e2'
    cases q : src[i]? with
    | none => rw [q] at e2'; cases e2'
    | some o =>
      rw [q] at e2'
      cases o with
      | none => cases e2'
      | some j =>
        obtain ⟨x', hx1, hx2, hx3⟩ := S.src i j q
        have ex : x' = x := Option.some.inj (hx1.symm.trans e1)
        subst ex
        have ev : σ[j]? = some (some v) := by
          cases q2 : σ[j]? with
          | none => simp [q2] at e2'
          | some o => simp [q2] at e2'; rw [e2']
        obtain ⟨m, hn, hl⟩ := I3.loc
        have hkind := S.fr x' hx3
        obtain ⟨u, r, l⟩ := hl j x' v hx2 ev (by
          rcases hkind with z | z
          · exact .inr (.inl z)
          · exact .inr (.inr z))
        refine ⟨u, r, .inr ⟨?_, ?_⟩⟩
        · rcases e3 with z | z | z
          · exfalso
            have z' : (scope.names.map fun (n, k) => if (k == NameKind.free && X.env.scope.kind == .function && X.env.kindOf n == some .cell) then (n, NameKind.cell) else (n, k)).lookup x' = some .local := z
            rcases l with ⟨k, _⟩ | ⟨_, c, hc, hcell⟩
            · rcases hkind with y | y <;> (rw [y] at k; cases k)
            · exact (show False by
                have := S.names
                have hm := hx3
                clear e2 e2'
                have key : ∀ (names : List (Str × NameKind)), (names.map fun (n, k) => if (k == NameKind.free && X.env.scope.kind == .function && X.env.kindOf n == some .cell) then (n, NameKind.cell) else (n, k)).lookup x' = some .local →
                    names.lookup x' = some .local := by
                  intro names
                  induction names with
                  | nil => intro h; simp at h
                  | cons y r ih =>
                    obtain ⟨n, k⟩ := y
                    intro h
                    have h' : List.lookup x' ((if (k == NameKind.free && X.env.scope.kind == .function && X.env.kindOf n == some .cell) = true then (n, NameKind.cell) else (n, k)) :: (r.map fun (n, k) => if (k == NameKind.free && X.env.scope.kind == .function && X.env.kindOf n == some .cell) then (n, NameKind.cell) else (n, k))) = some .local := h
                    by_cases hx : (x' == n) = true
                    · by_cases hc2 : (k == NameKind.free && X.env.scope.kind == .function && X.env.kindOf n == some .cell) = true
                      · rw [if_pos hc2] at h'; simp only [List.lookup_cons, hx] at h'; cases h'
                      · rw [if_neg hc2] at h'; simp only [List.lookup_cons, hx] at h' ⊢; exact h'
                    · have hx' : (x' == n) = false := by simpa using hx
                      by_cases hc2 : (k == NameKind.free && X.env.scope.kind == .function && X.env.kindOf n == some .cell) = true
                      · rw [if_pos hc2] at h'; simp only [List.lookup_cons, hx'] at h' ⊢; exact ih h'
                      · rw [if_neg hc2] at h'; simp only [List.lookup_cons, hx'] at h' ⊢; exact ih h'
                have z2 := key _ z'
                obtain ⟨c2, hc2⟩ := hcl2 x' hx3
                exact S.excl x' hx3 z2)
          · exact .inl z
          · exact .inr z
        · rcases l with ⟨k, _⟩ | ⟨_, c, hc, hcell⟩
          · rcases hkind with y | y <;> (rw [y] at k; cases k)
          · obtain ⟨c2, hc2⟩ := hcl2 x' hx3
            have e := hcl1 x' c2 hc2
            rw [hc] at e; cases e
            obtain ⟨oc, ho, hd⟩ := hcell
            exact ⟨c, hc2, oc, hk c oc ho, hd⟩
  · obtain ⟨v, oc, ho, hd⟩ := I3.cell x c (hcl1 x c e)
    exact ⟨v, oc, hk c oc ho, hd⟩
  · show (src.map _).length = N'.length
    rw [List.length_map, S.len]

/-- what stands behind the block: the list is tracked, the block's names are let go -/
theorem comp_leave {cl : List (Str × Addr)} {C D : Addr} {fp : List Addr} {pins pinsY : List (Addr × Obj)} {σ σc : St} {H H' : Hp} {s3 s4 : Shared} {h' : Heap} {ys : List V} {us : List Value} (I3 : Inv X pins σ H s3) (hC : C = s3.heap.objs.size)
    (hf : ∀ b ∈ D :: fp, FpOk X pins H b) (hlt : ∀ b ∈ D :: fp, b < s3.heap.objs.size) (IY : Inv (compCx X N' scope cl C (D :: fp) s3 H) pinsY σc H' s4) (hD : H' D = none) (pl : s4.heap.PlainList D us.toArray) (rv : Vals ys us) (hz : ys.length ≤ sizeLine)
    (hs : Heap.SameBut C s4.heap h') : Inv X pins σ (upd H' D (.lst ys)) { s4 with heap := h' } := by
  have J : Inv X pins σ H' s4 := I3.call' IY.os IY.base IY.hok IY.bare (ch := D :: fp) fun b hb => ⟨(hf b hb).2.2.2.1, (hf b hb).2.1, (hf b hb).2.2.2.2.1, (hf b hb).2.2.2.2.2⟩
  have fC : FpOk X pins H' C := I3.fpOk (Nat.le_of_eq hC.symm) IY.free
  have J2 : Inv X pins σ H' { s4 with heap := h' } := J.turned (t' := s4.toks) (fun b o hb e => (hs.2 b hb).trans e) fC.1 fC.2.1 fC.2.2.2.1 fC.2.2.2.2.1 fC.2.2.2.2.2
  have hDC : D ≠ C := by rw [hC]; exact Nat.ne_of_lt (hlt D List.mem_cons_self)
  obtain ⟨n, e⟩ := pl
  have fD := hf D List.mem_cons_self
  exact J2.track ⟨hD, fD.2⟩ ⟨hz, us, n, rv, (hs.2 D hDC).trans e⟩

theorem comp_run {cl : List (Str × Addr)} {C D it : Addr} {fp : List Addr} {tn : Nat → Heap → Prop} {J : It} {pins : List (Addr × Obj)} {σ σ0 : St} {H : Hp} {s3 s4 : Shared} {R : Result → Shared → Prop} {W : Nat → Nat → List V → St → Hp → Prop} {m0 : Nat} {Q : List V → Hp → Prop}
    (hc : X.calm = true) (T : Turn X.prog X.w X.K tg J fp it tn) (I3 : Inv X pins σ H s3) (hC : C = s3.heap.objs.size)
    (hf : ∀ b ∈ D :: fp, FpOk X pins H b) (hlt : ∀ b ∈ D :: fp, b < s3.heap.objs.size) (hDf : D ∉ fp) (IY : Inv (compCx X N' scope cl C (D :: fp) s3 H) [] σ0 H s4) (st : tn 0 s4.heap) (pl : s4.heap.PlainList D #[])
    (hg : PG (compCx X N' scope cl C (D :: fp) s3 H) tg g) (ht : PTs (compCx X N' scope cl C (D :: fp) s3 H) ifs tt) (he : PE (compCx X N' scope cl C (D :: fp) s3 H) elt te) (w0 : W 0 m0 [] σ0 H)
    (turn : ∀ i m ys σc H, W i m ys σc H → (J.stop i H ∧ Q ys H) ∨ (J.go i H ∧ ys.length < sizeLine ∧ ∀ x H', J.yld i H x H' → g x σc H' fun σ2 H2 => tt σ2 H2 fun b H3 =>
      if b = true then te σ2 H3 fun v H4 => ∃ m', m' < m ∧ W (i + 1) m' (ys ++ [v]) σ2 H4 else ∃ m', m' < m ∧ W (i + 1) m' ys σ2 H3))
    (fin : ∀ s5 σc H' ys us pinsY, Inv (compCx X N' scope cl C (D :: fp) s3 H) pinsY σc H' s5 → H' D = none → s5.heap.PlainList D us.toArray → Vals ys us → ys.length ≤ sizeLine → Q ys H' → R (.ok .next) s5) :
    codeAny (model X.prog X.w) X.A (.compLoop (.ListComp elt [⟨tg, iter, ifs, 0⟩] scope pos) 0 (.ref it) (.ref D) (compEnvC scope cl C X.env)) R s4 := by
  have eY : (compCx X N' scope cl C (D :: fp) s3 H).env = compEnvC scope cl C X.env := rfl
  generalize hY : compCx X N' scope cl C (D :: fp) s3 H = Y at *
  have e1 : Y.prog = X.prog := by rw [← hY]; rfl
  have e2 : Y.w = X.w := by rw [← hY]; rfl
  have e3 : Y.K = X.K := by rw [← hY]; rfl
  have e4 : Y.A = X.A := by rw [← hY]; rfl
  have e5 : Y.calm = true := by rw [← hY]; exact hc
  have e6 : Y.xe = fun _ _ => False := by rw [← hY]; rfl
  have e7 : Y.env.locals = C := by rw [eY]; rfl
  have e8 : Y.ex = D :: fp := by rw [← hY]; rfl
  have e9 : Y.pn = [] := by rw [← hY]; rfl
  have e10 : Y.fs = frs X.stack := by rw [← hY]; rfl
  have e11 : ∀ x c, Y.env.cells.lookup x = some c → ∀ b ∈ D :: fp, c ≠ b := fun x c e b hb => (IY.ok.exf b (by rw [e8]; exact hb)).2 x c e
  have nst : ∀ b ∈ D :: fp, b ∉ Y.fs := fun b hb => IY.ok.exfs b (by rw [e8]; exact hb)
  have fpY : ∀ (pinsY : List (Addr × Obj)) (H' : Hp), (∀ p ∈ pinsY, p.1 = D) → ∀ b ∈ fp, H' b = none → FpOk Y pinsY H' b := fun pinsY H' hp b hb hn =>
    ⟨hn, by rw [e7, hC]; exact Nat.ne_of_lt (hlt b (List.mem_cons_of_mem _ hb)), nst b (List.mem_cons_of_mem _ hb), .inl (by rw [e8]; exact List.mem_cons_of_mem _ hb), fun x c e => e11 x c e b (List.mem_cons_of_mem _ hb), fun p hp' z => by
      rw [e9, List.nil_append] at hp'
      have q := hp p hp'
      rw [z] at q
      rw [q] at hb
      exact hDf hb⟩
  have fpD : ∀ (pinsY : List (Addr × Obj)) (H' : Hp), (∀ p ∈ pinsY, p.1 ≠ D) → H' D = none → FpOk Y pinsY H' D := fun pinsY H' hp hn =>
    ⟨hn, by rw [e7, hC]; exact Nat.ne_of_lt (hlt D List.mem_cons_self), nst D List.mem_cons_self, .inl (by rw [e8]; exact List.mem_cons_self), fun x c e => e11 x c e D List.mem_cons_self, fun p hp' => by
      rw [e9, List.nil_append] at hp'
      exact hp p hp'⟩
  have T' : Turn Y.prog Y.w Y.K tg J fp it tn := by rw [e1, e2, e3]; exact T
  rw [← eY, ← e1, ← e2, ← e4]
  refine compLoop_gen (fun n s' => ∃ i ys us σc H', Inv Y [] σc H' s' ∧ tn i s'.heap ∧ (∀ b ∈ fp, H' b = none) ∧ H' D = none ∧ s'.heap.PlainList D (us : List Value).toArray ∧ Vals ys us ∧ ys.length ≤ sizeLine ∧ W i n ys σc H') ?_ m0
    ⟨0, [], [], σ0, H, IY, st, fun b hb => (hf b (List.mem_cons_of_mem _ hb)).1, (hf D List.mem_cons_self).1, pl, .nil, Nat.zero_le _, w0⟩
  rintro n s5 ⟨i, ys, us, σc, H5, I5, st5, fr5, hD5, pl5, rv5, hz5, w5⟩
  obtain ⟨nn, hob⟩ := id pl5
  -- D is pinned as it stands
  have I5' : Inv Y [(D, { cls := .type "list", data := .seq us.toArray nn })] σc H5 s5 := I5.pins_of fun p hp => by
    rw [List.mem_singleton] at hp
    subst hp
    exact ⟨hob, hD5, by rw [e7, hC]; exact Nat.ne_of_lt (hlt D List.mem_cons_self), nst D List.mem_cons_self, fun v z => by
      have z' : Data.seq us.toArray nn = Data.cell v := z
      cases z'⟩
  have f5 : ∀ b ∈ fp, FpOk Y [(D, { cls := .type "list", data := .seq us.toArray nn })] H5 b := fun b hb => fpY _ _ (fun p hp => by rw [List.mem_singleton] at hp; rw [hp]) b hb (fr5 b hb)
  rcases turn i n ys σc H5 w5 with ⟨stop, q⟩ | ⟨go, hz, step⟩
  · refine thn (T'.done Y rfl rfl rfl e5 i _ s5 σc H5 (fun _ _ => False) I5' f5 st5 stop) fun r s6 ⟨hr, I6⟩ => ?_
    subst hr
    exact fin s6 σc H5 ys us _ I6 hD5 ⟨nn, (I6.pin (D, _) (List.mem_append_right _ List.mem_cons_self)).1⟩ rv5 hz5 q
  · refine thn (T'.item Y rfl rfl rfl e5 i _ s5 σc H5 (fun _ _ => False) I5' f5 st5 go) fun r s6 ⟨u, hr, h6⟩ => ?_
    subst hr
    refine thn h6 fun _ s7 ⟨x, H7, I7, r7, y7, st7, fr7⟩ => ?_
    have f7 : ∀ b ∈ fp, FpOk Y [(D, { cls := .type "list", data := .seq us.toArray nn })] H7 b := fun b hb => fpY _ _ (fun p hp => by rw [List.mem_singleton] at hp; rw [hp]) b hb (fr7 b hb)
    have I7' := I7.pinned f7 (T.obj _ _ st7)
    have hx := hg _ s7 σc H7 x u _ I7' r7 (step x H7 y7)
    rw [e6] at hx
    refine thn hx fun _ s8 ⟨σ8, H8, I8, q8⟩ => ?_
    have hx2 := ht _ s8 σ8 H8 _ I8 q8
    rw [e6] at hx2
    -- behind a turn: the records stand as they stood
    have keepT : ∀ {σ9 : St} {H9 : Hp} {s9 : Shared}, Inv Y ([(D, { cls := .type "list", data := .seq us.toArray nn })] ++ pinsAt fp s7.heap) σ9 H9 s9 → tn (i + 1) s9.heap ∧ (∀ b ∈ fp, H9 b = none) ∧ H9 D = none ∧ s9.heap.get? D = some { cls := .type "list", data := .seq us.toArray nn } := fun {σ9 H9 s9} I9 => by
      have pD := I9.pin (D, _) (List.mem_append_right _ (List.mem_append_left _ List.mem_cons_self))
      refine ⟨T.keep _ _ _ st7 fun b hb o e => (I9.pin (b, o) (List.mem_append_right _ (List.mem_append_right _ (mem_pinsAt hb e)))).1, fun b hb => ?_, pD.2.1, pD.1⟩
      obtain ⟨o, e, d⟩ := T.obj _ _ st7 b hb
      exact (I9.pin (b, o) (List.mem_append_right _ (List.mem_append_right _ (mem_pinsAt hb e)))).2.1
    refine thn hx2 fun ok s9 ⟨H9, I9, q9⟩ => ?_
    cases ok with
    | false =>
      rw [if_neg Bool.false_ne_true] at q9
      rw [if_neg Bool.false_ne_true]
      obtain ⟨m', hm, w9⟩ := q9
      obtain ⟨k1, k2, k3, k4⟩ := keepT I9
      exact ⟨m', hm, i + 1, ys, us, σ8, H9, I9.pins_of (fun p hp => nomatch hp), k1, k2, k3, ⟨nn, k4⟩, rv5, hz5, w9⟩
    | true =>
      rw [if_pos rfl] at q9
      rw [if_pos rfl]
      have hx3 := he _ s9 σ8 H9 _ I9 q9
      rw [e6] at hx3
      refine thn hx3 fun xv s10 ⟨v, H10, I10, r10, m', hm, w10⟩ => ?_
      obtain ⟨k1, k2, k3, k4⟩ := keepT I10
      have hl := rv5.length
      refine wpAny_list_append_plain ⟨nn, k4⟩ (fun h' pl' sb => ?_) (by rw [List.size_toArray]; omega)
      have fD := fpD [] H10 (fun p hp => nomatch hp) k3
      have I11 : Inv Y [] σ8 H10 { s10 with heap := h' } := (I10.pins_of (pins' := []) fun p hp => nomatch hp).turned (t' := s10.toks) (fun b o hb e => (sb.2 b hb).trans e) fD.1 fD.2.1 fD.2.2.2.1 fD.2.2.2.2.1 fD.2.2.2.2.2
      refine ⟨m', hm, i + 1, ys ++ [v], us ++ [xv], σ8, H10, I11, T.keep _ _ _ k1 (fun b hb o e => (sb.2 b ?_).trans e), k2, k3, ?_, rv5.append (.cons r10 .nil), ?_, w10⟩
      · intro z; rw [z] at hb; exact hDf hb
      · rw [show (us ++ [xv]).toArray = us.toArray.push xv by simp]; exact pl'
      · rw [List.length_append, List.length_singleton]; exact hz

/-- [elt for tg in iter if ..] -/
theorem pe_comp (hc : X.calm = true) (S : CompScope X scope N' src) (hi : PI X tg iter wi)
    (hb : ∀ cl C ex s0 H0, PG (compCx X N' scope cl C ex s0 H0) tg g ∧ PTs (compCx X N' scope cl C ex s0 H0) ifs tt ∧ PE (compCx X N' scope cl C ex s0 H0) elt te)
    (hs : ∀ x, foldedSetIterable iter X.env x = pure x := by intro _; rfl) : PE X (.ListComp elt [⟨tg, iter, ifs, 0⟩] scope pos) (tComp src wi g tt te) := by
  intro pins s σ H Q I h
  obtain ⟨cl, hclos, hcl1, hcl2⟩ := closure_ok (scope := scope) (env := X.env) fun n hn => I.ok.has n (S.fr n hn)
  rw [eval_ListComp]
  refine wpAny_comprehension_free (use := none) rfl hs hclos S.kind S.names ?_
  refine thn (hi pins s σ H _ I h) fun v s1 h1 => thn h1 fun itv s2 h2 => ?_
  obtain ⟨it, fp, tn, J, H2, e, I2, T, st2, f2, W, ⟨m0, w0⟩, turn⟩ := h2
  subst e
  refine wpAny_newObj_type (wpAny_newFunctionEnv S.cell (by intro y hy; simp at hy) (fun h₁ hns₁ hsb₁ => ?_) S.kind)
  dsimp only at hns₁ hsb₁ ⊢
  generalize hH3 : s2.heap.push { cls := .type "list", dict := none, data := .seq ([] : List Value).toArray } = H3 at hns₁ hsb₁ ⊢
  have hsz : H3.objs.size = s2.heap.objs.size + 1 := by rw [← hH3, Heap.size_push]
  have I3 : Inv X pins σ H2 { s2 with heap := H3 } := I2.kept (t' := s2.toks) fun b o e => by rw [← hH3]; exact Heap.get?_push_of_some _ e
  have fD : FpOk X pins H2 s2.heap.objs.size := I2.fpOk (Nat.le_refl _) (I2.hok.fresh (Nat.le_refl _))
  have hDf : s2.heap.objs.size ∉ fp := fun hm => by
    obtain ⟨o, e, _⟩ := T.obj 0 _ st2 _ hm
    exact Nat.lt_irrefl _ (Heap.lt_size e)
  have hf : ∀ b ∈ s2.heap.objs.size :: fp, FpOk X pins H2 b := fun b hb => by
    rcases List.mem_cons.mp hb with z | z
    · rw [z]; exact fD
    · exact f2 b z
  have hlt : ∀ b ∈ s2.heap.objs.size :: fp, b < H3.objs.size := fun b hb => by
    rcases List.mem_cons.mp hb with z | z
    · rw [z, hsz]; exact Nat.lt_succ_self _
    · obtain ⟨o, e, _⟩ := T.obj 0 _ st2 b z
      rw [hsz]; exact Nat.lt_succ_of_lt (Heap.lt_size e)
  have kp : ∀ b o, H3.get? b = some o → h₁.get? b = some o := fun b o e => hsb₁.extBut b o (Nat.ne_of_lt (Heap.lt_size e)) (Heap.get?_push_of_some _ e)
  have kp0 : ∀ b o, s2.heap.get? b = some o → h₁.get? b = some o := fun b o e => kp b o (by rw [← hH3]; exact Heap.get?_push_of_some _ e)
  have hacc : h₁.PlainList s2.heap.objs.size #[] := ⟨_, kp _ _ (by rw [← hH3]; exact Heap.get?_push_size _ rfl)⟩
  have st1 : tn 0 h₁ := T.keep _ _ _ st2 fun b _ o e => kp0 b o e
  have IY := comp_enter (N' := N') (src := src) (scope := scope) (cl := cl) (C := H3.objs.size) (D := s2.heap.objs.size) (fp := fp) (s3 := { s2 with heap := H3 }) (h1 := h₁) (tk := s2.toks) S I3 hcl1 hcl2 rfl hf hlt hns₁ kp
  obtain ⟨hg, ht, he⟩ := hb cl H3.objs.size (s2.heap.objs.size :: fp) { s2 with heap := H3 } H2
  have loop := comp_run (R := compPost (model X.prog X.w) X.A X.xe none (EP X pins σ Q) (.ref s2.heap.objs.size) H3.objs.size) (elt := elt) (iter := iter) (ifs := ifs) (pos := pos) (Q := fun ys H => ∀ l, H l = none → Q (.ref l) (upd H l (.lst ys)))
    hc T I3 rfl hf hlt hDf IY st1 hacc hg ht he w0 turn (fun s5 σc H' ys us pinsY IY5 hD pl rv hz q => by
      obtain ⟨m, hn, _⟩ := IY5.loc
      refine ⟨m, hn, fun h' hs' => ⟨.ref s2.heap.objs.size, upd H' s2.heap.objs.size (.lst ys), ?_, rfl, q _ hD⟩⟩
      exact comp_leave I3 rfl hf hlt IY5 hD pl rv hz hs')
  exact codeAny_compStart_list loop (T.self _ 0 _ _ _ st1 loop)
end
end L2

set_option Elab.async false
set_option linter.all false
set_option maxRecDepth 100000
set_option maxHeartbeats 4000000
namespace L2
open PySem PySem.Spec PyProof.Rows

/-! ### a text, sign by sign -/
section
variable {X : Cx} {tg : Expr}

/-! ### comparisons of texts -/

/-! ### a slice of a text -/
def rSlS : V → Option Int → Option Int → Hp → VK → Prop := fun x lo hi H Q => ∃ z, x = .str z ∧ z.length ≤ sizeLine ∧ Q (.str (Txt.slice z lo hi)) H
theorem sl_str : SlR X rSlS := by
  intro pins s σ H x v vl vu lo hi sl Q I rx hs pl pu h
  obtain ⟨z, rfl, hz, q⟩ := h
  obtain ⟨t, rfl⟩ := rx
  refine ⟨"str", _, F.slot_str_getitem.lookup, typeIs_str _ _ _, ?_⟩
  obtain ⟨os, hos, hcs, hds⟩ := id hs
  have fin : ∀ t' k, EP X pins σ Q (.str (Txt.slice z lo hi) t') { s with toks := k } := fun t' k => ⟨.str _, H, I.tok _, ⟨_, rfl⟩, q⟩
  cases pl with
  | none =>
    cases pu with
    | none => exact wpAny_getItem_str_slice (l := none) (u := none) (st := none) ⟨os, hos, hcs, hds⟩ rfl (post_val_or_str ⟨Nat.le_trans (Txt.slice_le z _ _) hz, fin⟩)
    | int j uj => exact wpAny_getItem_str_slice (l := none) (u := some (j, uj)) (st := none) ⟨os, hos, hcs, hds⟩ rfl (post_val_or_str ⟨Nat.le_trans (Txt.slice_le z _ _) hz, fin⟩)
  | int i ui =>
    cases pu with
    | none => exact wpAny_getItem_str_slice (l := some (i, ui)) (u := none) (st := none) ⟨os, hos, hcs, hds⟩ rfl (post_val_or_str ⟨Nat.le_trans (Txt.slice_le z _ _) hz, fin⟩)
    | int j uj => exact wpAny_getItem_str_slice (l := some (i, ui)) (u := some (j, uj)) (st := none) ⟨os, hos, hcs, hds⟩ rfl (post_val_or_str ⟨Nat.le_trans (Txt.slice_le z _ _) hz, fin⟩)

/-! ### isinstance by a built-in class -/
theorem call_isinst : CallR X (.builtin "isinstance") (fun xs H Q => ∃ x T ty b, xs = [x, .ty T] ∧ TyOf X.K H x ty ∧ PySem.W.kitOne X.K ty (.type T) = some b ∧ Q (.bl b) H) := by
  intro pins s σ H xs us Q I r h
  obtain ⟨x, T, ty, b, rfl, h1, h2, q⟩ := h
  obtain ⟨u, w', rfl, rx, rT⟩ := vals2 r
  cases (show w' = Value.type T from rT)
  exact isinst_ok I rx h1 h2 fun tk => ⟨.bl b, H, I.tok _, rfl, q⟩

/-! ### all, any of a list of truths -/

/-! ### == of two lists of flat items -/
def eqVs (xs ys : List V) : Bool := xs.length == ys.length && (List.range xs.length).all fun j => eqV (xs.getD j .non) (ys.getD j .non)
theorem op_eq_list (hu : X.A.units < cLine) : OpR X (compareOp .Eq) (fun x y H Q => ∃ a b xs ys, x = .ref a ∧ y = .ref b ∧ SqL X.K H a xs ∧ SqL X.K H b ys ∧ xs.all flatV = true ∧ ys.all flatV = true ∧ Q (.bl (eqVs xs ys)) H) := by
  intro pins s σ H x y v u Q I rx ry h
  obtain ⟨a, b, xs, ys, rfl, rfl, hx, hy, fx, fy, q⟩ := h
  cases rx
  cases ry
  obtain ⟨its, r, pl, hz⟩ := I.list hx
  obtain ⟨its2, r2, pl2, hz2⟩ := I.list hy
  have hl := r.length
  have hl2 := r2.length
  by_cases hs : xs.length = ys.length
  · refine SeqAt.eq_listAt (e := fun j => eqV (xs.getD j .non) (ys.getD j .non)) pl.isList pl2.isList (by simp only [List.size_toArray]; omega) hu (fun j h1 h2 => ?_) ?_
    · simp only [List.size_toArray] at h1 h2
      have g1 : xs[j]? = some xs[j] := List.getElem?_eq_getElem (by omega)
      have g2 : ys[j]? = some ys[j] := List.getElem?_eq_getElem (by omega)
      obtain ⟨u1, e1, ru1⟩ := r.get g1
      obtain ⟨u2, e2, ru2⟩ := r2.get g2
      have k1 : its.toArray[j] = u1 := by
        have : its[j]? = some its[j] := List.getElem?_eq_getElem h1
        rw [e1] at this
        simpa using (Option.some.inj this).symm
      have k2 : its2.toArray[j] = u2 := by
        have : its2[j]? = some its2[j] := List.getElem?_eq_getElem h2
        rw [e2] at this
        simpa using (Option.some.inj this).symm
      rw [k1, k2, show xs.getD j .non = xs[j] by simp [List.getD, g1], show ys.getD j .non = ys[j] by simp [List.getD, g2]]
      exact eqAt_V ru1 ru2 (List.all_eq_true.mp fx _ (List.getElem_mem _)) (List.all_eq_true.mp fy _ (List.getElem_mem _))
    · refine fin_bl I q ?_
      unfold eqVs
      rw [List.size_toArray, ← hl, hs]
      simp
  · refine SeqAt.eq_list_lengthsAt pl.isList pl2.isList (by simp only [List.size_toArray, bne_iff_ne]; omega) hu ?_
    refine fin_bl I q ?_
    unfold eqVs
    rw [beq_eq_false_iff_ne.mpr hs]
    rfl
end
end L2

set_option Elab.async false
set_option linter.all false
set_option maxRecDepth 100000
set_option maxHeartbeats 4000000
namespace L2
open PySem PySem.Spec PyProof.Rows
section
variable {X : Cx} {elt tg iter : Expr} {ifs : List Expr} {scope : Scope} {pos : Pos} {N' : List Str} {src : List (Option Nat)} {wi : TI} {g : TG} {tt : TT} {te : TE}
/-- x = [elt for tg in iter if ..], the name a plain local -/
theorem ps_setComp {i : Nat} {x : Str} {pos' spos : Pos} (hc : X.calm = true) (hN : X.N.Nodup) (hix : X.N[i]? = some x) (hx : Loc X.env.scope x) (S : CompScope X scope N' src) (hi : PI X tg iter wi)
    (hb : ∀ cl C ex s0 H0, PG (compCx X N' scope cl C ex s0 H0) tg g ∧ PTs (compCx X N' scope cl C ex s0 H0) ifs tt ∧ PE (compCx X N' scope cl C ex s0 H0) elt te)
    (hsw : swapsWith (.ListComp elt [⟨tg, iter, ifs, 0⟩] scope pos) (some (.Name x pos')) spos.line X.env = pure true := by rfl)
    (hs : ∀ x, foldedSetIterable iter X.env x = pure x := by intro _; rfl)
    (hfn : X.fn x = true ∨ X.env.scope.names.lookup x = some .local := by first | exact .inl rfl | exact .inr rfl | assumption) :
    PS X (.Assign [.Name x pos'] (.ListComp elt [⟨tg, iter, ifs, 0⟩] scope pos) spos) (tAsg (tComp src wi g tt te) (gName i)) := by
  intro pins s σ H D I h
  obtain ⟨cl, hclos, hcl1, hcl2⟩ := closure_ok (scope := scope) (env := X.env) fun n hn => I.ok.has n (S.fr n hn)
  rw [exec_Assign_Name_used _ _ _ _ hsw]
  refine wpAny_bind (wpAny_standAt (wpAny_bind ?_))
  show wpAny _ _ (do let _ ← comprehension (.ListComp elt [⟨tg, iter, ifs, 0⟩] scope pos) scope X.env _ (newList []) false (eval iter X.env) (some (assign (.Name x pos') X.env))) _ _ s
  refine wpAny_bind (wpAny_mono (wpAny_comprehension_free (use := some (assign (.Name x pos') X.env)) (Q := fun _ s' => SP X pins D .next s') rfl hs hclos S.kind S.names ?_) (fun _ s' hq => wpAny_pure (wpAny_pure hq)) fun _ _ e => e)
  refine thn (hi pins s σ H _ I h) fun v s1 h1 => thn h1 fun itv s2 h2 => ?_
  obtain ⟨it, fp, tn, J, H2, e, I2, T, st2, f2, W, ⟨m0, w0⟩, turn⟩ := h2
  subst e
  refine wpAny_newObj_type (wpAny_newFunctionEnv S.cell (by intro y hy; simp at hy) (fun h₁ hns₁ hsb₁ => ?_) S.kind)
  dsimp only at hns₁ hsb₁ ⊢
  generalize hH3 : s2.heap.push { cls := .type "list", dict := none, data := .seq ([] : List Value).toArray } = H3 at hns₁ hsb₁ ⊢
  have hsz : H3.objs.size = s2.heap.objs.size + 1 := by rw [← hH3, Heap.size_push]
  have I3 : Inv X pins σ H2 { s2 with heap := H3 } := I2.kept (t' := s2.toks) fun b o e => by rw [← hH3]; exact Heap.get?_push_of_some _ e
  have fD : FpOk X pins H2 s2.heap.objs.size := I2.fpOk (Nat.le_refl _) (I2.hok.fresh (Nat.le_refl _))
  have hDf : s2.heap.objs.size ∉ fp := fun hm => by
    obtain ⟨o, e, _⟩ := T.obj 0 _ st2 _ hm
    exact Nat.lt_irrefl _ (Heap.lt_size e)
  have hf : ∀ b ∈ s2.heap.objs.size :: fp, FpOk X pins H2 b := fun b hb => by
    rcases List.mem_cons.mp hb with z | z
    · rw [z]; exact fD
    · exact f2 b z
  have hlt : ∀ b ∈ s2.heap.objs.size :: fp, b < H3.objs.size := fun b hb => by
    rcases List.mem_cons.mp hb with z | z
    · rw [z, hsz]; exact Nat.lt_succ_self _
    · obtain ⟨o, e, _⟩ := T.obj 0 _ st2 b z
      rw [hsz]; exact Nat.lt_succ_of_lt (Heap.lt_size e)
  have kp : ∀ b o, H3.get? b = some o → h₁.get? b = some o := fun b o e => hsb₁.extBut b o (Nat.ne_of_lt (Heap.lt_size e)) (Heap.get?_push_of_some _ e)
  have kp0 : ∀ b o, s2.heap.get? b = some o → h₁.get? b = some o := fun b o e => kp b o (by rw [← hH3]; exact Heap.get?_push_of_some _ e)
  have hacc : h₁.PlainList s2.heap.objs.size #[] := ⟨_, kp _ _ (by rw [← hH3]; exact Heap.get?_push_size _ rfl)⟩
  have st1 : tn 0 h₁ := T.keep _ _ _ st2 fun b _ o e => kp0 b o e
  have IY := comp_enter (N' := N') (src := src) (scope := scope) (cl := cl) (C := H3.objs.size) (D := s2.heap.objs.size) (fp := fp) (s3 := { s2 with heap := H3 }) (h1 := h₁) (tk := s2.toks) S I3 hcl1 hcl2 rfl hf hlt hns₁ kp
  obtain ⟨hg, ht, he⟩ := hb cl H3.objs.size (s2.heap.objs.size :: fp) { s2 with heap := H3 } H2
  have loop := comp_run (R := compPost (model X.prog X.w) X.A X.xe (some (assign (.Name x pos') X.env)) (fun _ s' => SP X pins D .next s') (.ref s2.heap.objs.size) H3.objs.size) (elt := elt) (iter := iter) (ifs := ifs) (pos := pos) (Q := fun ys H => ∀ l, H l = none → D.nx (σ.set i (some (.ref l))) (upd H l (.lst ys)))
    hc T I3 rfl hf hlt hDf IY st1 hacc hg ht he w0 turn (fun s5 σc H' ys us pinsY IY5 hD pl rv hz q => by
      have IX : Inv X pins σ (upd H' s2.heap.objs.size (.lst ys)) s5 := comp_leave (h' := s5.heap) I3 rfl hf hlt IY5 hD pl rv hz (.refl ..)
      show wpAny _ _ (assign (.Name x pos') X.env (.ref s2.heap.objs.size)) _ _ s5
      refine wpAny_assign_Name (store_ok2 (v := .ref s2.heap.objs.size) IX hN hix hx rfl (fun s6 I6 ⟨a, sb, ha⟩ => ?_) hfn)
      obtain ⟨m, hn, _⟩ := IY5.loc
      have fC : FpOk X pins (upd H' s2.heap.objs.size (.lst ys)) H3.objs.size := I3.fpOk (Nat.le_refl _) (by
        rw [upd_ne (by rw [hsz]; exact Nat.ne_of_gt (Nat.lt_succ_self _))]
        exact IY5.free)
      have hCa : H3.objs.size ≠ a := by
        rcases ha with z | z
        · rw [z]; exact fC.2.1
        · exact fun q => fC.2.2.2.2.1 x a z q.symm
      refine ⟨m, hn.sameBut sb hCa, fun h' hs' => ⟨_, _, I6.turned (t' := s6.toks) (fun b o hb e => (hs'.2 b hb).trans e) fC.1 fC.2.1 fC.2.2.2.1 fC.2.2.2.2.1 fC.2.2.2.2.2, q _ hD⟩⟩)
  exact codeAny_compStart_list loop (T.self _ 0 _ _ _ st1 loop)
end
end L2

set_option Elab.async false
set_option linter.all false
set_option maxRecDepth 100000
set_option maxHeartbeats 4000000
namespace L2
open PySem PySem.Spec PyProof.Rows
section
variable {X : Cx}
/-- // by a positive divisor below 2^64 -/
def CDivL (_ j : Int) : Prop := 0 < j ∧ j < 18446744073709551616
theorem op_fdivL : OpR X (binaryOp .FloorDiv) (rI CDivL fun i j => .int (i / j)) := opI fun i j _ _ _ _ _ hc q => by
  have h1 : (0 : Int) < j := hc.1
  have h2 : j < 18446744073709551616 := hc.2
  refine floordiv_int (by omega) (by rw [Int.fdiv_eq_ediv_of_nonneg i (by omega)]; exact q) (.inl (PyProof.noPylong_of_log2 ?_))
  have h64 : j.natAbs.log2 < 64 := (Nat.log2_lt (by omega)).mpr (by omega)
  omega
/-- != of two lists of flat items -/
theorem op_ne_list (hu : X.A.units < cLine) : OpR X (compareOp .NotEq) (fun x y H Q => ∃ a b xs ys, x = .ref a ∧ y = .ref b ∧ SqL X.K H a xs ∧ SqL X.K H b ys ∧ xs.all flatV = true ∧ ys.all flatV = true ∧ Q (.bl (!eqVs xs ys)) H) := by
  intro pins s σ H x y v u Q I rx ry h
  obtain ⟨a, b, xs, ys, rfl, rfl, hx, hy, fx, fy, q⟩ := h
  cases rx
  cases ry
  obtain ⟨its, r, pl, hz⟩ := I.list hx
  obtain ⟨its2, r2, pl2, hz2⟩ := I.list hy
  have hl := r.length
  have hl2 := r2.length
  by_cases hs : xs.length = ys.length
  · refine SeqAt.RcNeAt.lists (e := fun j => eqV (xs.getD j .non) (ys.getD j .non)) pl.isList pl2.isList (by simp only [List.size_toArray]; omega) hu (fun j h1 h2 => ?_) X.prog X.w _ _ ?_
    · simp only [List.size_toArray] at h1 h2
      have g1 : xs[j]? = some xs[j] := List.getElem?_eq_getElem (by omega)
      have g2 : ys[j]? = some ys[j] := List.getElem?_eq_getElem (by omega)
      obtain ⟨u1, e1, ru1⟩ := r.get g1
      obtain ⟨u2, e2, ru2⟩ := r2.get g2
      have k1 : its.toArray[j] = u1 := by
        have : its[j]? = some its[j] := List.getElem?_eq_getElem h1
        rw [e1] at this
        simpa using (Option.some.inj this).symm
      have k2 : its2.toArray[j] = u2 := by
        have : its2[j]? = some its2[j] := List.getElem?_eq_getElem h2
        rw [e2] at this
        simpa using (Option.some.inj this).symm
      rw [k1, k2, show xs.getD j .non = xs[j] by simp [List.getD, g1], show ys.getD j .non = ys[j] by simp [List.getD, g2]]
      exact eqAt_V ru1 ru2 (List.all_eq_true.mp fx _ (List.getElem_mem _)) (List.all_eq_true.mp fy _ (List.getElem_mem _))
    · refine fin_bl I q ?_
      unfold eqVs
      rw [List.size_toArray, ← hl, hs]
      simp
  · refine SeqAt.RcNeAt.lists_lengths pl.isList pl2.isList (by simp only [List.size_toArray, bne_iff_ne]; omega) hu X.prog X.w _ _ ?_
    refine fin_bl I q ?_
    unfold eqVs
    rw [beq_eq_false_iff_ne.mpr hs]
    rfl
end
end L2

set_option Elab.async false
set_option linter.all false
set_option maxRecDepth 100000
set_option maxHeartbeats 4000000
namespace L2
open PySem PySem.Spec PyProof.Rows
/-- a cut: what holds behind the statement, then the rest once -/
def tCut (t u : TS) : TS := fun D σ H => ∃ Pv : St → Hp → Prop, t { D with nx := Pv } σ H ∧ ∀ σ' H', Pv σ' H' → u D σ' H'
section
variable {X : Cx} {st : Stmt} {rest : List Stmt} {t u : TS}
theorem pss_cut (h1 : PS X st t) (h2 : PSs X rest u) : PSs X (st :: rest) (tCut t u) := by
  intro pins s σ H D I h
  obtain ⟨Pv, h, hr⟩ := h
  refine wpAny_execs_cons (thn (h1 pins s σ H { D with nx := Pv } I h) fun f s1 q => ?_)
  cases f with
  | next =>
    obtain ⟨σ', H', I', q⟩ := q
    exact h2 pins s1 σ' H' D I' (hr σ' H' q)
  | ret v => exact q
  | brk => exact q
  | cont => exact q
end
/-! a comprehension's scope, by one look -/
def compLook (kindOf : Str → Option NameKind) (XN : List Str) (scope : Scope) (N' : List Str) (src : List (Option Nat)) : Bool :=
  (scope.kind == .function) && (scope.names.all fun y => (y.2 != .cell) && (y.2 != .local || scope.names.lookup y.1 == some .local) && (y.2 != .free || ((kindOf y.1 == some .cell || kindOf y.1 == some .free) && scope.names.lookup y.1 != some .local))) &&
  (N'.length == src.length) && ((List.range src.length).all fun i => match src[i]? with
    | some (some j) => (match N'[i]?, XN[j]? with | some x, some y => x == y && scope.names.contains (x, NameKind.free) | _, _ => false)
    | _ => true)
theorem compScope_of {X : Cx} {scope : Scope} {N' : List Str} {src : List (Option Nat)} (sc : Scope) (hsc : X.env.scope = sc) (N : List Str) (hN : X.N = N) (h : compLook (fun x => sc.names.lookup x) N scope N' src = true) : CompScope X scope N' src := by
  subst hsc hN
  unfold compLook at h
  simp only [Bool.and_eq_true, List.all_eq_true, beq_iff_eq, bne_iff_ne, ne_eq, Bool.or_eq_true] at h
  obtain ⟨⟨⟨h1, h2⟩, h3⟩, h4⟩ := h
  refine ⟨h1, fun y hy => (h2 y hy).1.1, fun y hy hl => ?_, fun n hn => ?_, fun n hn => ?_, h3, fun i j e => ?_⟩
  · rcases (h2 y hy).1.2 with z | z
    · exact absurd hl z
    · exact z
  · rcases (h2 _ hn).2 with z | z
    · exact absurd rfl z
    · exact z.1
  · rcases (h2 _ hn).2 with z | z
    · exact absurd rfl z
    · exact z.2
  · have hi : i < src.length := (List.getElem?_eq_some_iff.mp e).1
    have q := h4 i (List.mem_range.mpr hi)
    rw [e] at q
    dsimp only at q
    cases e1 : N'[i]? with
    | none => rw [e1] at q; cases q
    | some x =>
      cases e2 : X.N[j]? with
      | none => rw [e1, e2] at q; cases q
      | some y =>
        rw [e1, e2] at q
        simp only [Bool.and_eq_true, beq_iff_eq] at q
        obtain ⟨rfl, q⟩ := q
        exact ⟨x, rfl, rfl, by simpa using q⟩
/-! the two usual comprehensions -/
def Nx (N i : Nat) (P : Prop) : Prop := ∃ m', m' < N - i ∧ m' = N - (i + 1) ∧ i + 1 ≤ N ∧ P
theorem nx {N i : Nat} {P : Prop} (h : i < N) (p : P) : Nx N i P := ⟨_, by omega, rfl, h, p⟩
section
variable {x : Str} {σ0 : St} {H : Hp} {g : TG} {tt : TT} {te : TE} {Q : List V → Hp → Prop}
theorem comp_range {lo : Int} {n : Nat} (Pv : Nat → List V → St → Hp → Prop) (h0 : Pv 0 [] σ0 H)
    (hs : ∀ i ys σc H, i < n → Pv i ys σc H → ys.length < sizeLine ∧ g (.int (lo + i)) σc H fun σ2 H2 => tt σ2 H2 fun b H3 =>
      if b = true then te σ2 H3 fun v H4 => Nx n i (Pv (i + 1) (ys ++ [v]) σ2 H4) else Nx n i (Pv (i + 1) ys σ2 H3))
    (hd : ∀ ys σc H, Pv n ys σc H → Q ys H) :
    ∃ W : Nat → Nat → List V → St → Hp → Prop, (∃ m, W 0 m [] σ0 H) ∧ ∀ i m ys σc H, W i m ys σc H →
      ((Itr lo n).stop i H ∧ Q ys H) ∨ ((Itr lo n).go i H ∧ ys.length < sizeLine ∧ ∀ v H', (Itr lo n).yld i H v H' → g v σc H' fun σ2 H2 => tt σ2 H2 fun b H3 =>
        if b = true then te σ2 H3 fun v H4 => ∃ m', m' < m ∧ W (i + 1) m' (ys ++ [v]) σ2 H4 else ∃ m', m' < m ∧ W (i + 1) m' ys σ2 H3) := by
  refine ⟨fun i m ys σc H => m = n - i ∧ i ≤ n ∧ Pv i ys σc H, ⟨_, rfl, Nat.zero_le _, h0⟩, ?_⟩
  rintro i m ys σc H ⟨rfl, hi, p⟩
  by_cases hlt : i < n
  · obtain ⟨z, _⟩ := hs i ys σc H hlt p
    refine .inr ⟨hlt, z, fun v H' y => ?_⟩
    obtain ⟨e, ev⟩ := y
    subst e ev
    exact (hs i ys σc _ hlt p).2
  · have e : i = n := by omega
    subst e
    exact .inl ⟨Nat.le_refl _, hd ys σc H p⟩
end
theorem same_upd {H : Hp} {a : Addr} {o : HO} (h : H a = none) : Same H (upd H a o) := fun b u e => by rw [upd_ne (ne_of_none e h)]; exact e
theorem at_mod {α : Type} {xs : List α} (h : 0 < xs.length) (i : Int) : ∃ v, v ∈ xs ∧ atI xs (i % (xs.length : Int)) = some v := by
  have h0 : 0 ≤ i % (xs.length : Int) := Int.emod_nonneg _ (by omega)
  have h1 : i % (xs.length : Int) < xs.length := Int.emod_lt_of_pos _ (by omega)
  obtain ⟨j, hj⟩ := Int.eq_ofNat_of_zero_le h0
  have hl : j < xs.length := by omega
  refine ⟨xs[j], List.getElem_mem hl, ?_⟩
  rw [hj]
  exact atI_nat (List.getElem?_eq_getElem hl)
theorem at_in {α : Type} {xs : List α} {i : Int} (h0 : 0 ≤ i) (h1 : i < xs.length) : ∃ v, v ∈ xs ∧ atI xs i = some v := by
  obtain ⟨j, hj⟩ := Int.eq_ofNat_of_zero_le h0
  have hl : j < xs.length := by omega
  refine ⟨xs[j], List.getElem_mem hl, ?_⟩
  rw [hj]
  exact atI_nat (List.getElem?_eq_getElem hl)

/-! argument lists, item by item, whatever stands behind -/
section
variable {X : Cx} {es : List Expr} {te : TE} {t : TA}
theorem pa_k {c : Const} {j : Nat} {p : Pos} (h : PE X (.Constant c j p) te) (hr : PA X es t) : PA X (.Constant c j p :: es) (tCons te t) := pa_cons h hr rfl
theorem pa_n {x : Str} {p : Pos} (h : PE X (.Name x p) te) (hr : PA X es t) : PA X (.Name x p :: es) (tCons te t) := pa_cons h hr rfl
theorem pa_t {xs : List Expr} {j : Nat} {p : Pos} (h : PE X (.Tuple xs j p) te) (hr : PA X es t) : PA X (.Tuple xs j p :: es) (tCons te t) := pa_cons h hr rfl
theorem pa_l {xs : List Expr} {p : Pos} (h : PE X (.List xs p) te) (hr : PA X es t) : PA X (.List xs p :: es) (tCons te t) := pa_cons h hr rfl
theorem pa_c {f : Expr} {xs : List Expr} {ks : List Keyword} {p : Pos} (h : PE X (.Call f xs ks p) te) (hr : PA X es t) : PA X (.Call f xs ks p :: es) (tCons te t) := pa_cons h hr rfl
end
/-- the value of a written constant -/
def constV : Expr → Option V
  | .Constant (.int i) _ _ => some (.int i)
  | .Constant (.str x) _ _ => some (.str x)
  | .Constant (.bool b) _ _ => some (.bl b)
  | .Constant .none _ _ => some .non
  | _ => none
theorem pa_consts {X : Cx} : ∀ {es : List Expr} {vs : List V}, es.map constV = vs.map some → PA X es (fun _ H Q => Q vs H)
  | [], [], _ => pa_nil
  | [], v :: vs, h => by cases h
  | e :: es, [], h => by cases h
  | e :: es, v :: vs, h => by
    rw [List.map_cons, List.map_cons] at h
    injection h with h1 h2
    have ih := pa_consts (X := X) h2
    cases e with
    | Constant c j p =>
      cases c with
      | int i => cases h1; exact pa_k pe_int ih
      | str x => cases h1; exact pa_k pe_str ih
      | bool b => cases h1; exact pa_k pe_bl ih
      | none => cases h1; exact pa_k pe_non ih
      | _ => cases h1
    | _ => cases h1
theorem nd1 (x : Str) : [x].Nodup := by simp
end L2

set_option Elab.async false
set_option linter.all false
set_option maxRecDepth 100000
set_option maxHeartbeats 4000000
namespace L2
open PySem PySem.Spec PyProof.Rows
section
variable {K : PySem.W.Frag} {a : Addr} {xs : List V} {σ0 : St} {H : Hp} {g : TG} {tt : TT} {te : TE} {Q : List V → Hp → Prop}
/-- a comprehension over a tuple -/
theorem comp_tup (Pv : Nat → List V → St → Hp → Prop) (h0 : Pv 0 [] σ0 H) (hl : ∀ i ys σc H, Pv i ys σc H → SqT K H a xs)
    (hs : ∀ i x ys σc H, xs[i]? = some x → i < xs.length → Pv i ys σc H → ys.length < sizeLine ∧ g x σc H fun σ2 H2 => tt σ2 H2 fun b H3 =>
      if b = true then te σ2 H3 fun v H4 => Nx xs.length i (Pv (i + 1) (ys ++ [v]) σ2 H4) else Nx xs.length i (Pv (i + 1) ys σ2 H3))
    (hd : ∀ ys σc H, Pv xs.length ys σc H → Q ys H) :
    ∃ W : Nat → Nat → List V → St → Hp → Prop, (∃ m, W 0 m [] σ0 H) ∧ ∀ i m ys σc H, W i m ys σc H →
      ((Itt K a).stop i H ∧ Q ys H) ∨ ((Itt K a).go i H ∧ ys.length < sizeLine ∧ ∀ v H', (Itt K a).yld i H v H' → g v σc H' fun σ2 H2 => tt σ2 H2 fun b H3 =>
        if b = true then te σ2 H3 fun v H4 => ∃ m', m' < m ∧ W (i + 1) m' (ys ++ [v]) σ2 H4 else ∃ m', m' < m ∧ W (i + 1) m' ys σ2 H3) := by
  refine ⟨fun i m ys σc H => m = xs.length - i ∧ i ≤ xs.length ∧ Pv i ys σc H, ⟨_, rfl, Nat.zero_le _, h0⟩, ?_⟩
  rintro i m ys σc H ⟨rfl, hi, p⟩
  have q := hl i ys σc H p
  by_cases hlt : i < xs.length
  · have hx : xs[i]? = some xs[i] := List.getElem?_eq_getElem hlt
    obtain ⟨z, _⟩ := hs i _ ys σc H hx hlt p
    refine .inr ⟨⟨xs, xs[i], q, hx⟩, z, fun v H' y => ?_⟩
    obtain ⟨e, y⟩ := y
    subst e
    exact (hs i v ys σc _ (y xs q) hlt p).2
  · have e : i = xs.length := by omega
    subst e
    exact .inl ⟨⟨xs, q, Nat.le_refl _⟩, hd ys σc H p⟩
/-- a comprehension over a list that the block leaves as it is -/
theorem comp_list (Pv : Nat → List V → St → Hp → Prop) (h0 : Pv 0 [] σ0 H) (hl : ∀ i ys σc H, Pv i ys σc H → SqL K H a xs)
    (hs : ∀ i x ys σc H, xs[i]? = some x → i < xs.length → Pv i ys σc H → ys.length < sizeLine ∧ g x σc H fun σ2 H2 => tt σ2 H2 fun b H3 =>
      if b = true then te σ2 H3 fun v H4 => Nx xs.length i (Pv (i + 1) (ys ++ [v]) σ2 H4) else Nx xs.length i (Pv (i + 1) ys σ2 H3))
    (hd : ∀ ys σc H, Pv xs.length ys σc H → Q ys H) :
    ∃ W : Nat → Nat → List V → St → Hp → Prop, (∃ m, W 0 m [] σ0 H) ∧ ∀ i m ys σc H, W i m ys σc H →
      ((Itl K a).stop i H ∧ Q ys H) ∨ ((Itl K a).go i H ∧ ys.length < sizeLine ∧ ∀ v H', (Itl K a).yld i H v H' → g v σc H' fun σ2 H2 => tt σ2 H2 fun b H3 =>
        if b = true then te σ2 H3 fun v H4 => ∃ m', m' < m ∧ W (i + 1) m' (ys ++ [v]) σ2 H4 else ∃ m', m' < m ∧ W (i + 1) m' ys σ2 H3) := by
  refine ⟨fun i m ys σc H => m = xs.length - i ∧ i ≤ xs.length ∧ Pv i ys σc H, ⟨_, rfl, Nat.zero_le _, h0⟩, ?_⟩
  rintro i m ys σc H ⟨rfl, hi, p⟩
  have q := hl i ys σc H p
  by_cases hlt : i < xs.length
  · have hx : xs[i]? = some xs[i] := List.getElem?_eq_getElem hlt
    obtain ⟨z, _⟩ := hs i _ ys σc H hx hlt p
    refine .inr ⟨⟨xs, xs[i], q, hx⟩, z, fun v H' y => ?_⟩
    obtain ⟨e, y⟩ := y
    subst e
    exact (hs i v ys σc _ (y xs q) hlt p).2
  · have e : i = xs.length := by omega
    subst e
    exact .inl ⟨⟨xs, q, Nat.le_refl _⟩, hd ys σc H p⟩
end
/-- isinstance, the written part named (within a block: K is the same for all blocks) -/
theorem call_isinstK {X : Cx} {K : PySem.W.Frag} (hK : X.K = K) : CallR X (.builtin "isinstance") (fun xs H Q => ∃ x T ty b, xs = [x, .ty T] ∧ TyOf K H x ty ∧ PySem.W.kitOne K ty (.type T) = some b ∧ Q (.bl b) H) := by
  subst hK
  exact call_isinst
/-! ### trees of tuples: what a node has of its own, then its parts -/
theorem take_nextR {α : Type} {l : List α} {i : Nat} {c : α} (p : α → Bool) (h : l[i]? = some c) : (l.take (i + 1)).filter p = (l.take i).filter p ++ (if p c = true then [c] else []) := by
  rw [List.take_add_one, h, List.filter_append]
  cases hp : p c <;> simp [hp]
end L2

set_option Elab.async false
set_option linter.all false
set_option maxRecDepth 100000
set_option maxHeartbeats 4000000
namespace L2
open PySem PySem.Spec PyProof.Rows
/-! ### tuples kept -/
/-! ### the rules over a fragment named (within a block) -/
section
variable {X : Cx} {K : PySem.W.Frag}
end
/-! ### sorted of texts -/
section
variable {X : Cx}
end
/-! ### tuples of tuples of plain values, and == of them -/
inductive PV where
  | at (v : V)
  | tup (xs : List PV)
mutual
def eqPV : PV → PV → Bool
  | .at v, .at w => eqV v w
  | .tup xs, .tup ys => eqPVs xs ys
  | .at _, .tup _ => false
  | .tup _, .at _ => false
def eqPVs : List PV → List PV → Bool
  | [], [] => true
  | x :: xs, y :: ys => eqPV x y && eqPVs xs ys
  | [], _ :: _ => false
  | _ :: _, [] => false
end
mutual
/-- the value is that thing, at most n tuples within one another -/
inductive IsPV (K : PySem.W.Frag) (H : Hp) : Nat → V → PV → Prop where
  | at {n : Nat} {v : V} (f : flatV v = true) : IsPV K H n v (.at v)
  | tup {n : Nat} {a : Addr} {vs : List V} {ts : List PV} (h : SqT K H a vs) (r : IsPVs K H n vs ts) : IsPV K H (n + 1) (.ref a) (.tup ts)
inductive IsPVs (K : PySem.W.Frag) (H : Hp) : Nat → List V → List PV → Prop where
  | nil {n : Nat} : IsPVs K H n [] []
  | cons {n : Nat} {v : V} {vs : List V} {t : PV} {ts : List PV} (h : IsPV K H n v t) (r : IsPVs K H n vs ts) : IsPVs K H n (v :: vs) (t :: ts)
end
theorem IsPVs.length {K : PySem.W.Frag} {H : Hp} {n : Nat} : ∀ {vs : List V} {ts : List PV}, IsPVs K H n vs ts → vs.length = ts.length
  | _, _, .nil => rfl
  | _, _, .cons _ r => congrArg (· + 1) r.length
theorem IsPVs.get {K : PySem.W.Frag} {H : Hp} {n : Nat} : ∀ {vs : List V} {ts : List PV} {j : Nat} {v : V}, IsPVs K H n vs ts → vs[j]? = some v → ∃ t, ts[j]? = some t ∧ IsPV K H n v t
  | _, _, _, _, .nil, e => by simp at e
  | _, _, 0, _, .cons h _, e => by simp at e; subst e; exact ⟨_, rfl, h⟩
  | _, _, j + 1, _, .cons _ r, e => by
    rw [List.getElem?_cons_succ] at e
    obtain ⟨t, e2, h⟩ := r.get e
    exact ⟨t, by rw [List.getElem?_cons_succ]; exact e2, h⟩
theorem eqV_refl : ∀ {v : V}, flatV v = true → eqV v v = true := by
  intro v h
  cases v with
  | non => rfl
  | bl b => exact beq_self_eq_true b
  | int i => exact beq_self_eq_true i
  | str x => exact beq_self_eq_true x
  | _ => cases h
theorem eqPVs_all : ∀ (ts us : List PV), ((List.range (min ts.length us.length)).all (fun j => eqPV (ts.getD j (.at .non)) (us.getD j (.at .non))) && ts.length == us.length) = eqPVs ts us
  | [], [] => by unfold eqPVs; rfl
  | [], _ :: _ => by unfold eqPVs; simp
  | _ :: _, [] => by unfold eqPVs; simp
  | t :: ts, u :: us => by
    have ih := eqPVs_all ts us
    unfold eqPVs
    rw [← ih]
    simp only [List.length_cons, Nat.add_min_add_right, List.range_succ_eq_map, List.all_cons, List.all_map, Bool.and_assoc]
    simp [Function.comp_def]
section
variable {X : Cx} {pins : List (Addr × Obj)} {σ : St} {H : Hp} {s : Shared}
theorem pvs_same_of {n : Nat} (ih : ∀ {v : V} {t u : PV}, IsPV X.K H n v t → IsPV X.K H n v u → eqPV t u = true) : ∀ (vs : List V) {ts us : List PV}, IsPVs X.K H n vs ts → IsPVs X.K H n vs us → eqPVs ts us = true := by
  intro vs
  induction vs with
  | nil =>
    intro ts us h h'
    cases h
    cases h'
    unfold eqPVs
    rfl
  | cons v vs ihv =>
    intro ts us h h'
    cases h with
    | cons a b =>
      cases h' with
      | cons a' b' =>
        unfold eqPVs
        rw [ih a a', ihv b b']
        rfl
theorem pv_same (I : Inv X pins σ H s) : ∀ (n : Nat) {v : V} {t u : PV}, IsPV X.K H n v t → IsPV X.K H n v u → eqPV t u = true := by
  intro n
  induction n with
  | zero =>
    intro v t u h h'
    cases h with
    | «at» f =>
      cases h' with
      | «at» g => unfold eqPV; exact eqV_refl f
  | succ n ih =>
    intro v t u h h'
    cases h with
    | «at» f =>
      cases h' with
      | «at» g => unfold eqPV; exact eqV_refl f
      | tup a b => exact absurd (show false = true from f) Bool.false_ne_true
    | tup a r =>
      cases h' with
      | «at» g => exact absurd (show false = true from g) Bool.false_ne_true
      | tup a' r' =>
        have e := I.tuple_inj a a'
        subst e
        unfold eqPV
        exact pvs_same_of ih _ r r'
theorem pvs_same (I : Inv X pins σ H s) {n : Nat} {vs : List V} {ts us : List PV} (h : IsPVs X.K H n vs ts) (h' : IsPVs X.K H n vs us) : eqPVs ts us = true := pvs_same_of (pv_same I n) _ h h'
/-- what two tuples' items answer -/
theorem tupEq (I : Inv X pins σ H s) {n : Nat} {A : Around} {vs ws : List V} {ts us : List PV} {its its2 : List Value} (r : IsPVs X.K H n vs ts) (r' : IsPVs X.K H n ws us) (v1 : Vals vs its) (v2 : Vals ws its2)
    (ih : ∀ {x y : V} {t u : PV} {v w : Value}, IsPV X.K H n x t → IsPV X.K H n y u → RelV x v → RelV y w → SeqAt.EqAt A s v w (eqPV t u)) :
    (∀ j (h1 : j < its.toArray.size) (h2 : j < its2.toArray.size), SeqAt.EqAt A s its.toArray[j] its2.toArray[j] ((fun j => eqPV (ts.getD j (.at .non)) (us.getD j (.at .non))) j)) ∧
    ((List.range (min its.toArray.size its2.toArray.size)).all (fun j => eqPV (ts.getD j (.at .non)) (us.getD j (.at .non))) && its.toArray.size == its2.toArray.size) = eqPVs ts us := by
  have l1 := v1.length
  have l2 := v2.length
  have l3 := r.length
  have l4 := r'.length
  constructor
  · intro j h1 h2
    simp only [List.size_toArray] at h1 h2
    have g1 : vs[j]? = some vs[j] := List.getElem?_eq_getElem (by omega)
    have g2 : ws[j]? = some ws[j] := List.getElem?_eq_getElem (by omega)
    obtain ⟨u1, e1, ru1⟩ := v1.get g1
    obtain ⟨u2, e2, ru2⟩ := v2.get g2
    obtain ⟨t1, f1, p1⟩ := r.get g1
    obtain ⟨t2, f2, p2⟩ := r'.get g2
    have k1 : its.toArray[j] = u1 := by
      have : its[j]? = some its[j] := List.getElem?_eq_getElem h1
      rw [e1] at this
      simpa using (Option.some.inj this).symm
    have k2 : its2.toArray[j] = u2 := by
      have : its2[j]? = some its2[j] := List.getElem?_eq_getElem h2
      rw [e2] at this
      simpa using (Option.some.inj this).symm
    rw [k1, k2]
    show SeqAt.EqAt A s u1 u2 (eqPV (ts.getD j (.at .non)) (us.getD j (.at .non)))
    rw [show ts.getD j (.at .non) = t1 by simp [List.getD, f1], show us.getD j (.at .non) = t2 by simp [List.getD, f2]]
    exact ih p1 p2 ru1 ru2
  · rw [List.size_toArray, List.size_toArray, ← l1, ← l2, l3, l4]
    exact eqPVs_all ts us
theorem eqAt_tup (I : Inv X pins σ H s) {n : Nat} {A : Around} (hu : A.units + (n + 1) < cLine)
    (ih : ∀ (A : Around), A.units + n < cLine → ∀ {x y : V} {t u : PV} {v w : Value}, IsPV X.K H n x t → IsPV X.K H n y u → RelV x v → RelV y w → SeqAt.EqAt A s v w (eqPV t u))
    {a b : Addr} {vs ws : List V} {ts us : List PV} {its its2 : List Value} (h : SqT X.K H a vs) (r : IsPVs X.K H n vs ts) (h' : SqT X.K H b ws) (r' : IsPVs X.K H n ws us)
    (v1 : Vals vs its) (pl : IsTup s.heap a its.toArray) (v2 : Vals ws its2) (pl2 : IsTup s.heap b its2.toArray) : SeqAt.EqAt A s (.ref a) (.ref b) (eqPVs ts us) := by
  by_cases hab : a = b
  · subst hab
    have e := I.tuple_inj h h'
    subst e
    rw [pvs_same I r r']
    exact SeqAt.EqAt.same _
  · obtain ⟨e1, e2⟩ := tupEq (A := A.in1) I r r' v1 v2 (fun hx hy rx ry => ih A.in1 (by show A.units + 1 + n < cLine; omega) hx hy rx ry)
    rw [← e2]
    exact SeqAt.EqAt.of_refs hab (SeqAt.RcAt.tuples pl pl2 (by omega) e1)
theorem eqAt_PV (I : Inv X pins σ H s) : ∀ (n : Nat) (A : Around), A.units + n < cLine → ∀ {x y : V} {t u : PV} {v w : Value}, IsPV X.K H n x t → IsPV X.K H n y u → RelV x v → RelV y w → SeqAt.EqAt A s v w (eqPV t u) := by
  intro n
  induction n with
  | zero =>
    intro A hu x y t u v w hx hy rx ry
    cases hx with
    | «at» f =>
      cases hy with
      | «at» g => unfold eqPV; exact eqAt_V rx ry f g
  | succ n ih =>
    intro A hu x y t u v w hx hy rx ry
    have hu0 : A.units < cLine := by omega
    cases hx with
    | «at» f =>
      cases hy with
      | «at» g => unfold eqPV; exact eqAt_V rx ry f g
      | tup h r =>
        cases ry
        obtain ⟨its, _, pl, _⟩ := I.tuple h
        unfold eqPV
        cases x with
        | non => cases rx; exact SeqAt.EqAt.none_tuple pl hu0
        | bl b => cases rx; exact SeqAt.EqAt.bool_tuple b pl hu0
        | int i => obtain ⟨k, rfl⟩ := rx; exact SeqAt.EqAt.int_tuple i k pl hu0
        | str z => obtain ⟨k, rfl⟩ := rx; exact SeqAt.EqAt.str_tuple z k pl hu0
        | _ => cases f
    | tup h r =>
      cases rx
      obtain ⟨its, v1, pl, _⟩ := I.tuple h
      cases hy with
      | «at» g =>
        unfold eqPV
        cases y with
        | non => cases ry; exact SeqAt.EqAt.tuple_none pl hu0
        | bl b => cases ry; exact SeqAt.EqAt.tuple_bool b pl hu0
        | int i => obtain ⟨k, rfl⟩ := ry; exact SeqAt.EqAt.tuple_int i k pl hu0
        | str z => obtain ⟨k, rfl⟩ := ry; exact SeqAt.EqAt.tuple_str z k pl hu0
        | _ => cases g
      | tup h' r' =>
        cases ry
        obtain ⟨its2, v2, pl2, _⟩ := I.tuple h'
        unfold eqPV
        exact eqAt_tup I hu ih h r h' r' v1 pl v2 pl2
end
section
variable {X : Cx}
/-- == of two tuples of plain things -/
def rEqT (K : PySem.W.Frag) (n : Nat) (neg : Bool) : R2 := fun x y H Q => ∃ a b vs ws ts us, x = .ref a ∧ y = .ref b ∧ SqT K H a vs ∧ IsPVs K H n vs ts ∧ SqT K H b ws ∧ IsPVs K H n ws us ∧ Q (.bl (if neg then !eqPVs ts us else eqPVs ts us)) H
theorem op_eq_tup (n : Nat) (hu : X.A.units + (n + 1) < cLine) : OpR X (compareOp .Eq) (rEqT X.K n false) := by
  intro pins s σ H x y v u Q I rx ry h
  obtain ⟨a, b, vs, ws, ts, us, rfl, rfl, ha, r, hb, r', q⟩ := h
  cases rx
  cases ry
  obtain ⟨its, v1, pl, _⟩ := I.tuple ha
  obtain ⟨its2, v2, pl2, _⟩ := I.tuple hb
  obtain ⟨e1, e2⟩ := tupEq (A := X.A.in1) I r r' v1 v2 (fun hx hy rx ry => eqAt_PV I n X.A.in1 (by show X.A.units + 1 + n < cLine; omega) hx hy rx ry)
  refine SeqAt.eq_tupleAt pl pl2 (by omega) e1 (fin_bl I q ?_)
  exact e2.symm
end
end L2
namespace L2
open PySem PySem.Spec PyProof.Rows PySem.Builtin PySem.Builtin.Str
/-! ### texts cut -/
theorem cut_all {n : Nat} {j : Int} (h : (n : Int) ≤ j) : (strSliceIndices none (some j) 1 n).length = n := by
  unfold strSliceIndices sliceRange
  simp only [show (1 : Int) > 0 by decide, if_true, List.length_map, List.length_range]
  split <;> (try split) <;> (try split) <;> (try simp only [Int.ediv_one]) <;> omega
/-- x[:j] has a sign where x has one and j is 1 or more -/
theorem cut_pos {x : Str} {j : Int} (hx : 0 < x.length) (hj : 1 ≤ j) : 0 < (Txt.slice x none (some j)).length := by
  have hl : x.cps.toList.length = x.length := by simp [Str.length]
  by_cases h : j ≤ x.length
  · have e := beq_iff_eq.mp (slice_closes_to (x := x) (j := j) ⟨by omega, by rw [hl]; exact h⟩)
    rw [e]
    show 0 < (List.toArray _).size
    rw [List.size_toArray, List.length_take, List.length_drop, hl]
    omega
  · have e : Txt.slice x none (some j) = x := by
      unfold Txt.slice
      rw [cut_all (show ((x.length : Nat) : Int) ≤ j by omega)]
      simp
    rw [e]; exact hx
/-- x[:j] has at most j signs -/
theorem cut_le {x : Str} {j : Int} (hj : 0 ≤ j) : ((Txt.slice x none (some j)).length : Int) ≤ j := by
  have hl : x.cps.toList.length = x.length := by simp [Str.length]
  by_cases h : j ≤ x.length
  · have e := beq_iff_eq.mp (slice_closes_to (x := x) (j := j) ⟨hj, by rw [hl]; exact h⟩)
    rw [e]
    show (((List.toArray _).size : Nat) : Int) ≤ j
    rw [List.size_toArray, List.length_take, List.length_drop, hl]
    omega
  · have := Txt.slice_le x none (some j)
    omega
/-- x[i:] has what is left -/
theorem cut_from {x : Str} {i : Int} (h0 : 0 ≤ i) (h : i ≤ x.length) : ((Txt.slice x (some i) none).length : Int) = x.length - i := by
  have hl : x.cps.toList.length = x.length := by simp [Str.length]
  rw [slice_from_eq h0 h rfl]
  show (((List.toArray _).size : Nat) : Int) = _
  rw [List.size_toArray, List.length_take, List.length_drop, hl]
  omega
end L2

set_option Elab.async false
set_option linter.all false
set_option maxRecDepth 100000
set_option maxHeartbeats 4000000
namespace L2
open PySem PySem.Spec PyProof.Rows
/-- a display of constants as the values that it lists -/
def constsOf : Expr → Option (List V)
  | .List es _ => es.mapM constV
  | _ => none
theorem mapM_map : ∀ {es : List Expr} {vs : List V}, es.mapM constV = some vs → es.map constV = vs.map some := by
  intro es
  induction es with
  | nil =>
    intro vs h
    rw [List.mapM_nil] at h
    have : vs = [] := (Option.some.inj h).symm
    subst this
    rfl
  | cons e es ih =>
    intro vs h
    rw [List.mapM_cons] at h
    cases he : constV e with
    | none => rw [he] at h; cases h
    | some v =>
      cases hr : es.mapM constV with
      | none => rw [he, hr] at h; cases h
      | some r =>
        rw [he, hr] at h
        have : vs = v :: r := (Option.some.inj h).symm
        subst this
        rw [List.map_cons, List.map_cons, he, ih hr]
/-- [c, c, ..] of constants, whatever its length -/
theorem pe_consts {X : Cx} {e : Expr} {vs : List V} (h : constsOf e = some vs) : PE X e (tLst (fun _ H Q => Q vs H)) := by
  cases e with
  | List es p => exact pe_lst (pa_consts (mapM_map h))
  | _ => cases h
end L2

set_option Elab.async false
set_option linter.all false
set_option maxRecDepth 100000
set_option maxHeartbeats 4000000
namespace L2
open PySem PySem.Spec PyProof.Rows
/-! ### a call of a function that a name holds (a parameter, a thing out of a table) -/
section
variable {X : Cx} {CX : CXT} {k : Nat} {E : XK} {x : Str} {p pos : Pos} {e : Expr} {es : List Expr} {tf : TE} {t : TA} {Pf : Addr → Prop} {sp : Addr → Sp}
end
/-! ### any thing: flat values, tuples and lists of things -/
inductive Th where
  | at (v : V)
  | tup (xs : List Th)
  | lst (xs : List Th)
/-- a flat value, a text of at most a thousand signs -/
def smallV : V → Bool
  | .str x => decide (x.length ≤ 1000)
  | v => flatV v
theorem smallV.flat {v : V} (h : smallV v = true) : flatV v = true := by
  cases v with
  | str x => rfl
  | _ => exact h
mutual
inductive IsTh (H : Hp) : V → Th → Prop where
  | at {v : V} (f : smallV v = true) : IsTh H v (.at v)
  | tup {a : Addr} {vs : List V} {ts : List Th} (h : H a = some (.tup vs)) (r : IsThs H vs ts) : IsTh H (.ref a) (.tup ts)
  | lst {a : Addr} {vs : List V} {ts : List Th} (h : H a = some (.lst vs)) (r : IsThs H vs ts) : IsTh H (.ref a) (.lst ts)
inductive IsThs (H : Hp) : List V → List Th → Prop where
  | nil : IsThs H [] []
  | cons {v : V} {vs : List V} {t : Th} {ts : List Th} (h : IsTh H v t) (r : IsThs H vs ts) : IsThs H (v :: vs) (t :: ts)
end
/-- all but dicts stays -/
def Kp (H H' : Hp) : Prop := ∀ a o, H a = some o → (∀ kvs, o ≠ .dK kvs) → H' a = some o
theorem Kp.of {H H1 : Hp} (a : Same H H1) : Kp H H1 := fun c o e _ => a c o e
mutual
theorem IsTh.kp {H H' : Hp} (k : Kp H H') : ∀ {v : V} {t : Th}, IsTh H v t → IsTh H' v t
  | _, _, .at f => .at f
  | _, _, .tup h r => .tup (k _ _ h (fun _ z => by cases z)) (IsThs.kp k r)
  | _, _, .lst h r => .lst (k _ _ h (fun _ z => by cases z)) (IsThs.kp k r)
theorem IsThs.kp {H H' : Hp} (k : Kp H H') : ∀ {vs : List V} {ts : List Th}, IsThs H vs ts → IsThs H' vs ts
  | _, _, .nil => .nil
  | _, _, .cons h r => .cons (IsTh.kp k h) (IsThs.kp k r)
end
theorem IsThs.len {H : Hp} : ∀ (vs : List V) {ts : List Th}, IsThs H vs ts → vs.length = ts.length := by
  intro vs
  induction vs with
  | nil => intro ts h; cases h; rfl
  | cons v vs ih =>
    intro ts h
    cases h with
    | cons a b => rw [List.length_cons, List.length_cons, ih b]
theorem IsThs.app {H : Hp} : ∀ (vs : List V) {ws : List V} {ts us : List Th}, IsThs H vs ts → IsThs H ws us → IsThs H (vs ++ ws) (ts ++ us) := by
  intro vs
  induction vs with
  | nil => intro ws ts us h g; cases h; exact g
  | cons v vs ih =>
    intro ws ts us h g
    cases h with
    | cons a b => exact .cons a (ih b g)
end L2

set_option Elab.async false
set_option linter.all false
set_option maxRecDepth 100000
set_option maxHeartbeats 4000000
namespace L2
open PySem PySem.Spec PyProof.Rows
/-! ### a dict of the module, its keys texts -/
def keyed (kvs : List (Str × V)) : List (Key × V) := kvs.map fun p => (Sum.inr p.1, p.2)
section
variable {X : Cx} {o e f : Expr} {apos cpos : Pos} {td ty tx : TE}
end
end L2

set_option Elab.async false
set_option linter.all false
set_option maxRecDepth 100000
set_option maxHeartbeats 4000000
namespace L2
open PySem PySem.Spec PyProof.Rows
section
variable {X : Cx}
end
end L2

set_option Elab.async false
set_option linter.all false
set_option maxRecDepth 100000
set_option maxHeartbeats 4000000
namespace L2
open PySem PySem.Spec PyProof.Rows PySem.Builtin PySem.Builtin.Str
end L2

set_option Elab.async false
set_option linter.all false
set_option maxRecDepth 100000
set_option maxHeartbeats 4000000
namespace L2
open PySem PySem.Spec PyProof.Rows
section
variable {X : Cx}
end
end L2

set_option Elab.async false
set_option linter.all false
set_option maxRecDepth 100000
set_option maxHeartbeats 4000000
namespace HT
open PySem PySem.Spec PyProof.Rows
section
variable {prog : Program} {w : World} {A : Around} {E : Value → Shared → Prop} {s : Shared}
theorem getItem_tuple_all {t sl : Addr} {items : Array Value} {vl vu : Value} {lo hi : Option Int} {Q : Value → Shared → Prop} (ht : IsTup s.heap t items) (hs : s.heap.IsSliceOf sl vl vu .none) (pl : IsPart vl lo) (pu : IsPart vu hi)
    (hw : sIx items.size 0 lo = 0 ∧ sIx items.size items.size hi = items.size) (h : Q (.ref t) s) : wpAny (model prog w) A (getItem (.ref t) (.ref sl)) Q E s := by
  obtain ⟨os, hos, hcs, hds⟩ := id hs
  have hTs : s.TypeIs (.ref sl) "slice" := ⟨os, hos, hcs⟩
  unfold getItem
  try with_reducible refine wpAny_holding ?_
  first | refine wpAny_bind (wpAny_pure ?_) | skip
  refine wpAny_bind (wpAny_sequenceKey ht.typeIs (by decide) ?_)
  refine wpAny_bind (wpAny_callSpecial?_slot (name := Str.ofString "__getitem__") ht.typeIs PyProof.Rows.slot_tuple_getitem
    (wpAny_call_entry PyProof.Rows.slot_tuple_getitem ht.typeIs entry_tuple_getitem ?_ (args_tuple_getitem _ _)))
  show wpAny _ _ (Builtin.Tuple.tupleItemsOf (.ref t) >>= _) _ _ s
  refine wpAny_bind (tupleItemsOf_ ht ?_)
  refine wpAny_bind (wpAny_typeOf hTs ?_)
  rw [if_pos (by decide)]
  refine wpAny_bind (sliceApplied_gen hs pl pu ?_)
  have hno : ((((sIx items.size 0 lo : Nat) : Int) == 0 && (1 : Int) == 1 && (sIx items.size items.size hi - sIx items.size 0 lo) == items.size) = true) := by
    rw [hw.1, hw.2]; simp
  show wpAny _ _ (if (((sIx items.size 0 lo : Nat) : Int) == 0 && (1 : Int) == 1 && (sIx items.size items.size hi - sIx items.size 0 lo) == items.size) = true then _ else _) _ _ s
  rw [if_pos hno]
  refine wpAny_bind (m := Builtin.Tuple.tupleIsExact _) (wpAny_bind (wpAny_typeOf ht.typeIs (wpAny_pure ?_)))
  rw [if_pos (by decide)]
  refine wpAny_bind (wpAny_rule ?_)
  exact wpAny_pure ⟨_, rfl, wpAny_pure h⟩
end
end HT
namespace L2
open PySem PySem.Spec PyProof.Rows
section
variable {X : Cx}
theorem cutV_all {xs : List V} {lo hi : Option Int} (h : HT.sIx xs.length 0 lo = 0 ∧ HT.sIx xs.length xs.length hi = xs.length) : cutV xs lo hi = xs := by
  unfold cutV
  rw [h.1, h.2, List.drop_zero, Nat.sub_zero, List.take_of_length_le (Nat.le_refl _)]
end
end L2

set_option Elab.async false
set_option linter.all false
set_option maxRecDepth 100000
set_option maxHeartbeats 4000000
namespace L2
open PySem PySem.Spec PyProof.Rows
section
variable {X : Cx}
/-- t[lo:hi] of a plain tuple -/
def rSlP : V → Option Int → Option Int → Hp → VK → Prop := fun x lo hi H Q => ∃ a xs, x = .ref a ∧ H a = some (.tup xs) ∧ ∀ p H', Same H H' → H' p = some (.tup (cutV xs lo hi)) → Q (.ref p) H'
theorem sl_tupP : SlR X rSlP := by
  intro pins s σ H x v vl vu lo hi sl Q I rx hs pl pu h
  obtain ⟨a, xs, rfl, hx, q⟩ := h
  by_cases hw : HT.sIx xs.length 0 lo = 0 ∧ HT.sIx xs.length xs.length hi = xs.length
  · cases rx
    obtain ⟨its, r, ht, hz⟩ := I.tuple (SqT.of hx)
    have hlen : its.toArray.size = xs.length := by rw [List.size_toArray]; exact r.length.symm
    refine ⟨"tuple", _, PyProof.Rows.slot_tuple_getitem.lookup, ht.typeIs, ?_⟩
    refine HT.getItem_tuple_all ht hs pl pu (by rw [hlen]; exact hw) ?_
    exact ⟨.ref a, H, I, rfl, q a H (Same.refl H) (by rw [cutV_all hw]; exact hx)⟩
  · exact sl_tup pins s σ H (.ref a) v vl vu lo hi sl Q I rx hs pl pu ⟨a, xs, rfl, SqT.of hx, hw, fun p hp => q p _ (same_upd hp) upd_same⟩
/-- t + u of plain tuples -/
def rCatP : R2 := fun x y H Q => ∃ a b xs ys, x = .ref a ∧ y = .ref b ∧ H a = some (.tup xs) ∧ H b = some (.tup ys) ∧ xs.length + ys.length ≤ sizeLine ∧
  ∀ p H', Same H H' → H' p = some (.tup (xs ++ ys)) → Q (.ref p) H'
theorem op_catP : OpR X (binaryOp .Add) rCatP := by
  intro pins s σ H x y v u Q I rx ry h
  obtain ⟨a, b, xs, ys, rfl, rfl, ha, hb, hz, q⟩ := h
  by_cases hx : xs = []
  · subst hx
    cases rx
    cases ry
    obtain ⟨its, r1, p1, _⟩ := I.tuple (SqT.of ha)
    obtain ⟨its2, r2, p2, _⟩ := I.tuple (SqT.of hb)
    cases r1
    obtain ⟨⟨cls, dd, data, sl⟩, ho, hc, n, hd⟩ := id p1
    obtain ⟨⟨cls2, dd2, data2, sl2⟩, ho2, hc2, n2, hd2⟩ := id p2
    simp only at hc hd hc2 hd2
    subst hc hd hc2 hd2
    exact concat_meets ⟨_, ho, rfl⟩ ⟨_, ho2, rfl⟩ noFill_tuple_add seq_tuple_add PySem.F.slot_tuple_add PySem.F.entry_tuple_add (PySem.F.args_tuple_add_2 _ _)
      (tuple_addW0 a b _ _ n n2 dd dd2 sl sl2 (by simp)) ⟨ho, ho2, ⟨.ref b, H, I, rfl, q b H (Same.refl H) hb⟩⟩
  · refine op_catT pins s σ H (.ref a) (.ref b) v u Q I rx ry ⟨a, b, xs, ys, rfl, rfl, SqT.of ha, SqT.of hb, hx, hz, fun hy => ?_, fun hy p hp => ?_⟩
    · subst hy
      exact q a H (Same.refl H) (by rw [List.append_nil]; exact ha)
    · exact q p _ (same_upd hp) upd_same
theorem pe_imp {e : Expr} {t t' : TE} (h : PE X e t) (i : ∀ σ H Q, t' σ H Q → t σ H Q) : PE X e t' := fun pins s σ H Q I q => h pins s σ H Q I (i σ H Q q)
end
end L2

set_option Elab.async false
set_option linter.all false
set_option maxRecDepth 100000
set_option maxHeartbeats 4000000
namespace L2
open PySem PySem.Spec PyProof.Rows
/-! ### a call while a list is hidden: what comes back does not reach it -/
section
variable {X : Cx} {pins : List (Addr × Obj)} {σ : St} {H H1 : Hp} {s s1 : Shared}
end
section
variable {X : Cx} {CX : CXT} {k : Nat} {f : Addr} {fd : FuncData} {ps : List Str} {sp : Sp} {E : XK} {x : Str} {p pos : Pos} {e : Expr} {es : List Expr} {t : TA} {ds : List Value} {dvs : List V}
end
end L2

set_option Elab.async false
set_option linter.all false
set_option maxRecDepth 100000
set_option maxHeartbeats 4000000
namespace L2
open PySem PySem.Spec PyProof.Rows
/-! ### a dict of constants, whatever its length up to fifteen -/
def kvOf : List (Option Expr) → List Expr → Option (List (Str × V))
  | [], [] => some []
  | some (.Constant (.str x) _ _) :: ks, v :: vs => (match constV v, kvOf ks vs with
    | some c, some r => some ((x, c) :: r)
    | _, _ => none)
  | _, _ => none
def dictK : Expr → Option (List (Str × V))
  | .Dict ks vs _ => if ks.length ≤ 15 ∧ ks.length = vs.length ∧ 0 < ks.length ∧ ks.all (·.isSome) = true then kvOf ks vs else none
  | _ => none
section
variable {X : Cx}
theorem pe_const {e : Expr} {v : V} (h : constV e = some v) : PE X e (tC v) := by
  cases e with
  | Constant c j p =>
    cases c with
    | int i => cases h; exact pe_int
    | str x => cases h; exact pe_str
    | bool b => cases h; exact pe_bl
    | none => cases h; exact pe_non
    | _ => cases h
  | _ => cases h
theorem pps_of {pos : Pos} : ∀ (ks : List (Option Expr)) (vs : List Expr) {r : List (Str × V)}, kvOf ks vs = some r → PPs X pos ks vs (r.map fun p => (tC (.str p.1), tC p.2)) := by
  intro ks
  induction ks with
  | nil =>
    intro vs r h
    cases vs with
    | nil => cases h; exact pps_nil
    | cons _ _ => cases h
  | cons k ks ih =>
    intro vs r h
    unfold kvOf at h
    split at h
    · rename_i z; cases z
    · rename_i x _ _ ks' v vs' z
      cases z
      split at h
      · rename_i c r' h1 h2
        cases h
        exact pps_cons pe_str (pe_const h1) (ih _ h2)
      · cases h
    · cases h
theorem pairs_of {σ : St} {H : Hp} : ∀ (r : List (Str × V)) {Q : List (V × V) → Hp → Prop}, Q (r.map fun p => (.str p.1, p.2)) H → tPairs (r.map fun p => (tC (.str p.1), tC p.2)) σ H Q := by
  intro r
  induction r with
  | nil => intro Q h; exact h
  | cons p r ih => intro Q h; exact ih h
theorem pe_dict {e : Expr} {r : List (Str × V)} (h : dictK e = some r) : PE X e (fun _ H Q => ∀ p, H p = none → Q (.ref p) (upd H p (.dK (mergeK [] (keyed r))))) := by
  cases e with
  | Dict ks vs pos =>
    have h' : (if ks.length ≤ 15 ∧ ks.length = vs.length ∧ 0 < ks.length ∧ ks.all (·.isSome) = true then kvOf ks vs else none) = some r := h
    split at h'
    · rename_i hk
      obtain ⟨h1, h2, h3, h4⟩ := hk
      refine pe_imp (pe_disp (pps_of ks vs h') h4 h2 (fun z => by rw [z] at h3; simp at h3) h1) fun σ H Q q p hp => ?_
      refine pairs_of r ⟨upd_same, keyed r, ?_, ?_, ?_⟩
      · unfold keyed
        rw [List.map_map]
        rfl
      · have : ∀ (ks : List (Option Expr)) (vs : List Expr) {r : List (Str × V)}, kvOf ks vs = some r → r.length = ks.length := by
          intro ks
          induction ks with
          | nil => intro vs r h; cases vs with
            | nil => cases h; rfl
            | cons _ _ => cases h
          | cons k ks ih =>
            intro vs r h
            unfold kvOf at h
            split at h
            · rename_i z; cases z
            · rename_i x _ _ ks' v vs' z
              cases z
              split at h
              · rename_i c r' h1 h2
                cases h
                rw [List.length_cons, List.length_cons, ih _ h2]
              · cases h
            · cases h
        have e := this ks vs h'
        show (r.map _).length ≤ 15
        rw [List.length_map]
        omega
      · rw [upd_upd]
        exact q p hp
    · cases h'
  | _ => cases h
end
end L2

set_option Elab.async false
set_option linter.all false
set_option maxRecDepth 100000
set_option maxHeartbeats 4000000
namespace L2
open PySem PySem.Spec PyProof.Rows
section
variable {X : Cx}
end
end L2

set_option Elab.async false
set_option linter.all false
set_option maxRecDepth 100000
set_option maxHeartbeats 4000000
namespace L2
open PySem PySem.Spec PyProof.Rows
section
variable {X : Cx} {pins : List (Addr × Obj)} {σ : St} {H : Hp} {s : Shared} {h' : Heap}
/-- some objects turned, all of them an iterator's own -/
theorem Inv.turnedL {t' : Nat} {ch : List Addr} (I : Inv X pins σ H s) (k : ∀ b o, b ∉ ch → s.heap.get? b = some o → h'.get? b = some o) (hf : ∀ b ∈ ch, FpOk X pins H b) : Inv X pins σ H { s with heap := h', toks := t' } := by
  have nit : ∀ b u, H b = some u → b ∉ ch := fun b u e z => by rw [(hf b z).1] at e; cases e
  refine I.step (g' := s.gens) (d' := s.drawn) (ch := ch) (fun b hb => ?_) (fun b o _ _ hc e _ => k b o hc e) (fun b o _ _ hc e _ => ⟨o.slots, k b o hc e⟩) (fun _ _ _ _ n => n)
    (fun b o hc e => ⟨o, k b o hc e⟩) (fun _ _ e => e) (fun _ _ _ e => e) (fun b ps e => ⟨#[], by rw [e]; simp⟩) (fun m hm => ?_) (fun b u e => ?_) I.bare
  · obtain ⟨f0, f1, f2, f3, f4, f5⟩ := hf b hb
    exact ⟨f3, f1, f4, f5⟩
  · obtain ⟨o, es, ep, ho, r⟩ := hm
    exact ⟨o, es, ep, k _ o (fun z => (hf _ z).2.1 rfl) ho, r⟩
  · refine (I.hok b u e).stay (fun c v hc q => k c v ?_ q) (fun _ q => q) fun _ _ q => q
    rcases hc with z | z
    · rw [z]; exact nit b u e
    · exact nit c _ z
/-- the same, and a new object laid and tracked -/
theorem Inv.turnedLaid {t' : Nat} {ch : List Addr} {a : Addr} {o : HO} (I : Inv X pins σ H s) (k : ∀ b o, b ∉ ch → s.heap.get? b = some o → h'.get? b = some o) (hf : ∀ b ∈ ch, FpOk X pins H b) (hp : s.heap.objs.size ≤ a) (new : ObjOk X.prog X.w (upd H a o) h' a o) :
    Inv X pins σ (upd H a o) { s with heap := h', toks := t' } := by
  have nit : ∀ b u, H b = some u → b ∉ ch := fun b u e z => by rw [(hf b z).1] at e; cases e
  have hn : H a = none := I.hok.fresh hp
  have old : ∀ b u, H b = some u → upd H a o b = some u := fun b u e => by rw [upd_ne (ne_of_none e hn)]; exact e
  refine I.step (g' := s.gens) (d' := s.drawn) (ch := ch) (fun b hb => ?_) (fun b o _ _ hc e _ => k b o hc e) (fun b o _ _ hc e _ => ⟨o.slots, k b o hc e⟩) (fun b u _ e n => ?_)
    (fun b o hc e => ⟨o, k b o hc e⟩) (fun _ _ e => old _ _ e) (fun _ _ _ e => old _ _ e) (fun b ps e => ⟨#[], by rw [old _ _ e]; simp⟩) (fun m hm => ?_) (fun b u e => ?_) I.bare
  · obtain ⟨f0, f1, f2, f3, f4, f5⟩ := hf b hb
    exact ⟨f3, f1, f4, f5⟩
  · rw [upd_ne (fun z => by subst z; exact absurd (Nat.lt_of_lt_of_le (Heap.lt_size e) hp) (Nat.lt_irrefl _))]
    exact n
  · obtain ⟨o, es, ep, ho, r⟩ := hm
    exact ⟨o, es, ep, k _ o (fun z => (hf _ z).2.1 rfl) ho, r⟩
  · by_cases hb : b = a
    · subst hb; rw [upd_same] at e; cases e; exact new
    · rw [upd_ne hb] at e
      refine (I.hok b u e).stay (fun c v hc q => k c v ?_ q) (fun c q => old _ _ q) fun c xs q => old _ _ q
      rcases hc with z | z
      · rw [z]; exact nit b u e
      · exact nit c _ z
end
/-! ### enumerate -/
def Ite (K : PySem.W.Frag) (a : Addr) : It :=
  ⟨fun i H => ∃ xs x, SqL K H a xs ∧ xs[i]? = some x, fun i H v H' => ∃ T x, v = .ref T ∧ H T = none ∧ (∀ xs, SqL K H a xs → xs[i]? = some x) ∧ H' = upd H T (.tup [.int i, x]), fun i H => ∃ xs, SqL K H a xs ∧ xs.length = i⟩
theorem turn_enum {P : Program} {w : World} {K : PySem.W.Frag} {elts : List Expr} {k : Nat} {pos : Pos} (a e it : Addr) (hne : e ≠ it) :
    Turn P w K (.Tuple elts k pos) (Ite K a) [e, it] e (fun i h => (∃ old, IsEnum h e it (i : Nat) old) ∧ h.IsListIter it a i) where
  mem := by simp
  obj := fun i h st b hb => by
    obtain ⟨⟨old, s1⟩, o, s2, _, s3⟩ := st
    rcases List.mem_cons.mp hb with z | z
    · subst z
      exact ⟨_, s1, fun v z => by cases z⟩
    · have z : b = it := by simpa using z
      subst z
      exact ⟨o, s2, fun v z => by rw [s3] at z; cases z⟩
  keep := fun i h h' st k => by
    obtain ⟨⟨old, s1⟩, s2⟩ := st
    exact ⟨⟨old, k e (by simp) _ s1⟩, s2.at fun o e => k it (by simp) o e⟩
  item := by
    intro X hP hw hK hc i pins s σ H E I hf st hg
    subst hP hw hK
    obtain ⟨xs, x, hq, hx⟩ := hg
    obtain ⟨its, rv, p, hz⟩ := I.list hq
    obtain ⟨u, hu, ru⟩ := rv.get hx
    have hae : a ≠ e := fun z => by
      obtain ⟨⟨old, s1⟩, _⟩ := st
      obtain ⟨o, q1, q2, _⟩ := p.isList
      rw [z, s1] at q1
      cases q1
      injection q2 with q2
      exact absurd q2 (by decide)
    have hai : a ≠ it := fun z => by
      obtain ⟨_, o', s2, s3, _⟩ := st
      obtain ⟨o, q1, q2, _⟩ := p.isList
      rw [z, s2] at q1
      cases q1
      rw [s3] at q2
      injection q2 with q2
      exact absurd q2 (by decide)
    have W := WalksT.enumerate (prog := X.prog) (w := X.w) (I.ok.hd hc) e it a hne hae hai its.toArray
    have hi : i < its.toArray.size := by
      rw [List.size_toArray]
      exact (List.getElem?_eq_some_iff.mp hu).1
    refine W.item i s _ _ hi ⟨st.1, st.2, p.isList⟩ fun T vals h' tk hv hT hTup mid kk => ?_
    obtain ⟨t, x', hx', rfl⟩ := hv
    have ex : x' = u := by
      have : its.toArray[i]? = some u := by simpa using hu
      rw [this] at hx'
      exact (Option.some.inj hx').symm
    subst ex
    refine ⟨_, rfl, W.go elts k pos i T _ _ _ mid fun h'' st'' kk2 => ?_⟩
    have hTw : T ∉ [e, it] := W.apart i T _ mid
    have hfresh : H T = none := I.hok.fresh hT
    refine ⟨.ref T, _, I.turnedLaid (a := T) (o := .tup [.int i, x]) (ch := [e, it]) (fun b o hb q => kk2 b o hb (kk b o hb q)) hf hT ?_, rfl, ⟨T, x, rfl, hfresh, fun ys hy => by rw [I.list_inj hy hq]; exact hx, rfl⟩, ⟨st''.1, st''.2.1⟩, fun b hb => ?_⟩
    · refine ⟨by show 2 ≤ sizeLine; decide, [Value.int (i : Nat) t, x'], .cons ⟨t, rfl⟩ (.cons ru .nil), ?_⟩
      obtain ⟨o, q1, q2⟩ := hTup
      exact ⟨o, kk2 T o hTw q1, q2⟩
    · rw [upd_ne (fun z => hTw (by rw [← z]; exact hb))]
      exact (hf b hb).1
  done := by
    intro X hP hw hK hc i pins s σ H E I hf st hg
    subst hP hw hK
    obtain ⟨xs, hq, hx⟩ := hg
    obtain ⟨its, rv, p, hz⟩ := I.list hq
    have hae : a ≠ e := fun z => by
      obtain ⟨⟨old, s1⟩, _⟩ := st
      obtain ⟨o, q1, q2, _⟩ := p.isList
      rw [z, s1] at q1
      cases q1
      injection q2 with q2
      exact absurd q2 (by decide)
    have hai : a ≠ it := fun z => by
      obtain ⟨_, o', s2, s3, _⟩ := st
      obtain ⟨o, q1, q2, _⟩ := p.isList
      rw [z, s2] at q1
      cases q1
      rw [s3] at q2
      injection q2 with q2
      exact absurd q2 (by decide)
    have W := WalksT.enumerate (prog := X.prog) (w := X.w) (I.ok.hd hc) e it a hne hae hai its.toArray
    have hl := rv.length
    have hi : i = its.toArray.size := by rw [List.size_toArray]; omega
    subst hi
    exact W.done s _ _ ⟨st.1, st.2, p.isList⟩ fun h' tk kk => ⟨rfl, I.turnedL (ch := [e, it]) (fun b o hb q => kk b o hb q) hf⟩
  self := by
    intro A i s Q E st h
    obtain ⟨⟨old, s1⟩, _⟩ := st
    exact wpAny_pyIter_enum s1 h
end L2

set_option Elab.async false
set_option linter.all false
set_option maxRecDepth 100000
set_option maxHeartbeats 4000000
namespace L2
open PySem PySem.Spec PyProof.Rows PySem.Builtin PySem.AutoSeq1
/-! ### enumerate of a tuple -/
section
variable {P : Program} {w : World} {B : Around} {G : Value → Shared → Prop} {z : Shared}
theorem drawT_item {gi tp : Addr} {n : Nat} {ys : Array Value} {y : Value} {R : Value → Shared → Prop} (g : z.heap.IsTupleIter gi tp n) (t : z.heap.IsTuple tp ys) (hy : ys[n]? = some y)
    (q : ∀ k, k.IsTupleIter gi tp (n + 1) → Heap.SameBut gi z.heap k → R y { z with heap := k }) : wpAny (model P w) B (SmallTypes.nextOf (.ref gi)) R G z := by
  obtain ⟨og, g1, g2, g3⟩ := id g
  obtain ⟨ot, t1, t2, m, t3⟩ := t
  unfold SmallTypes.nextOf
  refine wpAny_bind (wpAny_callSpecial?_slot (name := Str.ofString "__next__") g.typeIs F.slot_tuple_iterator_next (wpAny_call_entry F.slot_tuple_iterator_next g.typeIs F.entry_tuple_iterator_next ?_ (F.args_tuple_iterator_next_1 _)))
  show wpAny _ _ (field (.ref gi) 0 >>= _) _ _ z
  refine wpAny_bind (wpAny_field g1 g3 (x := .ref tp) rfl ?_)
  show wpAny _ _ (if (Value.ref tp == Value.none) = true then _ else _) _ _ z
  rw [if_neg (show ¬ ((Value.ref tp == Value.none) = true) from Bool.false_ne_true)]
  show wpAny _ _ (field (.ref gi) 1 >>= _) _ _ z
  refine wpAny_bind (wpAny_field g1 g3 (x := .int n 0) rfl ?_)
  show wpAny _ _ (seqItems? (.ref tp) >>= _) _ _ z
  refine wpAny_bind (wpAny_seqItems t1 t3 ?_)
  simp only [Int.toNat_natCast, hy]
  refine wpAny_bind (wpAny_setField g1 g3 (by simp) (wpAny_pure ⟨y, rfl, wpAny_pure (q _ ?_ (Heap.SameBut.update ..))⟩))
  exact ⟨_, Heap.get?_update_self _ g1 (Obj.isFreed_of_fields (Obj.data_mapFields g3 _)), (Obj.cls_mapFields ..).trans g2, by rw [Obj.data_mapFields g3]; simp [rawInt]⟩
theorem drawT_end {gi tp : Addr} {n : Nat} {ys : Array Value} {R : Value → Shared → Prop} (hb : B.handled = none) (g : z.heap.IsTupleIter gi tp n) (t : z.heap.IsTuple tp ys) (hy : ys[n]? = none)
    (q : ∀ k e, Heap.ExtBut gi z.heap k → (∃ o, k.get? e = some o ∧ o.cls = .type "StopIteration") → G (.ref e) { z with heap := k }) : wpAny (model P w) B (SmallTypes.nextOf (.ref gi)) R G z := by
  obtain ⟨og, g1, g2, g3⟩ := id g
  obtain ⟨ot, t1, t2, m, t3⟩ := t
  unfold SmallTypes.nextOf
  refine wpAny_bind (wpAny_callSpecial?_slot (name := Str.ofString "__next__") g.typeIs F.slot_tuple_iterator_next (wpAny_call_entry F.slot_tuple_iterator_next g.typeIs F.entry_tuple_iterator_next ?_ (F.args_tuple_iterator_next_1 _)))
  show wpAny _ _ (field (.ref gi) 0 >>= _) _ _ z
  refine wpAny_bind (wpAny_field g1 g3 (x := .ref tp) rfl ?_)
  show wpAny _ _ (if (Value.ref tp == Value.none) = true then _ else _) _ _ z
  rw [if_neg (show ¬ ((Value.ref tp == Value.none) = true) from Bool.false_ne_true)]
  show wpAny _ _ (field (.ref gi) 1 >>= _) _ _ z
  refine wpAny_bind (wpAny_field g1 g3 (x := .int n 0) rfl ?_)
  show wpAny _ _ (seqItems? (.ref tp) >>= _) _ _ z
  refine wpAny_bind (wpAny_seqItems t1 t3 ?_)
  simp only [Int.toNat_natCast, hy]
  refine wpAny_bind (wpAny_rule (wpAny_bind (wpAny_setField g1 g3 (by simp) ?_)))
  refine wpAny_bind (m := newExc (.type "StopIteration") []) ?_
  simp only [newExc, newTuple]; refine wpAny_bind (wpAny_newObj_type ?_ (by size_fits))
  refine wpAny_bind (m := firstArgMember _ _) (wpAny_of_eq (a := Value.none) (by first | rfl | (simp only [firstArgMember]; rfl)) ?_); refine wpAny_newObj_type ?_ (by size_fits)
  simp only [raiseNew]; refine wpAny_bind (wpAny_handled ?_)
  first | rw [show B.in1.handled = none from hb] | rw [hb]
  refine wpAny_bind (wpAny_pure (wpAny_throw ?_)); exact q _ _ (((Heap.SameBut.update ..).extBut.push _).push _) ⟨_, Heap.get?_push_size _ rfl, rfl⟩
theorem drawsT (hb : B.handled = none) (gi tp : Addr) (hne : tp ≠ gi) (ys : Array Value) : Draws P w B gi [gi, tp] ys.size (fun i v => ys[i]? = some v) (fun i k => k.IsTupleIter gi tp i ∧ k.IsTuple tp ys) where
  live := fun _ _ st => let ⟨o, ho, _⟩ := st.1; ⟨o, ho⟩
  frame := fun _ _ _ st k => ⟨st.1.at fun o e => k gi (by simp) o e, let ⟨o, q1, q2⟩ := st.2; ⟨o, k tp (by simp) o q1, q2⟩⟩
  item := fun i z R G hi st q => by
    refine drawT_item st.1 st.2 (y := ys[i]) (by simp [hi]) fun k g sb => ?_
    refine q _ k z.toks (by simp [hi]) ⟨g, ?_⟩ sb
    obtain ⟨o, q1, q2⟩ := st.2
    exact ⟨o, (sb.2 tp hne).trans q1, q2⟩
  done := fun z R G st q => drawT_end hb st.1 st.2 (by simp) q
theorem enumT_new (tp : Addr) (ys : Array Value) (n : Nat) (dd : Option Addr) (sl : Array (Option Value)) :
    Meets (Builtin.«enumerate.__new__» ⟨[.type "enumerate", .ref tp], []⟩) (fun _ R s => s.heap.get? tp = some { cls := .type "tuple", dict := dd, data := .seq ys n, slots := sl } ∧
      R (.ok (.ret (.ref (s.heap.push { cls := .type "tuple_iterator", data := .fields #[.ref tp, .int 0 0] }).objs.size)))
        { s with heap := (s.heap.push { cls := .type "tuple_iterator", data := .fields #[.ref tp, .int 0 0] }).push { cls := .type "enumerate", data := .fields #[.none, .bool false, .ref s.heap.objs.size, rawInt 0, .none, .none] } }) :=
  .of_wp fun prog w A R s h => by
    obtain ⟨hp, g, d, tk, os⟩ := s
    obtain ⟨ht, h⟩ := h
    have hsub := sub_enumerate
    have hT : Heap.IsTuple (Shared.heap ⟨hp, g, d, tk, os⟩) tp ys := ⟨_, ht, rfl, n, rfl⟩
    wp_walk using wpAny_loadPart' ht
    refine wpAny_stack_any fun st => wpAny_pure ?_
    split
    · rename_i c _ _ _ _ _
      cases (c == Value.type "enumerate")
      · wp_walk using wpAny_loadPart' ht, wpAny_pyIter_tuple hT
        exact ⟨_, rfl, h⟩
      · wp_walk using wpAny_loadPart' ht, wpAny_pyIter_tuple hT
        exact ⟨_, rfl, h⟩
    · wp_walk using wpAny_loadPart' ht, wpAny_pyIter_tuple hT
      exact ⟨_, rfl, h⟩
theorem call_enumT {tp : Addr} {ys : Array Value} {R : Value → Shared → Prop} (t : z.heap.IsTuple tp ys)
    (h : ∀ k, IsEnum k (z.heap.objs.size + 1) z.heap.objs.size 0 .none → k.IsTupleIter z.heap.objs.size tp 0 → (∀ b o, z.heap.get? b = some o → k.get? b = some o) → R (.ref (z.heap.objs.size + 1)) { z with heap := k }) :
    wpAny (model P w) B (call (.type "enumerate") [.ref tp]) R G z := by
  obtain ⟨⟨c, dd, dt, sl⟩, t1, t2, n, t3⟩ := t
  simp only at t2 t3
  subst t2 t3
  refine callType_new F.called_enumerate (by decide) (F.typeCall_enumerate_1 _) (F.newCall_enumerate_1 _) (fun obj => F.args_object_init_2 obj _) F.entry_enumerate_new (enumT_new tp ys n dd sl) ⟨t1, ?_⟩
  have hz : (z.heap.push { cls := .type "tuple_iterator", data := .fields #[.ref tp, .int 0 0] }).objs.size = z.heap.objs.size + 1 := Heap.size_push ..
  show _ ∧ _
  rw [hz]
  have he := Heap.get?_push_size (z.heap.push { cls := .type "tuple_iterator", data := .fields #[.ref tp, .int 0 0] }) (o := { cls := .type "enumerate", data := .fields #[.none, .bool false, .ref z.heap.objs.size, rawInt 0, .none, .none] }) rfl
  rw [hz] at he
  exact ⟨⟨_, he, rfl⟩, h _ he ⟨_, Heap.get?_push_of_some _ (Heap.get?_push_size _ rfl), rfl, rfl⟩ fun b o x => Heap.get?_push_of_some _ (Heap.get?_push_of_some _ x)⟩
end
end L2

set_option Elab.async false
set_option linter.all false
set_option maxRecDepth 100000
set_option maxHeartbeats 4000000
namespace L2
open PySem PySem.Spec PyProof.Rows
def Itf (K : PySem.W.Frag) (a : Addr) : It :=
  ⟨fun i H => ∃ xs x, SqT K H a xs ∧ xs[i]? = some x, fun i H v H' => ∃ T x, v = .ref T ∧ H T = none ∧ (∀ xs, SqT K H a xs → xs[i]? = some x) ∧ H' = upd H T (.tup [.int i, x]), fun i H => ∃ xs, SqT K H a xs ∧ xs.length = i⟩
theorem turn_enumT {P : Program} {w : World} {K : PySem.W.Frag} {elts : List Expr} {k : Nat} {pos : Pos} (a e it : Addr) (hne : e ≠ it) :
    Turn P w K (.Tuple elts k pos) (Itf K a) [e, it] e (fun i h => (∃ old, IsEnum h e it (i : Nat) old) ∧ h.IsTupleIter it a i) where
  mem := by simp
  obj := fun i h st b hb => by
    obtain ⟨⟨old, s1⟩, o, s2, _, s3⟩ := st
    rcases List.mem_cons.mp hb with z | z
    · subst z
      exact ⟨_, s1, fun v z => by cases z⟩
    · have z : b = it := by simpa using z
      subst z
      exact ⟨o, s2, fun v z => by rw [s3] at z; cases z⟩
  keep := fun i h h' st k => by
    obtain ⟨⟨old, s1⟩, s2⟩ := st
    exact ⟨⟨old, k e (by simp) _ s1⟩, s2.at fun o e => k it (by simp) o e⟩
  item := by
    intro X hP hw hK hc i pins s σ H E I hf st hg
    subst hP hw hK
    obtain ⟨xs, x, hq, hx⟩ := hg
    obtain ⟨its, rv, p, hz⟩ := I.tuple hq
    obtain ⟨u, hu, ru⟩ := rv.get hx
    have p' : s.heap.IsTuple a its.toArray := p
    have hae : a ≠ e := fun z => by
      obtain ⟨⟨old, s1⟩, _⟩ := st
      obtain ⟨o, q1, q2, _⟩ := p'
      rw [z, s1] at q1
      cases q1
      injection q2 with q2
      exact absurd q2 (by decide)
    have hai : a ≠ it := fun z => by
      obtain ⟨_, o', s2, s3, _⟩ := st
      obtain ⟨o, q1, q2, _⟩ := p'
      rw [z, s2] at q1
      cases q1
      rw [s3] at q2
      injection q2 with q2
      exact absurd q2 (by decide)
    have W := WalksT.enumerateD (prog := X.prog) (w := X.w) (A := X.A) (drawsT (B := X.A.in1) (I.ok.hd hc) it a hai its.toArray) e hne (by simp [hne, Ne.symm hae]) (by simp)
    have hi : i < its.toArray.size := by
      rw [List.size_toArray]
      exact (List.getElem?_eq_some_iff.mp hu).1
    refine W.item i s _ _ hi ⟨st.1, st.2, p'⟩ fun T vals h' tk hv hT hTup mid kk => ?_
    obtain ⟨t, x', hx', rfl⟩ := hv
    have ex : x' = u := by
      have : its.toArray[i]? = some u := by simpa using hu
      rw [this] at hx'
      exact (Option.some.inj hx').symm
    subst ex
    refine ⟨_, rfl, W.go elts k pos i T _ _ _ mid fun h'' st'' kk2 => ?_⟩
    have hTw : T ∉ [e, it] := W.apart i T _ mid
    have hfresh : H T = none := I.hok.fresh hT
    refine ⟨.ref T, _, I.turnedLaid (a := T) (o := .tup [.int i, x]) (ch := [e, it]) (fun b o hb q => kk2 b o hb (kk b o hb q)) hf hT ?_, rfl, ⟨T, x, rfl, hfresh, fun ys hy => by rw [I.tuple_inj hy hq]; exact hx, rfl⟩, ⟨st''.1, st''.2.1⟩, fun b hb => ?_⟩
    · refine ⟨by show 2 ≤ sizeLine; decide, [Value.int (i : Nat) t, x'], .cons ⟨t, rfl⟩ (.cons ru .nil), ?_⟩
      obtain ⟨o, q1, q2⟩ := hTup
      exact ⟨o, kk2 T o hTw q1, q2⟩
    · rw [upd_ne (fun z => hTw (by rw [← z]; exact hb))]
      exact (hf b hb).1
  done := by
    intro X hP hw hK hc i pins s σ H E I hf st hg
    subst hP hw hK
    obtain ⟨xs, hq, hx⟩ := hg
    obtain ⟨its, rv, p, hz⟩ := I.tuple hq
    have p' : s.heap.IsTuple a its.toArray := p
    have hae : a ≠ e := fun z => by
      obtain ⟨⟨old, s1⟩, _⟩ := st
      obtain ⟨o, q1, q2, _⟩ := p'
      rw [z, s1] at q1
      cases q1
      injection q2 with q2
      exact absurd q2 (by decide)
    have hai : a ≠ it := fun z => by
      obtain ⟨_, o', s2, s3, _⟩ := st
      obtain ⟨o, q1, q2, _⟩ := p'
      rw [z, s2] at q1
      cases q1
      rw [s3] at q2
      injection q2 with q2
      exact absurd q2 (by decide)
    have W := WalksT.enumerateD (prog := X.prog) (w := X.w) (A := X.A) (drawsT (B := X.A.in1) (I.ok.hd hc) it a hai its.toArray) e hne (by simp [hne, Ne.symm hae]) (by simp)
    have hl := rv.length
    have hi : i = its.toArray.size := by rw [List.size_toArray]; omega
    subst hi
    exact W.done s _ _ ⟨st.1, st.2, p'⟩ fun h' tk kk => ⟨rfl, I.turnedL (ch := [e, it]) (fun b o hb q => kk b o hb q) hf⟩
  self := by
    intro A i s Q E st h
    obtain ⟨⟨old, s1⟩, _⟩ := st
    exact wpAny_pyIter_enum s1 h
section
variable {X : Cx}
def iEnum (K : PySem.W.Frag) (ta : TA) : TI := fun σ H R => ta σ H fun vs H1 => ∃ a, vs = [.ref a] ∧ (((∃ xs, SqL K H1 a xs) ∧ R (Ite K a) H1) ∨ ((∃ xs, SqT K H1 a xs) ∧ R (Itf K a) H1))
theorem pi_enum {a : Expr} {ta : TA} {p pos qq : Pos} {elts : List Expr} {kn : Nat} (hg : Gl X "enumerate") (hm : X.mg "enumerate" = none) (ha : PA X [a] ta) (hs : starEach [a] X.env = [(false, eval a X.env)] := by rfl) :
    PI X (.Tuple elts kn qq) (.Call (.Name "enumerate" p) [a] [] pos) (iEnum X.K ta) := by
  intro pins s σ H R I h
  refine Call_ (ld_blt I hg hm boot_enumerate (PyProof.Rows.callWith_type1 (thn (ha pos pins s σ H _ I h) fun us s1 ⟨vs, H1, I1, r1, q1⟩ => ?_) hs rfl))
  obtain ⟨l, e, q1⟩ := q1
  subst e
  cases r1 with
  | cons r rr =>
    cases rr
    cases r
    have fin : ∀ {k : Heap} {J : It} {tn : Nat → Heap → Prop}, (∀ b o, s1.heap.get? b = some o → k.get? b = some o) → IsEnum k (s1.heap.objs.size + 1) s1.heap.objs.size 0 .none →
        Turn X.prog X.w X.K (.Tuple elts kn qq) J [s1.heap.objs.size + 1, s1.heap.objs.size] (s1.heap.objs.size + 1) tn → tn 0 k → R J H1 →
        wpAny (model X.prog X.w) X.A (pyIter (.ref (s1.heap.objs.size + 1))) (PIE X pins σ (.Tuple elts kn qq) R) X.xe { s1 with heap := k } := fun {k J tn} kk ie T t0 hR => by
      refine wpAny_pyIter_enum ie ?_
      refine ⟨_, _, tn, J, H1, rfl, I1.kept (t' := s1.toks) kk, T, t0, fun b hb => ?_, hR⟩
      rcases List.mem_cons.mp hb with z | z
      · subst z; exact I1.fpOk (Nat.le_succ _) (I1.hok.fresh (Nat.le_succ _))
      · have z : b = s1.heap.objs.size := by simpa using z
        subst z; exact I1.fpOk (Nat.le_refl _) (I1.hok.fresh (Nat.le_refl _))
    rcases q1 with ⟨⟨xs, hq⟩, hR⟩ | ⟨⟨xs, hq⟩, hR⟩
    · obtain ⟨its, rv, pl, hz⟩ := I1.list hq
      exact call_enumerate_list pl.isList fun k ie il _ kk => fin kk ie (turn_enum l _ _ (Nat.succ_ne_self _)) ⟨⟨_, ie⟩, il⟩ hR
    · obtain ⟨its, rv, pl, hz⟩ := I1.tuple hq
      exact call_enumT (show s1.heap.IsTuple l its.toArray from pl) fun k ie il kk => fin kk ie (turn_enumT l _ _ (Nat.succ_ne_self _)) ⟨⟨_, ie⟩, il⟩ hR
end
end L2

set_option Elab.async false
set_option linter.all false
set_option maxRecDepth 100000
set_option maxHeartbeats 4000000
namespace L2
open PySem PySem.Spec PyProof.Rows
section
variable {X : Cx}
end
/-! ### repr of a tuple of things -/
def datV : V → PyData
  | .bl b => .bool b
  | .int i => .int i
  | .str x => .str x
  | _ => .none
mutual
def dat : Th → PyData
  | .at v => datV v
  | .tup xs => .tuple (dats xs)
  | .lst xs => .list (dats xs)
def dats : List Th → List PyData
  | [] => []
  | x :: xs => dat x :: dats xs
end
mutual
theorem dat_noDict : ∀ t : Th, (dat t).hasDict = false
  | .at v => by cases v <;> simp only [dat, datV, PyData.hasDict]
  | .tup xs => by simp only [dat, PyData.hasDict]; exact dats_noDict xs
  | .lst xs => by simp only [dat, PyData.hasDict]; exact dats_noDict xs
theorem dats_noDict : ∀ ts : List Th, PyData.hasDictAll (dats ts) = false
  | [] => by simp only [dats, PyData.hasDictAll]
  | t :: ts => by simp only [dats, PyData.hasDictAll, dat_noDict t, dats_noDict ts, Bool.or_self]
end
mutual
theorem reads_of {X : Cx} {pins : List (Addr × Obj)} {σ : St} {H : Hp} {s : Shared} (I : Inv X pins σ H s) : ∀ {v : V} {t : Th} {u : Value}, IsTh H v t → RelV v u → ∃ as, Reads s.heap u (dat t) as
  | v, _, u, .at f, r => by
    cases v with
    | non => cases r; exact ⟨[], .none⟩
    | bl b => cases r; exact ⟨[], .bool b⟩
    | int i => obtain ⟨k, rfl⟩ := r; exact ⟨[], .int i k⟩
    | str x => obtain ⟨k, rfl⟩ := r; exact ⟨[], .str x k⟩
    | _ => cases f
  | _, _, u, .tup h q, r => by
    cases r
    obtain ⟨its, v1, p, _⟩ := I.tuple (SqT.of (K := X.K) h)
    obtain ⟨as, ra⟩ := readsAll_of I q v1
    obtain ⟨o, o1, o2, n, o3⟩ := (show s.heap.IsTuple _ its.toArray from p)
    exact ⟨as, .tuple o1 o2 o3 ra⟩
  | _, _, u, .lst h q, r => by
    cases r
    obtain ⟨its, v1, p, _⟩ := I.list (SqL.of (K := X.K) h)
    obtain ⟨as, ra⟩ := readsAll_of I q v1
    obtain ⟨o, o1, o2, n, o3⟩ := p.isList
    exact ⟨_, .list o1 o2 o3 ra⟩
theorem readsAll_of {X : Cx} {pins : List (Addr × Obj)} {σ : St} {H : Hp} {s : Shared} (I : Inv X pins σ H s) : ∀ {vs : List V} {ts : List Th} {us : List Value}, IsThs H vs ts → Vals vs us → ∃ as, ReadsAll s.heap us (dats ts) as
  | _, _, us, .nil, r => by cases r; exact ⟨[], .nil⟩
  | _, _, us, .cons h q, r => by
    cases r with
    | cons r1 r2 =>
      obtain ⟨a1, e1⟩ := reads_of I h r1
      obtain ⟨a2, e2⟩ := readsAll_of I q r2
      exact ⟨_, .cons e1 e2⟩
end
section
variable {X : Cx}
theorem call_repr (hg : X.A.guards = some []) : CallR X (.builtin "repr") (fun xs H Q => ∃ (a : Addr) (t : Th), xs = [.ref a] ∧ IsTh H (.ref a) t ∧ (dat t).showable = true ∧ X.A.units + ((dat t).depth + 1) < cLine ∧ (dat t).shown.length ≤ sizeLine ∧ Q (.str (dat t).shown) H) := by
  intro pins s σ H xs us Q I r h
  obtain ⟨a, t, rfl, ha, h1, h2, h3, q⟩ := h
  obtain ⟨u, rfl, ru⟩ := vals1 r
  obtain ⟨as, rd⟩ := reads_of I ha ru
  cases ru
  exact repr_of_reads' rd h1 (fun z => by rw [dat_noDict] at z; cases z) hg h2 (fun b o e => e) (fun h' u tk k => ⟨.str _, H, I.kept k, ⟨u, rfl⟩, q⟩) h3
end
end L2

set_option Elab.async false
set_option linter.all false
set_option maxRecDepth 100000
set_option maxHeartbeats 4000000
namespace L2
open PySem PySem.Spec PyProof.Rows
/-! ### things: what they are, how large, how deep -/
def isTup : Th → Bool
  | .tup _ => true
  | _ => false
def tyOf : Th → String
  | .at .non => "NoneType"
  | .at (.bl _) => "bool"
  | .at (.int _) => "int"
  | .at (.str _) => "str"
  | .tup _ => "tuple"
  | .lst _ => "list"
  | _ => ""
def isBlT : Th → Bool
  | .at (.bl _) => true
  | _ => false
def isIntT : Th → Bool
  | .at (.int _) => true
  | .at (.bl _) => true
  | _ => false
def wholeB : Th → Bool
  | .at (.int _) => true
  | _ => false
theorem whole_eq (t : Th) : (isIntT t && !isBlT t) = wholeB t := by
  cases t with
  | «at» v => cases v <;> rfl
  | tup xs => rfl
  | lst xs => rfl
theorem th_ty {K : PySem.W.Frag} {H : Hp} {v : V} {t : Th} (h : IsTh H v t) : TyOf K H v (.type (tyOf t)) := by
  cases h with
  | «at» f =>
    cases v with
    | non => exact .non
    | bl b => exact .bl b
    | int i => exact .int i
    | str x => exact .str x
    | _ => exact absurd (show false = true from f) Bool.false_ne_true
  | tup e r => exact .tup e
  | lst e r => exact .lst e
structure Kits (K : PySem.W.Frag) : Prop where
  int : ∀ {H : Hp} {v : V} {t : Th}, IsTh H v t → PySem.W.kitOne K (.type (tyOf t)) (.type "int") = some (isIntT t)
  bl : ∀ {H : Hp} {v : V} {t : Th}, IsTh H v t → PySem.W.kitOne K (.type (tyOf t)) (.type "bool") = some (isBlT t)
  tup : ∀ {H : Hp} {v : V} {t : Th}, IsTh H v t → PySem.W.kitOne K (.type (tyOf t)) (.type "tuple") = some (isTup t)
theorem ths_get {H : Hp} : ∀ (vs : List V) {ts : List Th} {i : Nat} {v : V}, IsThs H vs ts → vs[i]? = some v → ∃ t, ts[i]? = some t ∧ IsTh H v t := by
  intro vs
  induction vs with
  | nil => intro ts i v h e; cases e
  | cons u vs ih =>
    intro ts i v h e
    cases h with
    | cons a b =>
      cases i with
      | zero =>
        have e' : u = v := by simpa using e
        subst e'
        exact ⟨_, rfl, a⟩
      | succ i =>
        rw [List.getElem?_cons_succ] at e
        obtain ⟨t, e1, e2⟩ := ih b e
        exact ⟨t, by rw [List.getElem?_cons_succ]; exact e1, e2⟩
theorem ths_at {H : Hp} : ∀ (vs : List V) {ts : List Th} {i : Nat} {t : Th}, IsThs H vs ts → ts[i]? = some t → ∃ v, vs[i]? = some v ∧ IsTh H v t := by
  intro vs
  induction vs with
  | nil => intro ts i t h e; cases h; simp at e
  | cons v vs ih =>
    intro ts i t h e
    cases h with
    | cons a b =>
      cases i with
      | zero => simp at e; subst e; exact ⟨v, rfl, a⟩
      | succ i => simp at e; obtain ⟨w, e1, e2⟩ := ih b e; exact ⟨w, by simpa using e1, e2⟩
theorem th_tup {H : Hp} {v : V} {ts : List Th} (h : IsTh H v (.tup ts)) : ∃ a vs, v = .ref a ∧ H a = some (.tup vs) ∧ IsThs H vs ts := by
  cases h with
  | tup e r => exact ⟨_, _, rfl, e, r⟩
theorem th_at {H : Hp} {v w : V} (h : IsTh H v (.at w)) : v = w ∧ smallV w = true := by
  cases h with
  | «at» f => exact ⟨rfl, f⟩
mutual
def Th.sz : Th → Nat
  | .at _ => 1
  | .tup xs => 1 + szs xs
  | .lst xs => 1 + szs xs
def szs : List Th → Nat
  | [] => 0
  | x :: xs => Th.sz x + szs xs
end
theorem sz_pos (t : Th) : 1 ≤ Th.sz t := by
  cases t with
  | «at» v => simp [Th.sz]
  | tup xs => simp [Th.sz]
  | lst xs => simp [Th.sz]
theorem szs_app : ∀ us ws : List Th, szs (us ++ ws) = szs us + szs ws := by
  intro us
  induction us with
  | nil => intro ws; simp [szs]
  | cons u us ih => intro ws; rw [List.cons_append, szs, szs, ih]; omega
theorem szs_len : ∀ ts : List Th, ts.length ≤ szs ts := by
  intro ts
  induction ts with
  | nil => simp [szs]
  | cons t ts ih => have := sz_pos t; rw [List.length_cons, szs]; omega
theorem sz_mem : ∀ (ts : List Th) (t : Th), t ∈ ts → Th.sz t ≤ szs ts := by
  intro ts
  induction ts with
  | nil => intro t h; cases h
  | cons u ts ih =>
    intro t h
    rw [szs]
    rcases List.mem_cons.mp h with z | z
    · subst z; omega
    · have := ih t z; omega
/-- the parts of a node -/
def kidsL (ts : List Th) : List Th := ts.filter isTup
/-- a node: a word, then plain things and nodes; a let has two parts -/
def OkT : Nat → Th → Prop
  | 0, _ => False
  | n + 1, t => ∃ (w : Str) (ts : List Th), t = .tup (.at (.str w) :: ts) ∧ (w = "let" → (kidsL ts).length = 2) ∧ ∀ x ∈ ts, isTup x = true → OkT n x
theorem OkT.up : ∀ (n : Nat) {t : Th}, OkT n t → OkT (n + 1) t := by
  intro n
  induction n with
  | zero => intro t h; exact h.elim
  | succ n ih =>
    intro t h
    obtain ⟨w, ts, e, h1, h2⟩ := h
    exact ⟨w, ts, e, h1, fun x hx hx2 => ih (h2 x hx hx2)⟩
theorem OkT.le {n m : Nat} {t : Th} (h : OkT n t) (hm : n ≤ m) : OkT m t := by
  induction hm with
  | refl => exact h
  | step _ ih => exact OkT.up _ ih
theorem same_none {H H' : Hp} {p : Addr} (s : Same H H') (h : H' p = none) : H p = none := by
  cases e : H p with
  | none => rfl
  | some o => rw [s p o e] at h; cases h
theorem cut1q (x : V) (xs : List V) : cutV (x :: xs) (some 1) none = xs := by
  have e1 : HT.sIx (x :: xs).length 0 (some 1) = min 1 (x :: xs).length := rfl
  have e2 : HT.sIx (x :: xs).length (x :: xs).length none = (x :: xs).length := rfl
  unfold cutV
  rw [e1, e2, List.length_cons]
  have e3 : min 1 (xs.length + 1) = 1 := by omega
  rw [e3]
  show List.take (xs.length + 1 - 1) xs = xs
  exact List.take_of_length_le (by omega)
end L2

set_option Elab.async false
set_option linter.all false
set_option maxRecDepth 100000
set_option maxHeartbeats 4000000
namespace L2
open PySem
/-! ### the walk through a tree, as plain lists -/
/-! ### how many nodes, and the ways to them -/
mutual
def cnt : Th → Nat
  | .tup xs => 1 + cnts xs
  | .at _ => 0
  | .lst _ => 0
def cnts : List Th → Nat
  | [] => 0
  | x :: xs => cnt x + cnts xs
end
mutual
def dp : Th → Nat
  | .tup xs => 1 + dps xs
  | .at _ => 0
  | .lst _ => 0
def dps : List Th → Nat
  | [] => 0
  | x :: xs => max (dp x) (dps xs)
end
mutual
def allp : Th → List (List Nat × Th)
  | .tup xs => ([], .tup xs) :: allps 0 xs
  | .at _ => []
  | .lst _ => []
def allps : Nat → List Th → List (List Nat × Th)
  | _, [] => []
  | i, x :: xs => if isTup x = true then (allp x).map (fun p => (i :: p.1, p.2)) ++ allps (i + 1) xs else allps i xs
end
def allK : Nat → List Th → List (List Nat × Th)
  | _, [] => []
  | i, k :: ks => (allp k).map (fun p => (i :: p.1, p.2)) ++ allK (i + 1) ks
theorem allps_kids : ∀ (xs : List Th) (i : Nat), allps i xs = allK i (kidsL xs) := by
  intro xs
  induction xs with
  | nil => intro i; simp [allps, allK, kidsL]
  | cons x xs ih =>
    intro i
    rw [allps]
    unfold kidsL
    rw [List.filter_cons]
    split
    · rw [allK, ih]; rfl
    · rw [ih]; rfl
theorem allK_app : ∀ (ks ls : List Th) (i : Nat), allK i (ks ++ ls) = allK i ks ++ allK (i + ks.length) ls := by
  intro ks
  induction ks with
  | nil => intro ls i; simp [allK]
  | cons k ks ih =>
    intro ls i
    rw [List.cons_append, allK, allK, ih, List.append_assoc, List.length_cons]
    congr 3
    omega
theorem cnt_tup (t : Th) (h : isTup t = false) : cnt t = 0 := by
  cases t with
  | «at» v => simp [cnt]
  | lst xs => simp [cnt]
  | tup xs => cases h
theorem dp_tup (t : Th) (h : isTup t = false) : dp t = 0 := by
  cases t with
  | «at» v => simp [dp]
  | lst xs => simp [dp]
  | tup xs => cases h
theorem cnts_kids : ∀ xs : List Th, cnts xs = cnts (kidsL xs) := by
  intro xs
  induction xs with
  | nil => rfl
  | cons x xs ih =>
    unfold kidsL
    rw [cnts, List.filter_cons]
    split
    · rw [cnts, ih]; rfl
    · rw [cnt_tup x (by simp_all), Nat.zero_add, ih]; rfl
theorem dps_kids : ∀ xs : List Th, dps xs = dps (kidsL xs) := by
  intro xs
  induction xs with
  | nil => rfl
  | cons x xs ih =>
    unfold kidsL
    rw [dps, List.filter_cons]
    split
    · rw [dps, ih]; rfl
    · rw [dp_tup x (by simp_all), Nat.zero_max, ih]; rfl
mutual
theorem cnt_len : ∀ t : Th, (allp t).length = cnt t
  | .tup xs => by rw [allp, cnt, List.length_cons, cnts_len xs 0]; omega
  | .at _ => by simp [allp, cnt]
  | .lst _ => by simp [allp, cnt]
theorem cnts_len : ∀ (ts : List Th) (i : Nat), (allps i ts).length = cnts ts
  | [], i => by simp [allps, cnts]
  | x :: xs, i => by
    rw [allps, cnts]
    split
    · rw [List.length_append, List.length_map, cnt_len x, cnts_len xs]
    · rw [cnts_len xs, cnt_tup x (by simp_all), Nat.zero_add]
end
end L2

set_option Elab.async false
set_option linter.all false
set_option maxRecDepth 100000
set_option maxHeartbeats 4000000
namespace L2
open PySem PySem.Spec PyProof.Rows
section
variable {K : PySem.W.Frag} {a : Addr} {xs : List V} {σ0 : St} {H : Hp} {g : TG} {tt : TT} {te : TE} {Q : List V → Hp → Prop}
end
/-- for .. in enumerate(a list) -/
theorem for_enumL {K : PySem.W.Frag} {a : Addr} {xs : List V} {g : TG} {tb : TS} {D : Ends} {σ : St} {H : Hp} (Pv : Nat → St → Hp → Prop) (h0 : Pv 0 σ H) (hl : ∀ i σ H, i ≤ xs.length → Pv i σ H → SqL K H a xs)
    (hs : ∀ i x σ H T, xs[i]? = some x → Pv i σ H → H T = none → g (.ref T) σ (upd H T (.tup [.int i, x])) fun σ2 H2 => tb { D with nx := Pv (i + 1), ct := Pv (i + 1), bk := D.nx } σ2 H2) (hd : ∀ σ H, Pv xs.length σ H → D.nx σ H) :
    ∃ W : Nat → Nat → St → Hp → Prop, (∃ m, W 0 m σ H) ∧ ∀ i m σ H, W i m σ H →
      ((Ite K a).stop i H ∧ D.nx σ H) ∨ ((Ite K a).go i H ∧ ∃ N : St → Hp → Prop, (∀ σ' H', N σ' H' → ∃ m', m' < m ∧ W (i + 1) m' σ' H') ∧ ∀ x H', (Ite K a).yld i H x H' → g x σ H' fun σ2 H2 => tb { D with nx := N, ct := N, bk := D.nx } σ2 H2) := by
  refine ⟨fun i m σ H => m = xs.length - i ∧ i ≤ xs.length ∧ Pv i σ H, ⟨xs.length, by simp, Nat.zero_le _, h0⟩, ?_⟩
  rintro i m σ H ⟨rfl, hi, p⟩
  have q := hl i σ H hi p
  by_cases hlt : i < xs.length
  · refine .inr ⟨⟨xs, xs[i], q, by simp [hlt]⟩, Pv (i + 1), fun σ' H' p' => ⟨xs.length - (i + 1), by omega, rfl, hlt, p'⟩, fun v H' y => ?_⟩
    obtain ⟨T, x, rfl, hT, hxx, rfl⟩ := y
    exact hs i x σ H T (hxx xs q) p hT
  · have e : i = xs.length := by omega
    subst e
    exact .inl ⟨⟨xs, q, rfl⟩, hd σ H p⟩
/-! ### ways -/
def pathT (p : List Nat) : Th := .tup (p.map fun i => .at (.int (i : Nat)))
end L2

set_option Elab.async false
set_option linter.all false
set_option maxRecDepth 100000
set_option maxHeartbeats 1000000
namespace Srt
open PySem PyProof.Rows
section
variable {prog : Program} {w : World} {A : Around} {E : Value → Shared → Prop} {s : Shared}
end
end Srt

set_option Elab.async false
set_option linter.all false
set_option maxRecDepth 100000
set_option maxHeartbeats 1000000
namespace Srt
open PySem PyProof.Rows
end Srt

set_option Elab.async false
set_option linter.all false
set_option maxRecDepth 100000
set_option maxHeartbeats 1000000
namespace Srt
open PySem PyProof.Rows
section
variable {prog : Program} {w : World} {A : Around} {E : Value → Shared → Prop} {s : Shared}
end
end Srt

set_option Elab.async false
set_option linter.all false
set_option maxRecDepth 100000
set_option maxHeartbeats 1000000
namespace Srt
open PySem PyProof.Rows
section
variable {prog : Program} {w : World} {A : Around} {E : Value → Shared → Prop} {s : Shared}
end
end Srt

set_option Elab.async false
set_option linter.all false
set_option maxRecDepth 100000
set_option maxHeartbeats 1000000
namespace Srt
open PySem PyProof.Rows
section
variable {prog : Program} {w : World} {A : Around} {E : Value → Shared → Prop} {s : Shared} {a₀ : Array Keyed} {P : Array (Nat × Nat × Nat)}
end
end Srt

set_option Elab.async false
set_option linter.all false
set_option maxRecDepth 100000
set_option maxHeartbeats 1000000
namespace Srt
open PySem PyProof.Rows
section
variable {prog : Program} {w : World} {A : Around} {E : Value → Shared → Prop} {s : Shared} {a₀ : Array Keyed} {P : Array (Nat × Nat × Nat)}
end
end Srt

set_option Elab.async false
set_option linter.all false
set_option maxRecDepth 100000
set_option maxHeartbeats 1000000
namespace Srt
open PySem PyProof.Rows
section
variable {prog : Program} {w : World} {A : Around} {E : Value → Shared → Prop} {s : Shared} {a₀ : Array Keyed} {P : Array (Nat × Nat × Nat)}
end
end Srt

set_option Elab.async false
set_option linter.all false
set_option maxRecDepth 100000
set_option maxHeartbeats 1000000
namespace Srt
open PySem PyProof.Rows
section
variable {M : Model} {A : Around} {E : Value → Shared → Prop}
end
end Srt

set_option Elab.async false
set_option linter.all false
set_option maxRecDepth 100000
set_option maxHeartbeats 4000000
namespace Srt
open PySem PyProof.Rows
section
variable {P : Program} {w : World} {A : Around} {E : Value → Shared → Prop} {s : Shared}
end
end Srt

set_option Elab.async false
set_option linter.all false
set_option maxRecDepth 100000
set_option maxHeartbeats 4000000
namespace Srt
open PySem PyProof.Rows PySem.Spec
section
variable {P : Program} {w : World} {A : Around} {E : Value → Shared → Prop} {s : Shared}
end
end Srt

set_option Elab.async false
set_option linter.all false
set_option maxRecDepth 100000
set_option maxHeartbeats 4000000
namespace Srt
open PySem PyProof.Rows PySem.Spec
section
variable {P : Program} {w : World} {A : Around} {R : Result → Shared → Prop} {I : Addr} {fp wr : List Addr} {G : Array GenState → Array GenState → Prop} {n : Nat} {Pv : Nat → Value → Prop} {St : Nat → Shared → Prop}
end
section
variable {P : Program} {w : World} {A : Around} {E : Value → Shared → Prop} {s : Shared}
end
end Srt

set_option Elab.async false
set_option linter.all false
set_option maxRecDepth 100000
set_option maxHeartbeats 4000000
namespace Srt
open PySem PyProof.Rows PySem.Spec
end Srt

set_option Elab.async false
set_option linter.all false
set_option maxRecDepth 100000
set_option maxHeartbeats 4000000
namespace Srt
open PySem PyProof.Rows PySem.Spec
section
variable {P : Program} {w : World} {A : Around} {E : Value → Shared → Prop} {s : Shared}
end
/-! ### the three walks -/
section
variable {P : Program} {w : World} {A : Around}
end
end Srt

set_option Elab.async false
set_option linter.all false
set_option maxRecDepth 100000
set_option maxHeartbeats 4000000
namespace Srt
open PySem PyProof.Rows PySem.Spec
section
variable {P : Program} {w : World} {A : Around} {E : Value → Shared → Prop} {s : Shared}
end
end Srt

set_option Elab.async false
set_option linter.all false
set_option maxRecDepth 100000
set_option maxHeartbeats 4000000
namespace Srt
open PySem PyProof.Rows PySem.Spec
section
variable {P : Program} {w : World} {A : Around} {E : Value → Shared → Prop} {s : Shared}
end
end Srt

set_option Elab.async false
set_option linter.all false
set_option maxRecDepth 100000
set_option maxHeartbeats 4000000
namespace L2
open PySem PySem.Spec PyProof.Rows Srt
section
variable {X : Cx} {pins : List (Addr × Obj)} {σ : St} {H : Hp} {s : Shared}
end
section
variable {X : Cx} {o e : Expr} {to : TE} {t : TA} {apos cpos : Pos}
end
end L2

set_option Elab.async false
set_option linter.all false
set_option maxRecDepth 100000
set_option maxHeartbeats 4000000
namespace L2
open PySem PySem.Spec PyProof.Rows
mutual
/-- a thing of tuples, ints and texts -/
def plT : Th → Bool
  | .at (.int _) => true
  | .at (.str _) => true
  | .at _ => false
  | .tup xs => plTs xs
  | .lst _ => false
def plTs : List Th → Bool
  | [] => true
  | x :: xs => plT x && plTs xs
end
mutual
def pvT : Th → PV
  | .at v => .at v
  | .tup xs => .tup (pvTs xs)
  | .lst _ => .at .non
def pvTs : List Th → List PV
  | [] => []
  | x :: xs => pvT x :: pvTs xs
end
mutual
theorem pv_of {K : PySem.W.Frag} {H : Hp} : ∀ {v : V} {t : Th}, IsTh H v t → ∀ n, plT t = true → dp t ≤ n → IsPV K H n v (pvT t)
  | _, _, .at f, n, hp, hd => by rw [pvT]; exact .at (smallV.flat f)
  | _, _, .tup h r, n, hp, hd => by
    rw [dp] at hd
    rw [plT] at hp
    rw [pvT]
    cases n with
    | zero => exact absurd hd (by omega)
    | succ n => exact .tup (SqT.of h) (pvs_of r n hp (by omega))
  | _, _, .lst h r, n, hp, hd => by rw [plT] at hp; cases hp
theorem pvs_of {K : PySem.W.Frag} {H : Hp} : ∀ {vs : List V} {ts : List Th}, IsThs H vs ts → ∀ n, plTs ts = true → dps ts ≤ n → IsPVs K H n vs (pvTs ts)
  | _, _, .nil, n, hp, hd => by rw [pvTs]; exact .nil
  | _, _, .cons h r, n, hp, hd => by
    rw [plTs, Bool.and_eq_true] at hp
    rw [dps] at hd
    rw [pvTs]
    exact .cons (pv_of h n hp.1 (by omega)) (pvs_of r n hp.2 (by omega))
end
theorem eqAtV_iff {v w : V} (hv : plT (.at v) = true) (hw : plT (.at w) = true) : eqV v w = true ↔ v = w := by
  cases v with
  | int i =>
    cases w with
    | int j => simp [eqV]
    | str y => simp [eqV]
    | _ => simp [plT] at hw
  | str x =>
    cases w with
    | int j => simp [eqV]
    | str y => simp [eqV]
    | _ => simp [plT] at hw
  | _ => simp [plT] at hv
mutual
theorem eqpv_iff : ∀ (t u : Th), plT t = true → plT u = true → (eqPV (pvT t) (pvT u) = true ↔ t = u)
  | .at v, .at w, ht, hu => by rw [pvT, pvT, eqPV, eqAtV_iff ht hu]; simp
  | .at v, .tup ys, ht, hu => by rw [pvT, pvT, eqPV]; simp
  | .tup xs, .at w, ht, hu => by rw [pvT, pvT, eqPV]; simp
  | .tup xs, .tup ys, ht, hu => by rw [plT] at ht hu; rw [pvT, pvT, eqPV, eqpvs_iff xs ys ht hu]; simp
  | .lst _, _, ht, hu => by rw [plT] at ht; cases ht
  | _, .lst _, ht, hu => by rw [plT] at hu; cases hu
theorem eqpvs_iff : ∀ (ts us : List Th), plTs ts = true → plTs us = true → (eqPVs (pvTs ts) (pvTs us) = true ↔ ts = us)
  | [], [], _, _ => by rw [pvTs, eqPVs]; simp
  | [], y :: ys, _, _ => by rw [pvTs, pvTs, eqPVs]; simp
  | x :: xs, [], _, _ => by rw [pvTs, pvTs, eqPVs]; simp
  | x :: xs, y :: ys, ht, hu => by
    rw [plTs, Bool.and_eq_true] at ht hu
    rw [pvTs, pvTs, eqPVs, Bool.and_eq_true, eqpv_iff x y ht.1 hu.1, eqpvs_iff xs ys ht.2 hu.2]
    simp
end
section
variable {X : Cx}
/-- == and != of two trees: the same tree or not -/
def rSame (neg : Bool) (n : Nat) (mk : List Th → Th) : R2 := fun x y H Q => ∃ ts us, IsTh H x (mk ts) ∧ IsTh H y (mk us) ∧ plTs ts = true ∧ plTs us = true ∧ dps ts ≤ n ∧ dps us ≤ n ∧ (ts = us → Q (.bl (!neg)) H) ∧ (ts ≠ us → Q (.bl neg) H)
theorem same_of {n : Nat} {ts us : List Th} {Q : V → Hp → Prop} {H : Hp} {b neg : Bool} (p1 : plTs ts = true) (p2 : plTs us = true) (q1 : ts = us → Q (.bl (!neg)) H) (q2 : ts ≠ us → Q (.bl neg) H) (e : b = if neg then !eqPVs (pvTs ts) (pvTs us) else eqPVs (pvTs ts) (pvTs us)) : Q (.bl b) H := by
  have hi := eqpvs_iff ts us p1 p2
  by_cases z : ts = us
  · rw [hi.mpr z] at e
    have : b = !neg := by rw [e]; cases neg <;> rfl
    rw [this]
    exact q1 z
  · have hf : eqPVs (pvTs ts) (pvTs us) = false := by
      cases h : eqPVs (pvTs ts) (pvTs us) with
      | false => rfl
      | true => exact absurd (hi.mp h) z
    rw [hf] at e
    have : b = neg := by rw [e]; cases neg <;> rfl
    rw [this]
    exact q2 z
theorem op_eqTh {K : PySem.W.Frag} (hK : X.K = K) (n : Nat) (hu : X.A.units + (n + 1) < cLine) : OpR X (compareOp .Eq) (rSame false n .tup) := by
  subst hK
  intro pins s σ H x y v u Q I rx ry h
  obtain ⟨ts, us, hx, hy, p1, p2, d1, d2, q1, q2⟩ := h
  obtain ⟨a, vs, rfl, ha, hvs⟩ := th_tup hx
  obtain ⟨b, ws, rfl, hb, hws⟩ := th_tup hy
  exact op_eq_tup n hu pins s σ H _ _ v u Q I rx ry ⟨a, b, vs, ws, _, _, rfl, rfl, SqT.of ha, pvs_of hvs n p1 d1, SqT.of hb, pvs_of hws n p2 d2, same_of (n := n) (neg := false) p1 p2 q1 q2 rfl⟩
end
section
variable {X : Cx} {o e f : Expr} {apos cpos : Pos} {td ty tx : TE}
end
end L2

set_option Elab.async false
set_option linter.all false
set_option maxRecDepth 100000
set_option maxHeartbeats 4000000
namespace L2
open PySem PySem.Spec PyProof.Rows
section
variable {P : Program} {w : World} {A : Around} {E : Value → Shared → Prop} {s : Shared}
end
section
variable {X : Cx}
end
end L2

set_option Elab.async false
set_option linter.all false
set_option maxRecDepth 100000
set_option maxHeartbeats 4000000
namespace L2
open PySem PySem.Spec PyProof.Rows PySem.Builtin PySem.AutoSeq1
/-! ### list(zip(t, u)) of two tuples of one length -/
abbrev ZipF (h : Heap) (z TI TO : Addr) (f0 f1 : Value) : Prop := h.get? z = some { cls := .type "zip", dict := none, data := .fields #[f0, f1, .bool false, .ref TI, .ref TO], slots := #[] }
theorem tupExt {h h' : Heap} {b t : Addr} {xs : Array Value} (x : h.IsTuple t xs) (hs : Heap.ExtBut b h h') (hb : t ≠ b) : h'.IsTuple t xs := by
  obtain ⟨o, q1, q2⟩ := x
  exact ⟨o, hs _ _ hb q1, q2⟩
section
variable {prog : Program} {w : World} {A : Around} {E : Value → Shared → Prop} {s : Shared}
theorem wp_alive {M : Model} {a : Addr} {Q : Option Obj → Shared → Prop} (h : Q (s.heap.get? a) s) : wpAny M A (loadIfAlive a) Q E s := fun _ _ _ => h
/-- the tuple that is its own is free, or not -/
theorem zip_free {z TI TO : Addr} {f0 f1 : Value} {Q : Bool → Shared → Prop} (h0 : f0 = .none ∨ ∃ a t, f0 = .int a t) (hz : ZipF s.heap z TI TO f0 f1)
    (q1 : Q true s) (q2 : ∀ h' f1', ZipF h' z TI TO f0 f1' → h'.objs.size = s.heap.objs.size → Heap.ExtBut z s.heap h' → Q false { s with heap := h' }) : wpAny (model prog w) A (SmallTypes.ownedTupleIsFree (.ref z)) Q E s := by
  unfold SmallTypes.ownedTupleIsFree
  rcases h0 with rfl | ⟨a, t, rfl⟩
  · exact wpAny_bind (wpAny_field hz rfl (x := .none) rfl (wpAny_pure q1))
  · refine wpAny_bind (wpAny_field hz rfl (x := .int a t) rfl ?_)
    refine wpAny_bind (wp_alive ?_)
    refine wpAny_ite_split (fun _ => wpAny_pure q1) (fun _ => ?_)
    refine wpAny_bind (wpAny_field hz rfl (x := f1) rfl ?_)
    refine wpAny_ite_split (fun _ => ?_) (fun _ => ?_)
    · refine wpAny_bind (wpAny_setField_rec hz (by simp) fun h' hz' hs => wpAny_pure ?_)
      exact q2 h' (.bool true) hz' hs.1 hs.extBut
    · exact wpAny_pure (q2 s.heap f1 hz rfl fun _ _ _ e => e)
end
end L2

set_option Elab.async false
set_option linter.all false
set_option maxRecDepth 100000
set_option maxHeartbeats 4000000
namespace L2
open PySem PySem.Spec PyProof.Rows PySem.Builtin PySem.AutoSeq1
theorem tupPush {h : Heap} {t : Addr} {xs : Array Value} (x : h.IsTuple t xs) (o : Obj) : (h.push o).IsTuple t xs := by
  obtain ⟨q, q1, q2⟩ := x
  exact ⟨q, Heap.get?_push_of_some _ q1, q2⟩
section
variable {prog : Program} {w : World} {A : Around} {E : Value → Shared → Prop} {s : Shared}
theorem no_zip_len : typeLookup (.type "zip") "__len__" = pure none := by rw [typeLookup_type, builtinLookup_eq_fast]; kernel_rfl
theorem no_zip_hint : typeLookup (.type "zip") "__length_hint__" = pure none := by rw [typeLookup_type, builtinLookup_eq_fast]; kernel_rfl
theorem hint_zip {z : Addr} {Q : Bool → Shared → Prop} (hT : s.TypeIs (.ref z) "zip") (h : Q true s) : wpAny (model prog w) A (List.listLengthHint (.ref z)) Q E s := by
  unfold List.listLengthHint
  refine wpAny_bind (wpAny_specialOf hT no_zip_len ?_)
  dsimp only
  rw [if_neg (by decide +kernel)]
  rw [if_neg (by decide +kernel)]
  refine wpAny_bind (wpAny_specialOf hT no_zip_hint ?_)
  exact wpAny_pure h
end
end L2

set_option Elab.async false
set_option linter.all false
set_option maxRecDepth 100000
set_option maxHeartbeats 4000000
namespace L2
open PySem PySem.Spec PyProof.Rows PySem.Builtin PySem.AutoSeq1
/-- what list(zip(..)) leaves -/
structure Zipd (H : Hp) (l : Addr) (xs ys : List V) (i : Nat) (H' : Hp) : Prop where
  same : ∀ b o, b ≠ l → H b = some o → H' b = some o
  ps : ∃ ps : List Addr, ps.length = i ∧ H' l = some (.lst (ps.map V.ref)) ∧ ∀ (j : Nat) (p : Addr), ps[j]? = some p → p ≠ l ∧ ∃ x y, xs[j]? = some x ∧ ys[j]? = some y ∧ H' p = some (.tup [x, y])
section
variable {X : Cx} {pins : List (Addr × Obj)} {σ : St}
end
end L2

set_option Elab.async false
set_option linter.all false
set_option maxRecDepth 100000
set_option maxHeartbeats 4000000
namespace L2
open PySem PySem.Spec PyProof.Rows PySem.Builtin PySem.AutoSeq1
section
variable {X : Cx}
end
end L2

set_option Elab.async false
set_option linter.all false
set_option maxRecDepth 100000
set_option maxHeartbeats 4000000
namespace L2
open PySem PySem.Spec PyProof.Rows
section
variable {M : Model} {A : Around} {E : Value → Shared → Prop} {env : Env} {nm q : Str} {C N : Addr} {bs bm : List Value} {hdct : Bool} {sn : List Str} {sub : List Value} {ab : Bool} {col : Option Bool} {dd : Option Addr} {k0 k1 k2 k3 k5 : Option Value} {newId : String} {s : Shared}
theorem ty_ref {e : Addr} {o : Obj} {Q : Value → Shared → Prop} (he : s.heap.get? e = some o) (h : Q o.cls s) : wpAny M A (typeOf (.ref e)) Q E s :=
  wpAny_bind (wpAny_loadPart he (wpAny_pure h))
theorem no_type {e : Addr} {o : Obj} {vs : Array Value} {Q : Bool → Shared → Prop} (he : s.heap.get? e = some o) (hd : o.data = .fields vs) (h : Q false s) : wpAny M A (isType (.ref e)) Q E s := by
  refine wpAny_bind (wpAny_loadPart he (wpAny_pure ?_))
  rw [hd]
  exact h
theorem sub_exc {base : Value} {Q : Bool → Shared → Prop} (hC : s.heap.get? C = some (excClassObj nm q C N bs bm hdct sn sub ab col dd k0 k1 k2 k3 k5 newId)) (h : Q ((Value.ref C :: bm).contains base) s) : wpAny M A (isSubtype (.ref C) base) Q E s := by
  obtain ⟨hp, g, d, t, os⟩ := s
  exact wpAny_isSubtype_exc hC h
theorem inst_exc {e : Addr} {o : Obj} {base : Value} {Q : Bool → Shared → Prop} (hC : s.heap.get? C = some (excClassObj nm q C N bs bm hdct sn sub ab col dd k0 k1 k2 k3 k5 newId)) (he : s.heap.get? e = some o) (hc : o.cls = .ref C) (h : Q ((Value.ref C :: bm).contains base) s) :
    wpAny M A (isInstance (.ref e) base) Q E s := by
  refine wpAny_bind (ty_ref he ?_)
  rw [hc]
  exact sub_exc hC h
theorem flight0 {e : Addr} {o : Obj} {vs : Array Value} {Q : Unit → Shared → Prop} (he : s.heap.get? e = some o) (hd : o.data = .fields vs) (h1 : vs[1]? = some .none) (h : Q () s) : wpAny M A (setFlight (.ref e) none) Q E s := by
  refine wpAny_bind (wpAny_field he hd h1 ?_)
  exact wpAny_pure h
theorem class_is {Q : Bool → Shared → Prop} (hC : s.heap.get? C = some (excClassObj nm q C N bs bm hdct sn sub ab col dd k0 k1 k2 k3 k5 newId)) (h : Q true s) : wpAny M A (isType (.ref C)) Q E s :=
  wpAny_bind (wpAny_loadPart hC (wpAny_pure h))
theorem check_new {B initId : String} {bmB : List Value} (F : ExcBaseFacts B newId initId bmB) (hB : (Value.ref C :: bm).contains (.type B) = true) {rest : List Value} {Q : Unit → Shared → Prop}
    (hC : s.heap.get? C = some (excClassObj nm q C N bs bm hdct sn sub ab col dd k0 k1 k2 k3 k5 newId)) (h : Q () s) : wpAny M A (checkBuiltinCall newId { pos := .ref C :: rest }) Q E s := by
  unfold checkBuiltinCall
  rw [F.newKind, F.newSplit, F.newRow]
  refine wpAny_ite_true rfl ?_
  refine wpAny_bind (class_is hC ?_)
  refine wpAny_ite_false rfl ?_
  refine wpAny_bind (sub_exc hC ?_)
  rw [hB]
  refine wpAny_ite_false rfl ?_
  obtain ⟨hp, g, d, t, os⟩ := s
  refine wpAny_bind (wpAny_staticBase_exc hC ?_)
  refine wpAny_bind (wpAny_madeBy_exc hC ?_)
  refine wpAny_ite_false (by simp) ?_
  have hpr : ∀ (b : Bool) (sg : Manifest.Signature) (r : Option Value), Bind.printed B b sg r = pure B := fun b sg r => by
    unfold Bind.printed
    rw [F.noStar]
    rfl
  refine wpAny_bind (wpAny_of_eq (hpr _ _ _) ?_)
  refine wpAny_bind (wpAny_of_eq (hpr _ _ _) ?_)
  exact wpAny_onRaise (wpAny_pure h)
theorem new_code {prog : Program} {w : World} {R : Result → Shared → Prop} {B initId : String} {bmB : List Value} (F : ExcBaseFacts B newId initId bmB) (hB : (Value.ref C :: bm).contains (.type B) = true) (hA : (Value.ref C :: bm).contains (.type "AttributeError") = false) (hN : (Value.ref C :: bm).contains (.type "NameError") = false) {rest : List Value}
    (hC : s.heap.get? C = some (excClassObj nm q C N bs bm hdct sn sub ab col dd k0 k1 k2 k3 k5 newId))
    (h : R (.ok (.ret (.ref (s.heap.objs.size + 1)))) { s with heap := (s.heap.push { cls := .type "tuple", data := .seq rest.toArray }).push { cls := .ref C, data := .fields #[.ref s.heap.objs.size, .none, .none, .none, .bool false, .none] } })
    (hl : rest.length ≤ sizeLine) : codeAny (model prog w) A (.builtin newId { pos := .ref C :: rest }) R s := by
  refine codeAny_builtinAt F.entry ?_
  unfold Builtin.«BaseException.__new__»
  refine PySem.wpAt_bind ?_
  refine PySem.wpAt_bind (PySem.wpAt_stack fun p below => ?_)
  refine wpAt_of_wpAny (wpAny_ite_true (decide_eq_true F.ends) (wpAny_pure ?_))
  rw [F.owner]
  refine wpAt_of_wpAny ?_
  refine wpAny_bind (class_is hC ?_)
  refine wpAny_ite_false rfl ?_
  refine wpAny_bind (sub_exc hC ?_)
  rw [hB]
  refine wpAny_ite_false rfl ?_
  obtain ⟨hp, g, d, t, os⟩ := s
  refine wpAny_bind (wpAny_madeHere_exc F.canon hC ?_)
  refine wpAny_bind (wpAny_bind (wpAny_isSubtype_exc hC ?_))
  rw [hA]
  refine wpAny_ite_false rfl (wpAny_bind (wpAny_isSubtype_exc hC ?_))
  rw [hN]
  refine wpAny_ite_false rfl (wpAny_pure ?_)
  refine wpAny_bind (wpAny_newTuple ?_ hl)
  have hC2 : (hp.push { cls := .type "tuple", data := .seq rest.toArray }).get? C = _ := Heap.get?_push_of_some _ hC
  have e1 : (#[Value.ref hp.objs.size, .none, .none, .none, .bool false, .none] ++ (List.replicate 0 (rawInt 0)).toArray) = #[Value.ref hp.objs.size, .none, .none, .none, .bool false, .none] := rfl
  refine wpAny_bind ?_
  show wpAny _ _ (newObj (.ref C) (.fields (#[Value.ref hp.objs.size, .none, .none, .none, .bool false, .none] ++ (List.replicate 0 (rawInt 0)).toArray))) _ _ _
  rw [e1]
  have e2 : ¬ (#[Value.ref hp.objs.size, .none, .none, .none, .bool false, .none] : Array Value).size > sizeLine + 2 := by
    show ¬ 6 > sizeLine + 2
    decide
  unfold newObj
  simp only [if_neg e2]
  refine wpAny_bind (wpAny_alloc' ?_)
  refine wpAny_bind (wpAny_bind (wpAny_load' (Heap.get?_push_of_some _ hC2) (wpAny_pure ?_)))
  refine wpAny_ite_false rfl ?_
  refine wpAny_pure (wpAny_pure ?_)
  show R (.ok (.ret (.ref (hp.push { cls := .type "tuple", data := .seq rest.toArray }).objs.size))) _
  rw [Heap.size_push]
  exact h
/-- an exception of one's own, made, is raised -/
theorem raise_made {x : Sem Value} {Q : Flow → Shared → Prop} (hb : bm.contains (Value.type "BaseException") = true) (hh : A.handled = none)
    (h : wpAny M A x (fun v s1 => ∃ e oe vs, v = .ref e ∧ s1.heap.get? C = some (excClassObj nm q C N bs bm hdct sn sub ab col dd k0 k1 k2 k3 k5 newId) ∧ s1.heap.get? e = some oe ∧ oe.cls = .ref C ∧ oe.data = .fields vs ∧ vs[1]? = some .none ∧ E (.ref e) s1) E s) :
    wpAny M A (raiseStmt env (some x) none) Q E s := by
  have hb2 : (Value.ref C :: bm).contains (Value.type "BaseException") = true := by
    rw [List.contains_cons, hb, Bool.or_true]
  refine wpAny_bind (wpAny_mono h ?_ fun _ _ z => z)
  rintro v s1 ⟨e, oe, vs, rfl, hC, he, hc, hd, h1, z⟩
  refine wpAny_bind (wpAny_pure ?_)
  refine wpAny_bind (wpAny_holding ?_)
  refine wpAny_bind (wpAny_bind (no_type he hd (wpAny_pure ?_)))
  refine wpAny_bind (inst_exc hC he hc ?_)
  rw [hb2]
  refine wpAny_pure ?_
  refine wpAny_bind (no_type he hd ?_)
  refine wpAny_bind (wpAny_bind (ty_ref he ?_))
  rw [hc]
  refine wpAny_bind (ty_ref hC ?_)
  refine wpAny_pure ?_
  refine wpAny_bind (flight0 he hd h1 ?_)
  refine wpAny_bind (wpAny_handled ?_)
  rw [hh]
  exact wpAny_throw z
theorem check_init {B initId nid : String} {bmB : List Value} (F : ExcBaseFacts B nid initId bmB) (hB : (Value.ref C :: bm).contains (.type B) = true) {e : Addr} {oe : Obj} {rest : List Value} {Q : Unit → Shared → Prop}
    (hC : s.heap.get? C = some (excClassObj nm q C N bs bm hdct sn sub ab col dd k0 k1 k2 k3 k5 newId)) (he : s.heap.get? e = some oe) (hc : oe.cls = .ref C) (h : Q () s) : wpAny M A (checkBuiltinCall initId { pos := .ref e :: rest }) Q E s := by
  unfold checkBuiltinCall
  rw [F.initKind, F.initSplit, F.initRow]
  refine wpAny_bind (inst_exc hC he hc ?_)
  rw [hB]
  refine wpAny_ite_false rfl ?_
  have hpr : ∀ (b : Bool) (sg : Manifest.Signature) (r : Option Value), Bind.printed B b sg r = pure B := fun b sg r => by
    unfold Bind.printed
    rw [F.noStar]
    rfl
  refine wpAny_bind ?_
  show wpAny M A (Bind.printed "*" true _ (some (.ref e))) _ _ _
  refine wpAny_ite_false (by decide) ?_
  refine wpAny_bind (wpAny_ite_false rfl (ty_ref he ?_))
  rw [hc]
  obtain ⟨hp, g, d, t, os⟩ := s
  refine wpAny_bind (wpAny_bind (wpAny_bind (wpAny_load' hC (wpAny_pure (wpAny_pure ?_)))))
  refine wpAny_pure ?_
  refine wpAny_bind (wpAny_of_eq (hpr _ _ _) ?_)
  refine wpAny_onRaise (wpAny_of_eq (check_star_args _ _ _ _ _ _) h)
/-- the base's own __init__: the arguments are laid anew -/
theorem init_code {prog : Program} {w : World} {R : Result → Shared → Prop} {B initId nid : String} {bmB : List Value} (F : ExcBaseFacts B nid initId bmB) (hq : initId.startsWith "lifetime." = false) (hB : (Value.ref C :: bm).contains (.type B) = true) {e : Addr} {oe : Obj} {vs : Array Value} {x0 : Value} {rest : List Value}
    (hC : s.heap.get? C = some (excClassObj nm q C N bs bm hdct sn sub ab col dd k0 k1 k2 k3 k5 newId)) (he : s.heap.get? e = some oe) (hc : oe.cls = .ref C) (hd : oe.data = .fields vs) (h0 : vs[0]? = some x0) (hl : rest.length ≤ sizeLine)
    (h : R (.ok (.ret .none)) { s with heap := (s.heap.push { cls := .type "tuple", data := .seq rest.toArray }).update e (Obj.mapFields fun a => a.setIfInBounds 0 (.ref s.heap.objs.size)) }) :
    codeAny (model prog w) A (.call (.builtin initId) ⟨.ref e :: rest, []⟩) R s := by
  refine codeAny_call_builtin_at (Code.quiet_builtin _ hq) F.initEntry (check_init F hB hC he hc ?_)
  have h0' : 0 < vs.size := by
    rcases Nat.lt_or_ge 0 vs.size with z | z
    · exact z
    · rw [Array.getElem?_eq_none z] at h0; cases h0
  refine wpAny_bind (wpAny_newTuple ?_ hl)
  refine wpAny_bind (wpAny_bind (wpAny_field (Heap.get?_push_of_some _ he) hd h0 ?_))
  refine wpAny_bind (wpAny_setField (Heap.get?_push_of_some _ he) hd h0' ?_)
  cases x0 with
  | ref a => exact wpAny_letGo (wpAny_pure h)
  | _ => exact wpAny_pure (wpAny_pure h)
theorem check_sa {e : Addr} {oe : Obj} {nv v : Value} {Q : Unit → Shared → Prop} (hB : (Value.ref C :: bm).contains (.type "object") = true)
    (hC : s.heap.get? C = some (excClassObj nm q C N bs bm hdct sn sub ab col dd k0 k1 k2 k3 k5 newId)) (he : s.heap.get? e = some oe) (hc : oe.cls = .ref C) (h : Q () s) : wpAny M A (checkBuiltinCall "object.__setattr__" { pos := [.ref e, nv, v] }) Q E s := by
  unfold checkBuiltinCall
  rw [show builtinKind "object.__setattr__" = some Manifest.AttrKind.slot by exact F.store_ValueError.kind, show splitId "object.__setattr__" = some ("object", "__setattr__") by exact F.store_ValueError.split]
  refine wpAny_bind (inst_exc hC he hc ?_)
  rw [hB]
  refine wpAny_ite_false rfl ?_
  exact wpAny_of_eq (F.store_ValueError.args _ _ _) h
/-- the first attribute of an exception: its dict is made -/
theorem set_exc {prog : Program} {w : World} {K : PySem.W.Frag} {x : Addr} {vs : Array Value} {name : Str} {v : Value} {Q : Unit → Shared → Prop} (KX : K.In s.heap) (hk : K.lookup C = some (excClassObj nm q C N bs bm true sn sub ab col dd k0 k1 k2 k3 k5 newId))
    (hs : PySem.W.findIn K (.ref C) "__setattr__" = some (some (.builtin "object.__setattr__"))) (hps : ∀ self, refuseLoop self (Str.ofString "__setattr__") (Value.ref C :: bm) = pure ()) (hob : (Value.ref C :: bm).contains (.type "object") = true) (hnm : PySem.W.findIn K (.ref C) name = some none)
    (hx : s.heap.get? x = some { cls := .ref C, data := .fields vs })
    (h : ∀ h', h'.get? x = some { cls := .ref C, dict := some s.heap.objs.size, data := .fields vs } → h'.Ns1 s.heap.objs.size (fun y => if y = name then some v else none) → (∀ b o, b ≠ x → s.heap.get? b = some o → h'.get? b = some o) → Q () { s with heap := h', toks := s.toks + 2 }) :
    wpAny (model prog w) A (setAttr (.ref x) name v) Q E s := by
  have hC := KX _ _ hk
  have J : PySem.W.InstAt s.heap x { cls := .ref C, data := .fields vs } C none := ⟨hx, rfl, rfl, trivial⟩
  have stay : ∀ b o, s.heap.get? b = some o → s.heap.get? b = some o := fun _ _ e => e
  refine PySem.W.set_plain KX J hs ?_
  have hen : entryFor table "object.__setattr__" = some Builtin.«object.__setattr__» := F.store_ValueError.entry
  refine codeAny_call_builtin (b := Builtin.«object.__setattr__») F.store_ValueError.slot.plain hen ?_
  refine check_sa hob hC hx rfl ?_
  rw [PySem.W.osa_eq, refuse_eq]
  refine wpAny_bind (wpAny_bind (ty_ref hx ?_))
  refine wpAny_bind (wpAny_bind (wpAny_bind (wpAny_load hC (wpAny_pure (wpAny_pure (wpAny_of_eq (hps _) ?_))))))
  refine wpAny_bind (ty_ref hx ?_)
  refine wpAny_bind (PySem.W.looks_findIn KX hnm _ _ _ _ stay ?_)
  refine wpAny_bind (wpAny_pure ?_)
  refine wpAny_bind (wpAny_pure ?_)
  refine wpAny_ite_false rfl ?_
  refine wpAny_bind (wpAny_bind (wpAny_loadPart hx ?_))
  refine wpAny_bind (wpAny_bind (wpAny_load hC (wpAny_pure ?_)))
  refine wpAny_ite_false rfl ?_
  refine wpAny_ite_false rfl ?_
  refine wpAny_bind (wpAny_alloc ?_)
  have hx2 := Heap.get?_push_of_some (h := s.heap) { cls := Value.type "dict", data := Data.dict #[] } hx
  have hne : s.heap.objs.size ≠ x := fun z => absurd (Heap.lt_size hx) (by rw [← z]; exact Nat.lt_irrefl _)
  have hd2 : (s.heap.push { cls := Value.type "dict", data := Data.dict #[] }).get? s.heap.objs.size = some { cls := Value.type "dict", data := Data.dict #[] } := Heap.get?_push_size s.heap rfl
  refine wpAny_bind (wpAny_update hx2 ?_)
  refine wpAny_pure ?_
  have hx3 : ((s.heap.push { cls := Value.type "dict", data := Data.dict #[] }).update x fun o => { cls := o.cls, dict := some s.heap.objs.size, data := o.data, slots := o.slots }).get? x = some { cls := .ref C, dict := some s.heap.objs.size, data := .fields vs } := Heap.get?_update_self _ hx2 rfl
  have ko : ∀ b o, b ≠ x → s.heap.get? b = some o → ((s.heap.push { cls := Value.type "dict", data := Data.dict #[] }).update x fun o => { cls := o.cls, dict := some s.heap.objs.size, data := o.data, slots := o.slots }).get? b = some o := fun b o hb e => (Heap.get?_update_other _ _ (Ne.symm hb)).trans (Heap.get?_push_of_some _ e)
  have hd3 : ((s.heap.push { cls := Value.type "dict", data := Data.dict #[] }).update x fun o => { cls := o.cls, dict := some s.heap.objs.size, data := o.data, slots := o.slots }).get? s.heap.objs.size = some { cls := Value.type "dict", data := Data.dict #[] } := (Heap.get?_update_other _ _ (Ne.symm hne)).trans hd2
  have n3 := Heap.Ns1.of_empty (a := s.heap.objs.size) ⟨_, #[], _, hd3, rfl, (fun e he => absurd he (by simp)), fun _ => rfl⟩
  refine wpAny_bind (wpAny_pure ?_)
  refine wpAny_bind (wpAny_nsSet1 n3 fun h' n4 sb => ?_)
  obtain ⟨oD, esD, epD, hoD, hdD, hcD⟩ := n4.count (PySem.Within.cons (ns := []) name v (fun y hy => absurd rfl hy))
  refine wpAny_bind (wpAny_lookBehind hoD (by rw [hdD]; exact pastItsLine_dict (Nat.le_trans hcD (by rw [List.length_cons, sizeLine_eq]; decide))) ?_)
  refine wpAny_pure (h h' ?_ n4 fun b o hb e => ?_)
  · rw [sb.2 x (Ne.symm hne)]
    exact hx3
  · have hb2 : b ≠ s.heap.objs.size := fun z => absurd (Heap.lt_size e) (by rw [z]; exact Nat.lt_irrefl _)
    rw [sb.2 b hb2]
    exact ko b o hb e
theorem check_ga {e : Addr} {oe : Obj} {nv : Value} {Q : Unit → Shared → Prop} (hB : (Value.ref C :: bm).contains (.type "BaseException") = true)
    (hC : s.heap.get? C = some (excClassObj nm q C N bs bm hdct sn sub ab col dd k0 k1 k2 k3 k5 newId)) (he : s.heap.get? e = some oe) (hc : oe.cls = .ref C) (h : Q () s) : wpAny M A (checkBuiltinCall "BaseException.__getattribute__" { pos := [.ref e, nv] }) Q E s := by
  unfold checkBuiltinCall
  rw [show builtinKind "BaseException.__getattribute__" = some Manifest.AttrKind.slot by decide +kernel, show splitId "BaseException.__getattribute__" = some ("BaseException", "__getattribute__") by decide +kernel]
  refine wpAny_bind (inst_exc hC he hc ?_)
  rw [hB]
  refine wpAny_ite_false rfl ?_
  exact wpAny_of_eq (F.args_bexc_ga _ _) h
/-- an attribute of an exception, read -/
theorem get_exc {prog : Program} {w : World} {K : PySem.W.Frag} {x : Addr} {ox : Obj} {od : Option Obj} {name : Str} {v : Value} {expr : Bool} {Q : Value → Shared → Prop} (KX : K.In s.heap) (hk : K.lookup C = some (excClassObj nm q C N bs bm hdct sn sub ab col dd k0 k1 k2 k3 k5 newId))
    (hB : (Value.ref C :: bm).contains (.type "BaseException") = true) (J : PySem.W.InstAt s.heap x ox C od) (hg : PySem.W.findIn K (.ref C) "__getattribute__" = some (some (.builtin "BaseException.__getattribute__"))) (hn : PySem.W.findIn K (.ref C) "__getattr__" = some none)
    (ho : PySem.W.findObj K C od name = some (.value v)) (hv : PySem.W.handedIn v = true) (h : Q v { s with toks := s.toks + 1 }) : wpAny (model prog w) A (getAttr (.ref x) name expr) Q E s := by
  have hC := KX _ _ hk
  obtain ⟨hx, hc, hno, _⟩ := id J
  have stay : ∀ b o, s.heap.get? b = some o → s.heap.get? b = some o := fun _ _ e => e
  refine wpAny_bind (wpAny_mkText ?_)
  refine wpAny_holding ?_
  refine wpAny_bind (ty_ref hx ?_)
  rw [hc]
  refine wpAny_bind (PySem.W.looks_findIn KX hg _ _ _ _ stay ?_)
  refine wpAny_ite_false rfl ?_
  refine wpAny_bind (wpAny_ite_true rfl (PySem.W.looks_findIn KX hn _ _ _ _ stay ?_))
  refine wpAny_bind (wpAny_attempt (wpAny_holding ?_))
  refine wpAny_ite_false (by cases expr <;> rfl) ?_
  refine wpAny_bind (wpAny_of_eq (F.attr_ValueError.ga.bind _) ?_)
  refine wpAny_call (codeAny_call_builtin F.attr_ValueError.ga.plain F.entry_bexc_ga (check_ga hB hC hx hc ?_))
  refine wpAny_bind ?_
  unfold slotArgs
  refine wpAny_ite_false rfl (wpAny_ite_false rfl (wpAny_pure ?_))
  refine wpAny_bind (wpAny_pure ?_)
  refine wpAny_bind (ty_ref hx ?_)
  rw [hc]
  refine wpAny_bind (PySem.W.looks_find KX J ho _ _ _ _ stay ?_)
  refine wpAny_pure ?_
  exact wpAny_of_eq (PySem.W.handedOut_of hv) h
/-- a class of exceptions with an __init__ of its own is called -/
theorem make_exc {prog : Program} {w : World} {K : PySem.W.Frag} {R : Result → Shared → Prop} {B initId : String} {bmB : List Value} {fI : Addr} {us : List Value} (F : ExcBaseFacts B newId initId bmB) (hB : (Value.ref C :: bm).contains (.type B) = true) (hA : (Value.ref C :: bm).contains (.type "AttributeError") = false) (hN : (Value.ref C :: bm).contains (.type "NameError") = false)
    (KX : K.In s.heap) (hk : K.lookup C = some (excClassObj nm q C N bs bm hdct sn sub ab col dd k0 k1 k2 k3 k5 newId)) (hi : PySem.W.findIn K (.ref C) "__init__" = some (some (.ref fI))) (hf : PySem.W.typeIn K (.ref fI) = some (.type "function")) (hl : us.length ≤ sizeLine)
    (h : codeAny (model prog w) (A.under (.builtin "type.__call__" ⟨.ref C :: us, []⟩)) (.call (.ref fI) ⟨.ref (s.heap.objs.size + 1) :: us, []⟩) (PySem.W.InitBack (s.heap.objs.size + 1) R)
      { s with heap := (s.heap.push { cls := .type "tuple", data := .seq us.toArray }).push { cls := .ref C, data := .fields #[.ref s.heap.objs.size, .none, .none, .none, .bool false, .none] } }) :
    codeAny (model prog w) A (.call (.ref C) ⟨us, []⟩) R s := by
  have hC := KX _ _ hk
  refine codeAny_of_tree ?_
  refine wpAny_bind ?_
  obtain ⟨hp, g, d, t, os⟩ := s
  refine wpAny_load' hC ?_
  refine wpAny_bind (wpAny_bind (ty_ref hC (wpAny_of_eq tc_lookup ?_)))
  refine wpAny_bind (wpAny_of_eq (tc_bind _) ?_)
  refine wpAny_bind (wpAny_pure ?_)
  refine wpAny_ite_true rfl (wpAny_pure ⟨?_, ?_⟩)
  · rfl
  refine codeAny_call_builtin_at (Code.quiet_builtin _ (by decide +kernel)) entry_typeCall (wpAny_check_type_call_sub hC ?_)
  unfold Builtin.«type.__call__»
  refine wpAny_ite_false rfl ?_
  refine wpAny_bind (wpAny_bind (wpAny_bind (wpAny_load' hC (wpAny_pure (wpAny_pure ?_)))))
  refine wpAny_ite_false rfl ?_
  refine wpAny_bind (wpAny_madeBy_exc hC ?_)
  refine wpAny_bind (wpAny_pure ?_)
  refine wpAny_bind (wpAny_holding (wpAny_call (codeAny_of_tree ?_)))
  refine wpAny_bind (check_new F hB hC ?_)
  refine wpAny_pure ⟨Code.quiet_builtin _ F.quiet, ?_⟩
  refine new_code F hB hA hN hC ?_ hl
  have k1 : ∀ b o, hp.get? b = some o → ((hp.push { cls := .type "tuple", data := .seq us.toArray }).push { cls := .ref C, data := .fields #[.ref hp.objs.size, .none, .none, .none, .bool false, .none] }).get? b = some o := fun b o e => Heap.get?_push_of_some _ (Heap.get?_push_of_some _ e)
  have KX2 := KX.keeps k1
  have he : ((hp.push { cls := .type "tuple", data := .seq us.toArray }).push { cls := .ref C, data := .fields #[.ref hp.objs.size, .none, .none, .none, .bool false, .none] }).get? (hp.objs.size + 1) = some { cls := .ref C, data := .fields #[.ref hp.objs.size, .none, .none, .none, .bool false, .none] } := by
    have := Heap.get?_push_size (hp.push { cls := .type "tuple", data := .seq us.toArray }) (o := { cls := .ref C, data := .fields #[.ref hp.objs.size, .none, .none, .none, .bool false, .none] }) rfl
    rwa [Heap.size_push] at this
  refine wpAny_bind (inst_exc (k1 _ _ hC) he rfl ?_)
  refine wpAny_ite_false (by rw [List.contains_cons]; simp) ?_
  refine wpAny_bind (wpAny_holding (wpAny_bind (wpAny_bind (ty_ref he ?_))))
  refine PySem.W.looks_findIn KX2 hi _ _ _ _ (fun b o e => e) ?_
  refine wpAny_holding (wpAny_bind (PySem.W.bind_fn KX2 _ hf _ _ _ _ (fun b o e => e) ?_))
  refine wpAny_bind (wpAny_call (codeAny_mono h fun r s' hr => ?_))
  cases r with
  | error e => exact hr
  | ok fl =>
    cases fl with
    | ret v =>
      obtain ⟨rfl, z⟩ := hr
      exact wpAny_pure (wpAny_ite_false rfl (wpAny_pure z))
    | next => exact hr
    | brk => exact hr
    | cont => exact hr
end
end L2

set_option Elab.async false
set_option linter.all false
set_option maxRecDepth 100000
set_option maxHeartbeats 4000000
namespace L2
open PySem PySem.Spec PyProof.Rows
/-- an exception in flight: the object, its dict, its last entry -/
structure Fly (C e d : Addr) (T : Addr) (fl : Value) (h : Heap) : Prop where
  obj : ∃ vs, h.get? e = some { cls := .ref C, dict := some d, data := .fields vs } ∧ vs[1]? = some (.ref T)
  ent : ∃ oT ts, h.get? T = some oT ∧ oT.data = .fields ts ∧ ts[3]? = some fl
  ne : T ≠ e
/-- what stays while an exception is noted -/
structure Nt (fs : List Addr) (e : Addr) (T : Option Addr) (h h' : Heap) : Prop where
  keep : ∀ b o, h.get? b = some o → b ∉ fs → b ≠ e → some b ≠ T → h'.get? b = some o
  slot : ∀ b o, h.get? b = some o → b ≠ e → some b ≠ T → ∃ sl, h'.get? b = some { o with slots := sl }
section
variable {M : Model} {A : Around} {E : Value → Shared → Prop} {s : Shared} {base : Heap} {env : Env} {outer : List Env} {L e d C : Addr}
theorem note_tail {vs : Array Value} {head : Value} {had : Bool} {Q : Unit → Shared → Prop} (fr : A.frames = some (env :: outer)) (ff : s.heap.FunFrames base (env :: outer)) (hL : env.frame = some L)
    (he : s.heap.get? e = some { cls := .ref C, dict := some d, data := .fields vs }) (h1 : 1 < vs.size)
    (h : ∀ h' T, s.heap.get? T = none → Fly C e d T (rawInt L) h' → Nt (frs (env :: outer)) e none s.heap h' → Q () { s with heap := h' }) :
    wpAny M A (do
      let a ← frameOf env
      let pl ← entryPlaceOf L had
      let b ← EntryCells.newEntry head a Value.none (rawInt L) Value.none pl
      setField (Value.ref e) 1 b) Q E s := by
  have hne : e ∉ frs (env :: outer) := fun z => by
    obtain ⟨_, o, ho, hn⟩ := ff.mem z
    rw [he] at ho
    cases ho
    exact hn vs rfl
  refine wpAny_bind (wpAny_frameOf_fun fr ff hL fun h1' so => ?_)
  obtain ⟨sz, sk, ss⟩ := so
  refine wpAny_bind (wpAny_entryPlaceOf fun pl ip => ?_)
  refine wpAny_bind (wpAny_newObj_type ?_ (ip.sizeOk5 _ _ _ _ _))
  have he1 : h1'.get? e = some { cls := .ref C, dict := some d, data := .fields vs } := (sk e hne).trans he
  have he2 := Heap.get?_push_of_some (h := h1') { cls := .type "traceback", data := .fields ([head, .ref L, .none, rawInt L, .none] ++ if pl.isEmpty = true then List.replicate 6 Value.none else pl).toArray } he1
  refine wpAny_setField he2 rfl h1 ?_
  have hT0 : h1'.objs.size ≠ e := fun z => absurd (Heap.lt_size he1) (by rw [← z]; exact Nat.lt_irrefl _)
  have hTn : s.heap.get? h1'.objs.size = none := by
    rw [sz]
    exact Heap.get?_none_of_le (Nat.le_refl _)
  refine h _ h1'.objs.size hTn ⟨⟨_, Heap.get?_update_self _ he2 rfl, ?_⟩, ⟨_, _, (Heap.get?_update_other _ _ (Ne.symm hT0)).trans (Heap.get?_push_size h1' rfl), rfl, ?_⟩, hT0⟩ ⟨fun b o q nf hb _ => ?_, fun b o q hb _ => ?_⟩
  · simp [h1]
  · simp
  · exact (Heap.get?_update_other _ _ (Ne.symm hb)).trans (Heap.get?_push_of_some _ ((sk b nf).trans q))
  · obtain ⟨sl, q2⟩ := ss b o q
    exact ⟨sl, (Heap.get?_update_other _ _ (Ne.symm hb)).trans (Heap.get?_push_of_some _ q2)⟩
theorem Fly.update {T : Addr} {fl fl' : Value} {h : Heap} (F : Fly C e d T fl h) : Fly C e d T fl' (h.update T (Obj.mapFields fun a => a.setIfInBounds 3 fl')) ∧ ∀ b o, h.get? b = some o → b ≠ T → (h.update T (Obj.mapFields fun a => a.setIfInBounds 3 fl')).get? b = some o := by
  obtain ⟨⟨vs, he, hv⟩, ⟨oT, ts, hT, hd, ht⟩, ne⟩ := F
  have k : ∀ b o, h.get? b = some o → b ≠ T → (h.update T (Obj.mapFields fun a => a.setIfInBounds 3 fl')).get? b = some o := fun b o q hb => (Heap.get?_update_other _ _ (Ne.symm hb)).trans q
  have h3 : 3 < ts.size := by
    rcases Nat.lt_or_ge 3 ts.size with z | z
    · exact z
    · rw [Array.getElem?_eq_none z] at ht; cases ht
  refine ⟨⟨⟨vs, k _ _ he (Ne.symm ne), hv⟩, ⟨_, ts.setIfInBounds 3 fl', Heap.get?_update_self _ hT (Obj.isFreed_of_fields (Obj.data_mapFields hd _)), Obj.data_mapFields hd _, ?_⟩, ne⟩, k⟩
  simp [h3]
theorem set_flight {T : Addr} {fl fl' : Value} {Q : Unit → Shared → Prop} (F : Fly C e d T fl s.heap) (h : ∀ h', Fly C e d T fl' h' → (∀ b o, s.heap.get? b = some o → b ≠ T → h'.get? b = some o) → Q () { s with heap := h' }) : wpAny M A (setField (.ref T) 3 fl') Q E s := by
  obtain ⟨F2, k⟩ := F.update (fl' := fl')
  obtain ⟨⟨vs, he, hv⟩, ⟨oT, ts, hT, hd, ht⟩, ne⟩ := F
  have h3 : 3 < ts.size := by
    rcases Nat.lt_or_ge 3 ts.size with z | z
    · exact z
    · rw [Array.getElem?_eq_none z] at ht; cases ht
  exact wpAny_setField hT hd h3 (h _ F2 k)
theorem flight_none {T : Addr} {fl : Value} {Q : Unit → Shared → Prop} (F : Fly C e d T fl s.heap) (h : ∀ h', Fly C e d T .none h' → (∀ b o, s.heap.get? b = some o → b ≠ T → h'.get? b = some o) → Q () { s with heap := h' }) : wpAny M A (setFlight (.ref e) none) Q E s := by
  obtain ⟨vs, he, hv⟩ := F.obj
  refine wpAny_bind (wpAny_field he rfl hv ?_)
  exact wpAny_ite_true rfl (set_flight F h)
theorem note_new {vs : Array Value} {Q : Unit → Shared → Prop} (fr : A.frames = some (env :: outer)) (ff : s.heap.FunFrames base (env :: outer)) (hL : env.frame = some L)
    (he : s.heap.get? e = some { cls := .ref C, dict := some d, data := .fields vs }) (hv : vs[1]? = some .none)
    (h : ∀ h' T, s.heap.get? T = none → Fly C e d T (rawInt L) h' → Nt (frs (env :: outer)) e none s.heap h' → Q () { s with heap := h' }) : wpAny M A (noteFrame (.ref e) env) Q E s := by
  have h1 : 1 < vs.size := by
    rcases Nat.lt_or_ge 1 vs.size with z | z
    · exact z
    · rw [Array.getElem?_eq_none z] at hv; cases hv
  unfold noteFrame
  rw [hL]
  refine wpAny_bind (wpAny_field he rfl hv ?_)
  exact wpAny_ite_false rfl (note_tail fr ff hL he h1 h)
theorem note_on {T : Addr} {Q : Unit → Shared → Prop} (fr : A.frames = some (env :: outer)) (ff : s.heap.FunFrames base (env :: outer)) (hL : env.frame = some L) (F : Fly C e d T .none s.heap)
    (h : ∀ h' T', s.heap.get? T' = none → Fly C e d T' (rawInt L) h' → Nt (frs (env :: outer)) e (some T) s.heap h' → Q () { s with heap := h' }) : wpAny M A (noteFrame (.ref e) env) Q E s := by
  obtain ⟨vs, he, hv⟩ := F.obj
  obtain ⟨oT, ts, hT, hd, ht⟩ := F.ent
  unfold noteFrame
  rw [hL]
  refine wpAny_bind (wpAny_field he rfl hv ?_)
  refine wpAny_ite_true rfl ?_
  refine wpAny_bind (wpAny_field hT hd ht ?_)
  refine wpAny_ite_false rfl ?_
  refine wpAny_bind (set_flight F fun h2 F2 k2 => ?_)
  obtain ⟨vs2, he2, hv2⟩ := F2.obj
  have h1 : 1 < vs2.size := by
    rcases Nat.lt_or_ge 1 vs2.size with z | z
    · exact z
    · rw [Array.getElem?_eq_none z] at hv2; cases hv2
  have ff2 : h2.FunFrames base (env :: outer) := Heap.FunFrames.of_keeps (fun b o q nf => ⟨o, k2 b o q (fun z => by rw [z, hT] at q; cases q; exact nf ts hd), rfl⟩) ff
  refine note_tail (s := { s with heap := h2 }) fr ff2 hL he2 h1 fun h' T' hn F' nt => h h' T' ?_ F' ⟨fun b o q nf hb hx => ?_, fun b o q hb hx => ?_⟩
  · cases z : s.heap.get? T' with
    | none => rfl
    | some o =>
      by_cases hz : T' = T
      · obtain ⟨oT2, ts2, hT2, _, _⟩ := F2.ent
        rw [hz] at hn
        have : h2.get? T = none := hn
        rw [hT2] at this
        cases this
      · have : h2.get? T' = none := hn
        rw [k2 T' o z hz] at this
        cases this
  · exact nt.keep b o (k2 b o q fun z => hx (by rw [z])) nf hb (by simp)
  · exact nt.slot b o (k2 b o q fun z => hx (by rw [z])) hb (by simp)
end
end L2

set_option Elab.async false
set_option linter.all false
set_option maxRecDepth 100000
set_option maxHeartbeats 4000000
namespace L2
open PySem PySem.Spec PyProof.Rows
/-- kept but for the things of S; of the frames the slots may change -/
structure Ch (S : Addr → Prop) (fs : List Addr) (h h' : Heap) : Prop where
  keep : ∀ b o, h.get? b = some o → ¬ S b → b ∉ fs → h'.get? b = some o
  slot : ∀ b o, h.get? b = some o → ¬ S b → ∃ sl, h'.get? b = some { o with slots := sl }
theorem Ch.trans {S : Addr → Prop} {fs : List Addr} {h h1 h2 : Heap} (a : Ch S fs h h1) (b : Ch S fs h1 h2) : Ch S fs h h2 :=
  ⟨fun c o q n f => b.keep c o (a.keep c o q n f) n f, fun c o q n => by
    obtain ⟨sl, q1⟩ := a.slot c o q n
    obtain ⟨sl2, q2⟩ := b.slot c _ q1 n
    exact ⟨sl2, q2⟩⟩
theorem Nt.ch {fs : List Addr} {e : Addr} {T : Option Addr} {S : Addr → Prop} {h h' : Heap} (n : Nt fs e T h h') (he : S e) (hT : ∀ t, T = some t → S t) : Ch S fs h h' :=
  ⟨fun b o q ns nf => n.keep b o q nf (fun z => ns (z ▸ he)) fun z => ns (hT b z.symm), fun b o q ns => n.slot b o q (fun z => ns (z ▸ he)) fun z => ns (hT b z.symm)⟩
theorem Ch.one {fs : List Addr} {t : Addr} {S : Addr → Prop} {h h' : Heap} (k : ∀ b o, h.get? b = some o → b ≠ t → h'.get? b = some o) (ht : S t) : Ch S fs h h' :=
  ⟨fun b o q ns _ => k b o q fun z => ns (z ▸ ht), fun b o q ns => ⟨o.slots, k b o q fun z => ns (z ▸ ht)⟩⟩
section
variable {P : Program} {w : World} {S : Addr → Prop} {fs fs' : List Addr} {H H' : Hp} {h h1 h2 : Heap}
theorem Ch.un (c : Ch S fs' h1 h2) (u : Un fs [] H H' h h1) (hS : ∀ b, S b → h.get? b = none) (hf : ∀ b o, h.get? b = some o → b ∈ fs' → b ∈ fs) : Un fs [] H H' h h2 := by
  have ns : ∀ b o, h.get? b = some o → ¬ S b := fun b o q z => by rw [hS b z] at q; cases q
  refine ⟨fun b o q n nf ne => c.keep b o (u.keep b o q n nf ne) (ns b o q) fun z => nf (hf b o q z), fun b o q n f ne => ?_, u.free, fun b o q ne => ?_, u.tups, u.frzs, u.tbls⟩
  · obtain ⟨sl, q1⟩ := u.slot b o q n f ne
    obtain ⟨sl2, q2⟩ := c.slot b _ q1 (ns b o q)
    exact ⟨sl2, q2⟩
  · obtain ⟨o', q1⟩ := u.there b o q ne
    obtain ⟨sl2, q2⟩ := c.slot b _ q1 (ns b o q)
    exact ⟨_, q2⟩
theorem Ch.hok (c : Ch S fs' h1 h2) (x : HOk P w H' h1) (hS : ∀ b, S b → H' b = none) (hf : ∀ b ∈ fs', H' b = none) : HOk P w H' h2 := fun a o e =>
  (x a o e).stay (fun b u hb q => c.keep b u q (fun z => by
    rcases hb with r | r
    · rw [r] at z; rw [hS a z] at e; cases e
    · rw [hS b z] at r; cases r) fun z => by
    rcases hb with r | r
    · rw [r] at z; rw [hf a z] at e; cases e
    · rw [hf b z] at r; cases r) (fun _ q => q) fun _ _ q => q
end
theorem ObjOk.get {P : Program} {w : World} {H : Hp} {h : Heap} {a : Addr} {o : HO} (x : ObjOk P w H h a o) : ∃ ob, h.get? a = some ob := by
  cases o with
  | lst xs => obtain ⟨_, _, _, _, e⟩ := x; exact ⟨_, e⟩
  | tup xs => obtain ⟨_, _, _, ob, e, _⟩ := x; exact ⟨_, e⟩
  | dK kvs => obtain ⟨_, _, _, _, o, _, _, e, _⟩ := x; exact ⟨_, e⟩
  | dT kvs => obtain ⟨_, _, _, _, o, _, _, e, _⟩ := x; exact ⟨_, e⟩
  | set S n => obtain ⟨o, _, _, _, e, _⟩ := x; exact ⟨_, e⟩
  | ins C dx fs => obtain ⟨_, _, _, e, _⟩ := x; exact ⟨_, e⟩
  | own y => obtain ⟨_, e⟩ := x; exact ⟨_, e⟩
  | xd fs => obtain ⟨_, ⟨_, _, _, e, _⟩, _⟩ := x; exact ⟨_, e⟩
  | met f x' => exact ⟨_, x⟩
  | rng lo hi => obtain ⟨_, _, _, e⟩ := x; exact ⟨_, e⟩
  | frz o u => exact ⟨_, x.1⟩
  | tbl ps => exact ⟨_, x⟩
  | ext φ => exact x.2.1
theorem HOk.unk {P : Program} {w : World} {H : Hp} {h : Heap} {a : Addr} (x : HOk P w H h) (n : h.get? a = none) : H a = none := by
  cases z : H a with
  | none => rfl
  | some o =>
    obtain ⟨ob, e⟩ := (x a o z).get
    rw [n] at e
    cases e
/-- how an exception of the class at C lies behind a call -/
def CXN (P : Program) (w : World) (C : Addr) : CXT := fun outer H s E e s' => ∃ (a d T : Addr) (H' : Hp), e = .ref a ∧ s'.os = s.os ∧ AllBare s'.gens ∧ Un (frs outer) [] H H' s.heap s'.heap ∧ HOk P w H' s'.heap ∧ Fly C a d T .none s'.heap ∧ s.heap.get? a = none ∧ s.heap.get? T = none ∧ H' a = none ∧ H' T = none ∧ E (.ref C) (some d) H'
section
variable {X : Cx} {pins : List (Addr × Obj)} {σ : St} {H : Hp} {s : Shared} {C a d T : Addr} {E : XK}
/-- an exception leaves the frame -/
def Leaves (X : Cx) (C : Addr) (E : XK) : Prop := X.xe = fun e s' => wpAny (model X.prog X.w) X.A (leaving X.env e) (fun _ s'' => CXN X.prog X.w C X.outer X.H₀ X.s₀ E e s'') (fun e' s'' => CXN X.prog X.w C X.outer X.H₀ X.s₀ E e' s'') s'
theorem leave_end {T0 : Option Addr} {T1 : Addr} {h1 : Heap} {Z : Value → Shared → Prop} (I : Inv X pins σ H s) (hst : X.stack = X.env :: X.outer) (hfr : X.env.frame = some X.env.locals) (hex : X.ex = [])
    (ha : X.s₀.heap.get? a = none) (Ha : H a = none) (hT : ∀ t, T0 = some t → X.s₀.heap.get? t = none ∧ H t = none) (hn : s.heap.get? T1 = none) {L : Addr} (F : Fly C a d T1 (rawInt L) h1) (nt : Nt (frs X.stack) a T0 s.heap h1) (hE : E (.ref C) (some d) H) :
    wpAny (model X.prog X.w) X.A (setFlight (.ref a) none) (fun _ s'' => CXN X.prog X.w C X.outer X.H₀ X.s₀ E (.ref a) s'') Z { s with heap := h1 } := by
  have HT1 : H T1 = none := I.hok.unk hn
  have hT1 : X.s₀.heap.get? T1 = none := by
    cases z : X.s₀.heap.get? T1 with
    | none => rfl
    | some o =>
      obtain ⟨o', q⟩ := I.base.there T1 o z (by rw [hex]; simp)
      rw [hn] at q
      cases q
  refine flight_none (s := { s with heap := h1 }) F fun h2 F2 k2 => ?_
  have c : Ch (fun b => b = a ∨ b = T1 ∨ T0 = some b) (frs X.stack) s.heap h2 := (nt.ch (.inl rfl) fun t z => .inr (.inr z)).trans (Ch.one k2 (.inr (.inl rfl)))
  have un := I.base
  rw [hex] at un
  refine ⟨a, d, T1, H, rfl, I.os, I.bare, c.un un (fun b z => ?_) (fun b o q z => ?_), c.hok I.hok (fun b z => ?_) I.env0.frf, F2, ha, hT1, Ha, HT1, hE⟩
  · rcases z with rfl | rfl | z
    · exact ha
    · exact hT1
    · exact (hT b z).1
  · rw [hst] at z
    have z' : b = X.env.locals ∨ b ∈ frs X.outer := by
      unfold frs at z ⊢
      rw [List.filterMap_cons, hfr] at z
      exact List.mem_cons.mp z
    rcases z' with z' | z'
    · have := Heap.lt_size q
      rw [z'] at this
      exact absurd this (Nat.not_lt.mpr I.ok.above)
    · exact z'
  · rcases z with rfl | rfl | z
    · exact Ha
    · exact HT1
    · exact (hT b z).2
/-- an exception, made here, leaves the frame -/
theorem leave_made {vs : Array Value} (lv : Leaves X C E) (I : Inv X pins σ H s) (hst : X.stack = X.env :: X.outer) (hfr : X.env.frame = some X.env.locals) (hex : X.ex = [])
    (ha : X.s₀.heap.get? a = none) (Ha : H a = none) (he : s.heap.get? a = some { cls := .ref C, dict := some d, data := .fields vs }) (hv : vs[1]? = some .none) (hE : E (.ref C) (some d) H) : X.xe (.ref a) s := by
  rw [lv]
  have fr := I.env0.frames
  have ff := I.env0.funs
  rw [hst] at fr ff
  refine wpAny_bind (note_new fr ff hfr he hv fun h1 T1 hn F nt => ?_)
  exact leave_end (T0 := none) I hst hfr hex ha Ha (fun t z => by cases z) hn F (by rw [hst]; exact nt) hE
/-- an exception of a callee leaves the frame -/
theorem pass_on {E' : XK} (lv : Leaves X C E) (hst : X.stack = X.env :: X.outer) (hfr : X.env.frame = some X.env.locals) (hex : X.ex = []) (hE : ∀ c o H', E' c o H' → E c o H') : Passes (CXN X.prog X.w C) X E' := by
  intro pins σ H s e s' I h
  obtain ⟨a, d, T, H', rfl, os, bare, un, hok, F, ha, hT, Ha, HT, z⟩ := h
  obtain ⟨hh, g, dr, t, os'⟩ := s'
  obtain rfl : os' = s.os := os
  have J := I.call (h' := hh) (g' := g) (d' := dr) (t' := t) (ch := []) un hok bare (fun b z => absurd z (by simp))
  have old : ∀ b, s.heap.get? b = none → X.s₀.heap.get? b = none := fun b n => by
    cases z : X.s₀.heap.get? b with
    | none => rfl
    | some o =>
      obtain ⟨o', q⟩ := I.base.there b o z (by rw [hex]; simp)
      rw [n] at q
      cases q
  rw [lv]
  have fr := J.env0.frames
  have ff := J.env0.funs
  rw [hst] at fr ff
  refine wpAny_bind (note_on fr ff hfr F fun h1 T1 hn F1 nt => ?_)
  exact leave_end (T0 := some T) J hst hfr hex (old a ha) Ha (fun t z => by cases z; exact ⟨old T hT, HT⟩) hn F1 (by rw [hst]; exact nt) (hE _ _ _ z)
end
end L2

set_option Elab.async false
set_option linter.all false
set_option maxRecDepth 100000
set_option maxHeartbeats 4000000
namespace L2
open PySem PySem.Spec PyProof.Rows
section
variable {X : Cx} {pins : List (Addr × Obj)} {σ : St} {H : Hp} {s : Shared}
/-- a local name is unbound -/
theorem unbind_ok {M : Model} {A : Around} {E : Value → Shared → Prop} {j : Nat} {x : Str} {v : V} {Q : Unit → Shared → Prop} (I : Inv X pins σ H s) (hN : X.N.Nodup) (hj : X.N[j]? = some x) (hx : X.env.scope.names.lookup x = some .local) (hv : σ[j]? = some (some v))
    (h : ∀ s', Inv X pins (σ.set j none) H s' → Q () s') : wpAny M A (unbindName X.env x) Q E s := by
  obtain ⟨m, hn, hl⟩ := id I.loc
  have hcls : (X.env.scope.kind == .class || (X.env.scope.kind == .module && X.env.locals != X.env.globals)) = false := by rw [I.ok.kind]; rfl
  have cne := I.cne
  obtain ⟨u, ru, lu⟩ := hl j x v hj hv (.inl hx)
  have hm : m x = some u := by
    rcases lu with ⟨_, q⟩ | ⟨k, _⟩
    · exact q
    · have hx' : X.env.kindOf x = some .local := hx
      rcases k with k | k <;> (rw [hx'] at k; cases k)
  refine wpAny_unbindName_local hx hn hm hcls fun h' u' hn' hs => ?_
  obtain ⟨oL, _, _, hoL, _⟩ := id hn
  refine h _ ⟨I.ok, I.os, I.bare, ⟨fun b o e n hb hx => ?_, fun b o e n hb hx => ?_, I.base.free, fun b o e hx => ?_, I.base.tups, I.base.frzs, I.base.tbls⟩, ⟨_, hn', fun i y v' e1 e2 e3 => ?_⟩, fun y c e => ?_, I.free, I.freeC, fun p hp => ?_, fun b ob e => ?_, by simpa using I.len⟩
  · exact (hs.2 b (Nat.ne_of_lt (Nat.lt_of_lt_of_le (Heap.lt_size e) I.ok.above))).trans (I.base.keep b o e n hb hx)
  · obtain ⟨sl, e1⟩ := I.base.slot b o e n hb hx
    exact ⟨sl, (hs.2 b (Nat.ne_of_lt (Nat.lt_of_lt_of_le (Heap.lt_size e) I.ok.above))).trans e1⟩
  · obtain ⟨o', e1⟩ := I.base.there b o e hx
    exact ⟨o', (hs.2 b (Nat.ne_of_lt (Nat.lt_of_lt_of_le (Heap.lt_size e) I.ok.above))).trans e1⟩
  · by_cases hij : i = j
    · subst hij
      have hiσ : i < σ.length := by rw [I.len]; exact (List.getElem?_eq_some_iff.mp hj).1
      rw [List.getElem?_set_self hiσ] at e2
      cases e2
    · rw [List.getElem?_set_ne (Ne.symm hij)] at e2
      obtain ⟨w', r', q⟩ := hl i y v' e1 e2 e3
      refine ⟨w', r', ?_⟩
      rcases q with ⟨k, e⟩ | ⟨k, c, e, z⟩
      · refine .inl ⟨k, ?_⟩
        have : y ≠ x := fun e => hij (nodup_ix hN e1 (e ▸ hj))
        simp [this, e]
      · exact .inr ⟨k, c, e, z.sameBut hs (cne y c e)⟩
  · obtain ⟨w', z⟩ := I.cell y c e
    exact ⟨w', z.sameBut hs (cne y c e)⟩
  · obtain ⟨e, n, ne, nf, d⟩ := I.pin p hp
    exact ⟨(hs.2 p.1 ne).trans e, n, ne, nf, d⟩
  · refine (I.hok b ob e).stay (fun c w' hc q => (hs.2 c ?_).trans q) (fun _ q => q) fun _ _ q => q
    rintro rfl
    rcases hc with hc | hc
    · rw [← hc, I.free] at e; cases e
    · rw [I.free] at hc; cases hc
end
section
variable {prog : Program} {w : World} {A : Around} {E : Value → Shared → Prop} {env : Env} {nm q : Str} {C N : Addr} {bs bm : List Value} {hdct : Bool} {sn : List Str} {sub : List Value} {ab : Bool} {col : Option Bool} {dd : Option Addr} {k0 k1 k2 k3 k5 : Option Value} {newId : String} {s : Shared}
end
end L2

set_option Elab.async false
set_option linter.all false
set_option maxRecDepth 100000
set_option maxHeartbeats 4000000
namespace L2
open PySem PySem.Spec PyProof.Rows
/-- an exception that was caught -/
def excO (C a d : Addr) : HO := .ext fun h => ∃ vs, h.get? a = some { cls := .ref C, dict := some d, data := .fields vs }
section
variable {P : Program} {w : World} {fs : List Addr} {H H' : Hp} {h h2 : Heap} {C a d T : Addr}
theorem un_track {o : HO} (x : HOk P w H h) (u : Un fs [] H H' h h2) (ha : h.get? a = none) : Un fs [] H (upd H' a o) h h2 := by
  have n1 : ∀ b ob, h.get? b = some ob → b ≠ a := fun b ob q z => by rw [z, ha] at q; cases q
  have n2 : ∀ b ob, H b = some ob → b ≠ a := fun b ob q z => by
    obtain ⟨u, e⟩ := (x b ob q).get
    exact n1 b u e z
  refine ⟨u.keep, u.slot, fun b ob q n ne => ?_, u.there, fun b xs q => ?_, fun b ob v q => ?_, fun b ps q => ?_⟩
  · rw [upd_ne (n1 b ob q)]; exact u.free b ob q n ne
  · rw [upd_ne (n2 b _ q)]; exact u.tups b xs q
  · rw [upd_ne (n2 b _ q)]; exact u.frzs b ob v q
  · rw [upd_ne (n2 b _ q)]; exact u.tbls b ps q
theorem hok_track (x : HOk P w H' h2) (Ha : H' a = none) (F : ∃ vs, h2.get? a = some { cls := .ref C, dict := some d, data := .fields vs }) : HOk P w (upd H' a (excO C a d)) h2 := fun b o e => by
  by_cases hb : b = a
  · subst hb
    rw [upd_same] at e
    cases e
    exact ⟨F, ⟨_, F.choose_spec⟩, fun g1 g2 ⟨vs, q⟩ k => ⟨vs, k _ q⟩⟩
  · rw [upd_ne hb] at e
    refine (x b o e).stay (fun _ _ _ q => q) (fun c q => ?_) fun c xs q => ?_
    · rw [upd_ne (fun z => by rw [z, Ha] at q; cases q)]; exact q
    · rw [upd_ne (fun z => by rw [z, Ha] at q; cases q)]; exact q
end
section
variable {X : Cx} {pins : List (Addr × Obj)} {σ : St} {H : Hp} {s : Shared}
theorem ld_var {A : Around} {E : Value → Shared → Prop} {i : Nat} {x : Str} {v : V} {pos : Pos} {Q : Value → Shared → Prop} (I : Inv X pins σ H s) (hN : X.N[i]? = some x) (hv : Vis X.env.scope x) (e : σ[i]? = some (some v)) (h : ∀ u, RelV v u → Q u s)
    (hd : (x == ("__debug__" : Str)) = false) (hcd : (x == ("__classdict__" : Str)) = false) : wpAny (model X.prog X.w) A (eval (.Name x pos) X.env) Q E s := by
  obtain ⟨m, hn, hl⟩ := I.loc
  obtain ⟨u, r, l⟩ := hl i x v hN e hv
  rcases l with ⟨hk, hm⟩ | ⟨hk, c, hc, hcell⟩
  · exact wpAny_Name (wpAny_loadName_local I.ok.kind hk hn hm (h u r)) hd
  · rcases hk with hk | hk
    · exact wpAny_Name (wpAny_loadName_cell I.ok.kind hk hc hcell (h u r)) hd
    · exact wpAny_Name (wpAny_loadName_free I.ok.kind hk hc hcell (h u r) hcd) hd
end
section
variable {X : Cx} {nm q : Str} {C N : Addr} {bs bm : List Value} {hdct : Bool} {sn : List Str} {sub : List Value} {ab : Bool} {col : Option Bool} {dd : Option Addr} {k0 k1 k2 k3 k5 : Option Value} {newId : String}
end
end L2

set_option Elab.async false
set_option linter.all false
set_option maxRecDepth 100000
set_option maxHeartbeats 4000000
namespace L2
open PySem PySem.Spec PyProof.Rows
/-- an exception that is being made: no attribute yet -/
def excN (C e : Addr) : HO := .ext fun h => ∃ t, h.get? e = some { cls := .ref C, data := .fields #[.ref t, .none, .none, .none, .bool false, .none] }
/-- what of the text an own class of exceptions must have -/
structure ExC (K : PySem.W.Frag) (C fI : Addr) : Prop where
  lk : ∃ nm q N bs bm sn sub ab col dd k0 k1 k2 k3 k5, K.lookup C = some (excClassObj nm q C N bs bm true sn sub ab col dd k0 k1 k2 k3 k5 "ValueError.__new__") ∧ (Value.ref C :: bm).contains (.type "ValueError") = true ∧ bm.contains (.type "BaseException") = true ∧
    (Value.ref C :: bm).contains (.type "AttributeError") = false ∧ (Value.ref C :: bm).contains (.type "NameError") = false ∧ (∀ self, refuseLoop self (Str.ofString "__setattr__") (Value.ref C :: bm) = pure ()) ∧ (Value.ref C :: bm).contains (.type "object") = true
  ini : PySem.W.findIn K (.ref C) "__init__" = some (some (.ref fI))
  fn : PySem.W.typeIn K (.ref fI) = some (.type "function")
  sa : PySem.W.findIn K (.ref C) "__setattr__" = some (some (.builtin "object.__setattr__"))
  ga : PySem.W.findIn K (.ref C) "__getattribute__" = some (some (.builtin "BaseException.__getattribute__"))
  gn : PySem.W.findIn K (.ref C) "__getattr__" = some none
  hd : PySem.W.hasDictIn K C = true
  kp : PySem.W.keepIn K (.ref C) = true
section
variable {X : Cx} {C e fI : Addr}
/-- ValueError.__init__(self, v) -/
theorem call_initV (c : ExC X.K C fI) : CallR X (.builtin "ValueError.__init__") (fun xs H Q => ∃ e v, xs = [.ref e, v] ∧ H e = some (excN C e) ∧ Q .non H) := by
  intro pins s σ H xs us Q I r h
  obtain ⟨e, v, rfl, He, z⟩ := h
  obtain ⟨u, w', rfl, ru, rw'⟩ := vals2 r
  cases ru
  obtain ⟨nm, q, N, bs, bm, sn, sub, ab, col, dd, k0, k1, k2, k3, k5, hk, hB, hB2, _, _, _, _⟩ := c.lk
  obtain ⟨⟨t, he⟩, _, _⟩ := I.hok e _ He
  refine wpAny_call (init_code F.excBase_ValueError (by decide +kernel) hB (I.kIn _ _ hk) he rfl rfl rfl (by show 1 ≤ sizeLine; rw [sizeLine_eq]; decide) ?_)
  refine ⟨.non, H, ?_, rfl, z⟩
  have he2 := Heap.get?_push_of_some (h := s.heap) { cls := .type "tuple", data := .seq [w'].toArray } he
  have I2 : Inv X pins σ H { s with heap := s.heap.push { cls := .type "tuple", data := .seq [w'].toArray } } := I.kept (t' := s.toks) fun b o q => Heap.get?_push_of_some _ q
  have e3 : ((s.heap.push { cls := .type "tuple", data := .seq [w'].toArray }).update e (Obj.mapFields fun a => a.setIfInBounds 0 (.ref s.heap.objs.size))).get? e = some { cls := .ref C, data := .fields #[.ref s.heap.objs.size, .none, .none, .none, .bool false, .none] } := Heap.get?_update_self _ he2 rfl
  have hu : upd H e (excN C e) = H := by
    funext b
    unfold upd
    split
    · next z => rw [z, He]
    · rfl
  have J := I2.write (t' := s.toks) (x := e) (e := e) (o := excN C e) (h' := (s.heap.push { cls := .type "tuple", data := .seq [w'].toArray }).update e (Obj.mapFields fun a => a.setIfInBounds 0 (.ref s.heap.objs.size))) (by rw [He]; exact True.intro) (.inl rfl)
    (fun b o hb q => (Heap.get?_update_other _ _ (Ne.symm hb)).trans q) ⟨_, e3⟩ ⟨⟨_, e3⟩, ⟨_, e3⟩, fun g1 g2 ⟨t, q⟩ k => ⟨t, k _ q⟩⟩
  rw [hu] at J
  exact J
end
end L2

set_option Elab.async false
set_option linter.all false
set_option maxRecDepth 100000
set_option maxHeartbeats 4000000
namespace L2
open PySem PySem.Spec PyProof.Rows
/-- an exception, made -/
def excM (C a d : Addr) : HO := .ext fun h => ∃ vs, h.get? a = some { cls := .ref C, dict := some d, data := .fields vs } ∧ vs[1]? = some .none
section
variable {X : Cx} {C fI : Addr}
/-- B.m(..), B an own class, m a def of it -/
theorem pe_clsm {CX : CXT} {E : XK} {x m : Str} {p apos pos : Pos} {e : Expr} {es : List Expr} {t : TA} {k : Nat} {cB f : Addr} {fd : FuncData} {ps : List Str} {sp : Sp} {mc : Value} {pl : Sem Bool} (F : FnOk X.prog X.w X.K X.mg X.base CX k f fd ps sp) (hr : Room k X.A) (hg : Gl X x) (hm : X.mg x = some (.ref cB))
    (hga : PySem.W.specialIn X.K (.ref cB) "__getattribute__" = some (some (.builtin "type.__getattribute__"))) (hrd : PySem.W.readsIn X.K cB mc = true) (hfc : PySem.W.findCls X.K (.ref cB) mc m = some (.val (.ref f))) (hk : PySem.W.keepIn X.K (.ref f) = true) (hb : Binds X.K fd ps []) (hx : Passes CX X E)
    (ha : PA X (e :: es) t) (hdb : (x == ("__debug__" : Str)) = false := by decide) (he : starEach (e :: es) X.env = (false, eval e X.env) :: starEach es X.env := by rfl) (hpl : (backTo pos (starEach es X.env)).any (·.1) = false := by rfl)
    (ht : eval (.Call (.Attribute (.Name x p) m apos) (e :: es) [] pos) X.env = (do
      let ov ← eval (.Name x p) X.env
      standAt apos.atName
      let (f, first) ← holding [ov] (getMethod ov m pl)
      callWith pos f first (backTo pos (starEach (e :: es) X.env)) (backToKw pos (keywordEach [] X.env))) := by rfl) :
    PE X (.Call (.Attribute (.Name x p) m apos) (e :: es) [] pos) (tCall sp [] E t) := by
  intro pins s σ H Q I h
  refine PySem.W.methodCall_KW (pl := pl) (ld_glob I hg hm ?_ hdb) ht
  refine PySem.W.method_cls I.kIn hga (PySem.W.cls_value I.kIn hrd hfc rfl ?_)
  have I1 := I.tok (s.toks + 1)
  refine PySem.W.callWith_K (h₀ := X.base) I.ok.mod.kin hk (thn (ha pos pins _ σ H _ I1 h) fun us s1 ⟨vs, H1, I2, r, q⟩ => ⟨I2.kIn, ?_⟩) he hpl
  exact run_fn F hr hb .nil hx I2 r q
/-- T.m(..), T a built-in class -/
theorem pe_typem {x m : Str} {p apos pos : Pos} {e : Expr} {es : List Expr} {t : TA} {T id : String} {r : List V → Hp → VK → Prop} {pl : Sem Bool} (hc : CallR X (.builtin id) r) (hg : Gl X x) (hm : X.mg x = none) (hv : bootBuiltins x = some (.type T)) (hty : typeOf (.type T) = pure (.type "type")) (hsb : Manifest.isStub T = false)
    (hfc : PySem.W.findCls X.K (.type T) (.type "type") m = some (.val (.builtin id))) (hh : PySem.W.handedIn (.builtin id) = true) (ha : PA X (e :: es) t) (hn : x ≠ "__name__" := by decide) (hdb : (x == ("__debug__" : Str)) = false := by decide)
    (he : starEach (e :: es) X.env = (false, eval e X.env) :: starEach es X.env := by rfl) (hpl : (backTo pos (starEach es X.env)).any (·.1) = false := by rfl)
    (ht : eval (.Call (.Attribute (.Name x p) m apos) (e :: es) [] pos) X.env = (do
      let ov ← eval (.Name x p) X.env
      standAt apos.atName
      let (f, first) ← holding [ov] (getMethod ov m pl)
      callWith pos f first (backTo pos (starEach (e :: es) X.env)) (backToKw pos (keywordEach [] X.env))) := by rfl) :
    PE X (.Call (.Attribute (.Name x p) m apos) (e :: es) [] pos) (tCB r t) := by
  intro pins s σ H Q I h
  refine PySem.W.methodCall_KW (pl := pl) (ld_blt I hg hm hv ?_ hn hdb) ht
  obtain ⟨m', hfr⟩ := I.fr
  refine PySem.W.method_type hfr I.mod.kin hty hsb hfc hh ?_
  have I1 := I.tok (s.toks + 1)
  exact PyProof.Rows.callWith_builtin1 (thn (ha pos pins _ σ H _ I1 h) fun us s1 ⟨vs, H1, I2, r1, q1⟩ => hc pins s1 σ H1 vs us Q I2 r1 q1) he hpl
/-- f'{e}words', e a tuple: some text -/
theorem pe_fmt {e : Expr} {ta : TE} {w : Str} {fp kp jp : Pos} {j : _} (hgd : X.A.guards = some []) (he : PE X e ta) : PE X (.JoinedStr [.FormattedValue e (-1) none fp, .Constant (.str w) j kp] jp)
    (fun σ H Q => ta σ H fun x H1 => ∃ (a : Addr) (t : Th), x = .ref a ∧ IsTh H1 (.ref a) t ∧ (dat t).showable = true ∧ X.A.units + ((dat t).depth + 2) < cLine ∧ (dat t).shown.length + w.length ≤ sizeLine ∧ ∀ y : Str, Q (.str y) H1) := by
  intro pins s σ H Q I h
  refine wpAny_JoinedStr ?_
  show wpAny _ _ (eval (.FormattedValue e (-1) none fp) X.env) (fun v s1 => ∃ y t, v = Value.str y t ∧ (Str.empty ++ y).length ≤ sizeLine ∧ wpAny _ _ (eval (.Constant (.str w) j kp) X.env) (fun v s2 => ∃ y2 t, v = Value.str y2 t ∧ (Str.empty ++ y ++ y2).length ≤ sizeLine ∧ (Str.empty ++ y ++ y2).length ≤ sizeLine ∧ EP X pins σ Q (Value.str (Str.empty ++ y ++ y2) s2.toks) { s2 with toks := s2.toks + 1 }) X.xe s1) X.xe s
  refine wpAny_FormattedValue_plain (thn (he pins s σ H _ I h) ?_)
  rintro u s1 ⟨x, H1, I1, rx, a, t, rfl, ht, h1, h2, h3, z⟩
  obtain ⟨as, rd⟩ := reads_of I1 ht rx
  cases rx
  have hl : ∀ y : Str, (Str.empty ++ y).length = y.length := fun y => by rw [Str.length_append]; exact Nat.zero_add _
  refine formatField_of_reads rd h1 (fun z => by rw [dat_noDict] at z; cases z) hgd h2 (fun b o q => q) (fun h' u tk k => ?_) (Nat.le_trans (Nat.le_add_right _ _) h3)
  refine ⟨_, u, rfl, by rw [hl]; exact Nat.le_trans (Nat.le_add_right _ _) h3, ?_⟩
  refine Calls.Constant_str ⟨w, _, rfl, ?_⟩
  have h4 : (Str.empty ++ (dat t).shown ++ w).length ≤ sizeLine := by rw [Str.length_append, hl]; exact h3
  refine ⟨h4, h4, .str _, H1, ?_, ⟨_, rfl⟩, z _⟩
  exact (I1.kept (t' := tk) k).tok _
/-- an attribute of an exception that was caught -/
theorem pe_fldX {e : Expr} {f : Str} {pos : Pos} {ta : TE} (c : ExC X.K C fI) (hn : PySem.W.findIn X.K (.ref C) f = some none) (he : PE X e ta) (hb : attributeBase e f X.env (eval e X.env) = eval e X.env) :
    PE X (.Attribute e f pos) (fun σ H Q => ta σ H fun x H1 => ∃ a d fs v, x = .ref a ∧ H1 a = some (excO C a d) ∧ H1 d = some (.xd fs) ∧ fs.lookup f = some v ∧ Q v H1) := by
  intro pins s σ H Q I h
  refine attr_of hb (thn (he pins s σ H _ I h) fun u s1 ⟨x, H1, I1, rx, a, d, fs, v, ex, Ha, Hd, hl, z⟩ => ?_)
  subst ex
  obtain rfl : u = Value.ref a := rx
  obtain ⟨nm, q, N, bs, bm, sn, sub, ab, col, dd, k0, k1, k2, k3, k5, hk, hB, hB2, _, _, _, _⟩ := c.lk
  obtain ⟨⟨vs, ho⟩, _, _⟩ := I1.hok a _ Ha
  obtain ⟨mA, n1, rl⟩ := I1.hok d _ Hd
  obtain ⟨od, hod, look⟩ := lookIn_ns n1
  obtain ⟨u, hu, ru⟩ := RelO.some_of (v := v) (o := mA f) (by rw [← hl]; exact rl f)
  have J : PySem.W.InstAt s1.heap a { cls := .ref C, dict := some d, data := .fields vs } C (some od) := ⟨ho, rfl, rfl, hod⟩
  exact get_exc I1.kIn hk (by rw [List.contains_cons, hB2, Bool.or_true]) J c.ga c.gn (PySem.W.findObj_own c.hd hn rfl (by rw [look, hu])) (handed_of ru) ⟨v, H1, I1.tok _, ru, z⟩
/-- self.f = e, the first attribute of an exception that is being made -/
theorem ps_fldX {o value : Expr} {f : Str} {pos pos' : Pos} {ta tv : TE} (c : ExC X.K C fI) (hn : PySem.W.findIn X.K (.ref C) f = some none) (ha : PE X o ta) (hv : PE X value tv) (hs : swapsWith value (some (.Attribute o f pos')) pos.line X.env = pure false) :
    PS X (.Assign [.Attribute o f pos'] value pos) (fun D σ H => tv σ H fun y H1 => ta σ H1 fun x H2 => ∃ e, x = .ref e ∧ H2 e = some (excN C e) ∧ ∀ d, H2 d = none → d ≠ e → D.nx σ (upd (upd H2 d (.xd [(f, y)])) e (excM C e d))) := by
  intro pins s σ H D I h
  refine plainObj_wpAny_Assign_Attribute (thn (hv pins s σ H _ I h) fun u s1 ⟨y, H1, I1, ry, q⟩ => thn (ha pins s1 σ H1 _ I1 q) fun ov s2 ⟨x, H2, I2, rx, e, ex, He, z⟩ => ?_) hs
  subst ex
  obtain rfl : ov = Value.ref e := rx
  obtain ⟨nm, q, N, bs, bm, sn, sub, ab, col, dd, k0, k1, k2, k3, k5, hk, hB, hB2, _, _, hps, hob⟩ := c.lk
  obtain ⟨⟨t, ho⟩, _, _⟩ := I2.hok e _ He
  refine set_exc I2.kIn hk c.sa hps hob hn ho fun h' he' hd' k => ?_
  have hne : s2.heap.objs.size ≠ e := fun z => absurd (Heap.lt_size ho) (by rw [← z]; exact Nat.lt_irrefl _)
  have hdn : H2 s2.heap.objs.size = none := I2.hok.fresh (Nat.le_refl _)
  refine ⟨σ, _, ?_, z _ hdn hne⟩
  have n1 : ∀ b o, s2.heap.get? b = some o → b ≠ s2.heap.objs.size := fun b o q z => absurd (Heap.lt_size q) (by rw [z]; exact Nat.lt_irrefl _)
  have n2 : ∀ b, H2 b = none → b ≠ e := fun b q z => by rw [z, He] at q; cases q
  have n3 : ∀ b o, H2 b = some o → b ≠ s2.heap.objs.size := fun b o q z => by rw [z, hdn] at q; cases q
  have same : ∀ b o, H2 b = some o → b ≠ e → upd (upd H2 s2.heap.objs.size (HO.xd [(f, y)])) e (excM C e s2.heap.objs.size) b = some o := fun b o q hb => by
    rw [upd_ne hb, upd_ne (n3 b o q)]
    exact q
  have ne : ∀ b o, H2 b = some o → (∀ φ, o ≠ .ext φ) → b ≠ e := fun b o q hb z => by
    rw [z, He] at q
    cases q
    exact hb _ rfl
  refine I2.un ⟨fun b o q n _ _ => k b o (n2 b n) q, fun b o q n _ _ => ⟨o.slots, k b o (n2 b n) q⟩, fun b o q n _ => ?_, fun b o q _ => ?_, fun b xs q => same b _ q (ne b _ q (by intro φ z; cases z)), fun b o u q => same b _ q (ne b _ q (by intro φ z; cases z)), fun b ps q => ⟨#[], by rw [same b _ q (ne b _ q (by intro φ z; cases z))]; simp⟩⟩ fun b o q => ?_
  · rw [upd_ne (n2 b n), upd_ne (n1 b o q)]
    exact n
  · by_cases hb : b = e
    · subst hb; exact ⟨_, he'⟩
    · exact ⟨o, k b o hb q⟩
  · by_cases hb : b = e
    · subst hb
      rw [upd_same] at q
      cases q
      exact ⟨⟨_, he', rfl⟩, ⟨_, he'⟩, fun g1 g2 ⟨vs, q, q2⟩ k => ⟨vs, k _ q, q2⟩⟩
    · rw [upd_ne hb] at q
      by_cases hd : b = s2.heap.objs.size
      · subst hd
        rw [upd_same] at q
        cases q
        refine ⟨_, hd', fun g => ?_⟩
        show RelO (List.lookup g [(f, y)]) (if g = f then some u else none)
        by_cases hg : g = f
        · rw [if_pos hg, hg]
          simp only [List.lookup, beq_self_eq_true]
          exact ry
        · rw [if_neg hg]
          have : (g == f) = false := beq_eq_false_iff_ne.mpr hg
          simp only [List.lookup, this]
          exact True.intro
      · rw [upd_ne hd] at q
        refine (I2.hok b o q).stay (fun c w' hc e1 => k c w' (fun z => ?_) e1) (fun c e1 => same c _ e1 (ne c _ e1 (by intro φ z; cases z))) fun c xs e1 => same c _ e1 (ne c _ e1 (by intro φ z; cases z))
        rcases hc with hc | hc
        · exact hb (hc ▸ z)
        · rw [z, He] at hc; cases hc
end
end L2

set_option Elab.async false
set_option linter.all false
set_option maxRecDepth 100000
set_option maxHeartbeats 4000000
namespace L2
open PySem PySem.Spec PyProof.Rows
def off1 (a : Addr) (H : Hp) : Hp := fun b => if b = a then none else H b
section
variable {X : Cx} {pins : List (Addr × Obj)} {σ : St} {H : Hp} {s : Shared} {C fI a d : Addr}
theorem Inv.untrack {φ : Heap → Prop} (I : Inv X pins σ H s) (Ha : H a = some (.ext φ)) : Inv X pins σ (off1 a H) s := by
  have ne : ∀ b o, H b = some o → (∀ φ, o ≠ .ext φ) → off1 a H b = some o := fun b o q hb => by
    unfold off1
    rw [if_neg (fun z => by rw [z, Ha] at q; cases q; exact hb _ rfl)]
    exact q
  have nn : ∀ b, H b = none → off1 a H b = none := fun b q => by
    unfold off1
    split
    · rfl
    · exact q
  refine ⟨I.ok, I.os, I.bare, ⟨I.base.keep, I.base.slot, fun b o q n x => nn b (I.base.free b o q n x), I.base.there, fun b xs q => ne b _ (I.base.tups b xs q) (by intro φ z; cases z), fun b o u q => ne b _ (I.base.frzs b o u q) (by intro φ z; cases z), fun b ps q => ?_⟩, I.loc, I.cell, nn _ I.free, fun x c e => nn c (I.freeC x c e), fun p hp => ?_, fun b o q => ?_, I.len⟩
  · obtain ⟨more, e⟩ := I.base.tbls b ps q
    exact ⟨more, ne b _ e (by intro φ z; cases z)⟩
  · obtain ⟨e, n, r⟩ := I.pin p hp
    exact ⟨e, nn _ n, r⟩
  · have q' : H b = some o := by
      unfold off1 at q
      split at q
      · cases q
      · exact q
    exact (I.hok b o q').stay (fun _ _ _ e => e) (fun c e => ne c _ e (by intro φ z; cases z)) fun c xs e => ne c _ e (by intro φ z; cases z)
/-- raise C(..) -/
theorem ps_raiseX {E : XK} {x : Str} {np cpos pos : Pos} {e0 : Expr} {es : List Expr} {t : TA} {k : Nat} {fd : FuncData} {ps : List Str} {sp : Sp} (c : ExC X.K C fI) (F : FnOk X.prog X.w X.K X.mg X.base CX0 k fI fd ps sp) (hr : Room (k + 1) X.A) (hg : Gl X x) (hm : X.mg x = some (.ref C)) (hb : Binds X.K fd ps [])
    (ha : PA X (e0 :: es) t) (lv : Leaves X C E) (hst : X.stack = X.env :: X.outer) (hfr : X.env.frame = some X.env.locals) (hex : X.ex = []) (hcm : X.calm = true)
    (hdb : (x == ("__debug__" : Str)) = false := by decide) (he : starEach (e0 :: es) X.env = (false, eval e0 X.env) :: starEach es X.env := by rfl) (hpl : (backTo cpos (starEach es X.env)).any (·.1) = false := by rfl) :
    PS X (.Raise (some (.Call (.Name x np) (e0 :: es) [] cpos)) none pos) (fun D σ H => t σ H fun vs H1 => vs.length ≤ 10 ∧ ∀ a, H1 a = none → sp (.ref a :: vs) (upd H1 a (excN C a)) (fun v H2 => v = .non ∧ ∃ d, H2 a = some (excM C a d) ∧ E (.ref C) (some d) (off1 a H2)) E0) := by
  intro pins s σ H D I h
  obtain ⟨nm, q, N, bs, bm, sn, sub, ab, col, dd, k0, k1, k2, k3, k5, hk, hB, hB2, hA, hNe, _, _⟩ := c.lk
  rw [arm_exec_Raise]
  refine wpAny_bind (wpAny_standAt ?_)
  refine raise_made (nm := nm) (q := q) (C := C) (N := N) (bs := bs) (hdct := true) (sn := sn) (sub := sub) (ab := ab) (col := col) (dd := dd) (k0 := k0) (k1 := k1) (k2 := k2) (k3 := k3) (k5 := k5) (newId := "ValueError.__new__") hB2 (I.ok.hd hcm) (wpAny_bind ?_)
  refine wpAny_Call_Name_kw (ld_glob I hg hm ?_ hdb)
  refine PySem.W.callWith_K (h₀ := X.base) I.ok.mod.kin c.kp (thn (ha cpos pins s σ H _ I h) fun us s1 ⟨vs, H1, I1, r, hv10, z⟩ => ⟨I1.kIn, ?_⟩) he hpl
  have hlen := r.length
  have hn : H1 (s1.heap.objs.size + 1) = none := I1.hok.fresh (Nat.le_succ _)
  have z := z _ hn
  have kk1 : ∀ b o, s1.heap.get? b = some o → ((s1.heap.push { cls := .type "tuple", data := .seq us.toArray }).push { cls := .ref C, data := .fields #[.ref s1.heap.objs.size, .none, .none, .none, .bool false, .none] }).get? b = some o := fun b o e => Heap.get?_push_of_some _ (Heap.get?_push_of_some _ e)
  have he1 : ((s1.heap.push { cls := .type "tuple", data := .seq us.toArray }).push { cls := .ref C, data := .fields #[.ref s1.heap.objs.size, .none, .none, .none, .bool false, .none] }).get? (s1.heap.objs.size + 1) = some { cls := .ref C, data := .fields #[.ref s1.heap.objs.size, .none, .none, .none, .bool false, .none] } := by
    have := Heap.get?_push_size (s1.heap.push { cls := .type "tuple", data := .seq us.toArray }) (o := { cls := .ref C, data := .fields #[.ref s1.heap.objs.size, .none, .none, .none, .bool false, .none] }) rfl
    rwa [Heap.size_push] at this
  have I2 : Inv X pins σ (upd H1 (s1.heap.objs.size + 1) (excN C (s1.heap.objs.size + 1))) { s1 with heap := (s1.heap.push { cls := .type "tuple", data := .seq us.toArray }).push { cls := .ref C, data := .fields #[.ref s1.heap.objs.size, .none, .none, .none, .bool false, .none] } } :=
    I1.laid (t' := s1.toks) kk1 (Nat.le_succ _) ⟨⟨_, he1⟩, ⟨_, he1⟩, fun g1 g2 ⟨t, q⟩ kk => ⟨t, kk _ q⟩⟩
  have r2 : Vals (V.ref (s1.heap.objs.size + 1) :: vs) (Value.ref (s1.heap.objs.size + 1) :: us) := .cons rfl r
  have hl : (Value.ref (s1.heap.objs.size + 1) :: us).length = ps.length := by
    have e := r2.length
    rw [F.len _ _ _ _ z] at e
    exact e.symm
  have hb2 := hb { s1 with heap := (s1.heap.push { cls := .type "tuple", data := .seq us.toArray }).push { cls := .ref C, data := .fields #[.ref s1.heap.objs.size, .none, .none, .none, .bool false, .none] } } (Value.ref (s1.heap.objs.size + 1) :: us) I2.kIn (by rw [List.append_nil]; exact hl)
  rw [List.append_nil] at hb2
  refine wpAny_call (make_exc PySem.F.excBase_ValueError hB hA hNe I1.kIn hk c.ini c.fn (by show us.length ≤ sizeLine; rw [← hlen, sizeLine_eq]; omega) (codeAny_mono (F.run _ X.stack _ _ ⟨Value.ref (s1.heap.objs.size + 1) :: us, []⟩ _ _ _ _ (hr.make C us []) (I2.env0.make C us []) hb2 r2 z) fun rs s' hq => ?_))
  cases rs with
  | error e => exact hq.elim
  | ok fl =>
    cases fl with
    | ret u =>
      obtain ⟨v, H', I3, rv, rfl, d, Hd, hE⟩ := I2.after hq
      cases rv
      refine ⟨rfl, ?_⟩
      refine wpAny_bind (wpAny_standAt (wpAny_pure ?_))
      obtain ⟨⟨vs', ho, hv1⟩, _, _⟩ := I3.hok _ _ Hd
      refine ⟨_, _, _, rfl, I3.kIn _ _ hk, ho, rfl, rfl, hv1, ?_⟩
      have I4 := I3.untrack Hd
      refine leave_made lv I4 hst hfr hex ?_ (by unfold off1; rw [if_pos rfl]) ho hv1 hE
      cases zz : X.s₀.heap.get? (s1.heap.objs.size + 1) with
      | none => rfl
      | some o =>
        have h1 := Heap.lt_size zz
        have h2 := I1.sz
        exact absurd (Nat.lt_of_lt_of_le h1 h2) (by omega)
    | next => exact hq.elim
    | brk => exact hq.elim
    | cont => exact hq.elim
end
end L2

set_option Elab.async false
set_option linter.all false
set_option maxRecDepth 100000
set_option maxHeartbeats 4000000
namespace K04
open PySem L2
abbrev sWhole : Stmt := top 14
abbrev sParts : Stmt := top 16
abbrev sHead : Stmt := top 15
abbrev sPiece : Stmt := top 18
abbrev sWithPiece : Stmt := top 19
abbrev sLawWith : Stmt := top 30
abbrev sSwapped : Stmt := top 35
abbrev sNowhere : Stmt := top 37
abbrev sWay : Stmt := top 17
structure TxtT (mg : Str → Option Value) : Prop where
  isi : mg "isinstance" = none
  int : mg "int" = none
  bl : mg "bool" = none
  tup : mg "tuple" = none
  len : mg "len" = none
def spTest (p : Th → Bool) : Sp := fun vs H Q _ => ∃ (v : V) (t : Th), vs = [v] ∧ IsTh H v t ∧ Q (.bl (p t)) H
/-- the parts of a node, a new tuple of them -/
def spParts : Sp := fun vs H Q _ => ∃ (H0 : Hp) (v : V) (ts : List Th), vs = [v] ∧ Same H0 H ∧ IsTh H0 v (.tup ts) ∧ ts.length ≤ 1000000 ∧
  ∀ (p : Addr) (ws : List V) H', Same H H' → H' p = some (.tup ws) → IsThs H0 ws (kidsL ts) → Q (.ref p) H'
section
variable {P : Program} {w : World} {K : PySem.W.Frag} {mg : Str → Option Value} {base : Heap}
theorem scWhole : FnScope ["thing"] ["thing"] (defScope sWhole) := ⟨rfl, rfl, rfl, by decide +kernel, rfl, by decide +kernel, by decide +kernel⟩
theorem ok_whole {f : Addr} {fd : FuncData} (F : Fun K "is_whole" "is_whole" sWhole f fd) (T : TxtT mg) (KI : Kits K) : FnOk P w K mg base CX0 1 f fd ["thing"] (spTest wholeB) := by
  refine F.ok scWhole (fun vs H Q E h => ?_) (fun cdv A outer s H vs Q E hr h => ?_)
  · obtain ⟨v, t, rfl, _⟩ := h
    rfl
  · obtain ⟨v, t, rfl, ht, k⟩ := h
    refine ⟨_, pss_one (ps_ret (pe_and (pe_callB call_isinst (by rfl) T.isi (by decide +kernel) (pa_n (pv 0) (pa_n (pe_bltn (v := .ty "int") (by rfl) T.int (by decide +kernel) rfl) pa_nil)))
      (pe_one (pe_not (pe_callB call_isinst (by rfl) T.isi (by decide +kernel) (pa_n (pv 0) (pa_n (pe_bltn (v := .ty "bool") (by rfl) T.bl (by decide +kernel) rfl) pa_nil))))))), ?_⟩
    have kk := whole_eq t
    refine ⟨_, rfl, _, _, _, _, rfl, th_ty ht, KI.int ht, _, rfl, ite2 (fun g => ?_) (fun g => ?_)⟩
    · refine ⟨_, rfl, _, _, _, _, rfl, th_ty ht, KI.bl ht, _, rfl, ?_⟩
      rw [g, Bool.true_and] at kk
      rw [kk]
      exact k
    · rw [show isIntT t = false by simpa using g, Bool.false_and] at kk
      rw [kk]
      exact k
theorem scParts : FnScope ["e"] ["e"] (defScope sParts) := ⟨rfl, rfl, rfl, by decide +kernel, rfl, by decide +kernel, by decide +kernel⟩
theorem ok_parts {f : Addr} {fd : FuncData} (F : Fun K "parts" "parts" sParts f fd) (T : TxtT mg) (KI : Kits K) : FnOk P w K mg base CX0 1 f fd ["e"] spParts := by
  refine F.ok scParts (fun vs H Q E h => ?_) (fun cdv A outer s H vs Q E hr h => ?_)
  · obtain ⟨H0, v, ts, rfl, _⟩ := h
    rfl
  · obtain ⟨H0, v, ts, rfl, s0, hv, hz, k⟩ := h
    refine ⟨_, pss_one (ps_ret (pe_callTy call_tuple_of (by rfl) T.tup (by decide +kernel) (pa_cons (pe_comp (N' := ["part"]) (src := [none]) rfl (compScope_of (defScope sParts) rfl ["e"] rfl (by decide +kernel)) (pi_tup (pv 0))
      (fun cl C ex s0' H0' => ⟨pg_name (i := 0) (nd1 _) rfl (Or.inl rfl), pts_one (pt_val (pe_callB (id := "isinstance") (call_isinstK (K := K) rfl) (by rfl) T.isi (by decide +kernel) (pa_n (pv 0) (pa_n (pe_bltn (v := .ty "tuple") (by rfl) T.tup (by decide +kernel) rfl) pa_nil)))), pv 0⟩)) pa_nil))), ?_⟩
    obtain ⟨a, xs, rfl, ha0, hts⟩ := th_tup hv
    have ha := s0 _ _ ha0
    have hl := IsThs.len _ hts
    refine ⟨_, rfl, a, rfl, ⟨_, SqT.of ha⟩, comp_tup (K := K) (a := a) (xs := xs) (fun i ys σc H' => ∃ o, σc = [o] ∧ IsThs H0 ys ((ts.take i).filter isTup) ∧ ys.length ≤ i ∧ H' = H) ⟨none, rfl, by rw [List.take_zero]; exact .nil, Nat.le_refl _, rfl⟩ (fun i ys σc H' ⟨_, _, _, _, e⟩ => by rw [e]; exact SqT.of ha) ?_ ?_⟩
    · rintro i x ys σc H' hx hi ⟨o, rfl, hys, hyl, rfl⟩
      obtain ⟨t, ht, h1⟩ := ths_get _ hts hx
      have hnext : (ts.take (i + 1)).filter isTup = (ts.take i).filter isTup ++ (if isTup t = true then [t] else []) := take_nextR _ ht
      refine ⟨by have : sizeLine = 16777216 := sizeLine_eq; omega, ?_⟩
      refine ⟨_, rfl, _, _, _, _, rfl, th_ty (IsTh.kp (Kp.of s0) h1), KI.tup h1, _, rfl, ite2 (fun g => ?_) (fun g => ?_)⟩
      · refine ⟨_, rfl, nx hi ⟨_, rfl, ?_, by rw [List.length_append]; show ys.length + 1 ≤ i + 1; omega, rfl⟩⟩
        rw [hnext, if_pos g]
        exact IsThs.app _ hys (.cons h1 .nil)
      · refine nx hi ⟨_, rfl, ?_, by omega, rfl⟩
        rw [hnext, if_neg g, List.append_nil]
        exact hys
    · rintro ys σc H' ⟨o, rfl, hys, hyl, rfl⟩ l hl'
      refine ⟨l, _, rfl, .inl ⟨SqL.of upd_same, fun p hp => ?_⟩⟩
      rw [List.take_of_length_le (by omega)] at hys
      have s2 := (same_upd (o := .lst ys) hl').trans (same_upd (o := .tup ys) hp)
      exact k p ys _ s2 upd_same hys
end
end K04

set_option Elab.async false
set_option linter.all false
set_option maxRecDepth 100000
set_option maxHeartbeats 4000000
namespace K04
open PySem L2
end K04

set_option Elab.async false
set_option linter.all false
set_option maxRecDepth 100000
set_option maxHeartbeats 4000000
namespace K04
open PySem L2
theorem at_head (v : V) (vs : List V) : atI (v :: vs) 0 = some v := atI_nat (j := 0) rfl
theorem kid_ok {N : Nat} {w : Str} {ts : List Th} (h : ∀ x ∈ ts, isTup x = true → OkT N x) {k : Th} (hk : k ∈ kidsL (.at (.str w) :: ts)) : OkT N k := by
  unfold kidsL at hk
  rw [List.mem_filter] at hk
  rcases List.mem_cons.mp hk.1 with z | z
  · subst z; cases hk.2
  · exact h k z hk.2
theorem kids_cons (w : Str) (ts : List Th) : kidsL (.at (.str w) :: ts) = kidsL ts := rfl
end K04

set_option Elab.async false
set_option linter.all false
set_option maxRecDepth 100000
set_option maxHeartbeats 4000000
namespace L2
open PySem PySem.Spec PyProof.Rows
/-- a def with defaults -/
structure FunD (K : PySem.W.Frag) (x qual : Str) (st : Stmt) (dV : Value) (f : Addr) (fd : FuncData) : Prop where
  ex : ∃ (oc : Value) (od : Option Addr) (kV doc pm : Value) (an : Option Addr) (cdv ct : Value) (osl : Array (Option Value)),
    fd = PySem.W.fnOf x qual (defArgs st) (defBody st) (defScope st) dV kV doc pm an cdv ct ∧ K.lookup f = some ⟨oc, od, .func fd, osl⟩ ∧ PySem.W.codeIn K cdv qual = true
  kp : PySem.W.keepIn K (.ref f) = true
section
variable {P : Program} {w : World} {K : PySem.W.Frag} {mg : Str → Option Value} {base : Heap}
theorem FunD.ok {x qual : Str} {st : Stmt} {dV : Value} {f : Addr} {fd : FuncData} {N ps : List Str} {k : Nat} {sp : Sp} (F : FunD K x qual st dV f fd) (S : FnScope N ps (defScope st)) (len : ∀ vs H Q E, sp vs H Q E → vs.length = ps.length)
    (hbody : ∀ (cdv : Value) (A : Around) (outer : List Env) (s : Shared) (H : Hp) (vs : List V) (Q : VK) (E : XK), Room k (A.deeper (envOfC qual (defScope st) s.heap.objs.size f cdv)) → sp vs H Q E →
      ∃ t, PSs (cxOf CX0 P w K mg base N qual (defScope st) f cdv A outer s H E).nox (defBody st) t ∧ t { nx := fun _ H' => Q .non H', rt := Q } (start N vs) H) : FnOk P w K mg base CX0 (k + 1) f fd ps sp := by
  obtain ⟨oc, od, kV, doc, pm, an, cdv, ct, osl, rfl, lk, hcd⟩ := F.ex
  refine fn_of lk hcd S len fun A outer s H vs Q E hr hsp => ?_
  obtain ⟨t, h, q⟩ := hbody cdv A outer s H vs Q E hr hsp
  exact ⟨t, h.nox, q⟩
/-- a def that may raise -/
theorem FunD.okX {x qual : Str} {st : Stmt} {dV : Value} {f : Addr} {fd : FuncData} {CX : CXT} {N ps : List Str} {k : Nat} {sp : Sp} (F : FunD K x qual st dV f fd) (S : FnScope N ps (defScope st)) (len : ∀ vs H Q E, sp vs H Q E → vs.length = ps.length)
    (hbody : ∀ (cdv : Value) (A : Around) (outer : List Env) (s : Shared) (H : Hp) (vs : List V) (Q : VK) (E : XK), Room k (A.deeper (envOfC qual (defScope st) s.heap.objs.size f cdv)) → sp vs H Q E →
      ∃ t, PSs (cxOf CX P w K mg base N qual (defScope st) f cdv A outer s H E) (defBody st) t ∧ t { nx := fun _ H' => Q .non H', rt := Q } (start N vs) H) : FnOk P w K mg base CX (k + 1) f fd ps sp := by
  obtain ⟨oc, od, kV, doc, pm, an, cdv, ct, osl, rfl, lk, hcd⟩ := F.ex
  exact fn_of lk hcd S len fun A outer s H vs Q E hr hsp => hbody cdv A outer s H vs Q E hr hsp
theorem Fun.d {x qual : Str} {st : Stmt} {f : Addr} {fd : FuncData} (F : Fun K x qual st f fd) : FunD K x qual st .none f fd := ⟨F.ex, F.kp⟩
end
end L2
namespace K04
open PySem L2
abbrev sInitL : Stmt := (clsBody (top 1)).getD 0 (.Pass ⟨0, 0, 0, 0⟩)
abbrev sInitN : Stmt := (clsBody (top 2)).getD 0 (.Pass ⟨0, 0, 0, 0⟩)
def spInitL (C : Addr) : Sp := fun vs H Q _ => ∃ e v, vs = [.ref e, v] ∧ H e = some (excN C e) ∧ Q .non H
def spInitN (C : Addr) : Sp := fun vs H Q _ => ∃ (e p : Addr) (t : Th), vs = [.ref e, .ref p] ∧ H e = some (excN C e) ∧ IsTh H (.ref p) t ∧ (dat t).showable = true ∧ (dat t).depth ≤ 100 ∧ (dat t).shown.length ≤ 1000000 ∧
  ∀ d, H d = none → d ≠ e → Q .non (upd (upd H d (.xd [("place", .ref p)])) e (excM C e d))
section
variable {P : Program} {w : World} {K : PySem.W.Frag} {mg : Str → Option Value} {base : Heap}
theorem scInitL : FnScope ["self", "words"] ["self", "words"] (defScope sInitL) := ⟨rfl, rfl, rfl, by decide +kernel, rfl, by decide +kernel, by decide +kernel⟩
theorem scInitN : FnScope ["self", "place"] ["self", "place"] (defScope sInitN) := ⟨rfl, rfl, rfl, by decide +kernel, rfl, by decide +kernel, by decide +kernel⟩
theorem ok_initL {f C fI : Addr} {fd : FuncData} {dV : Value} (F : FunD K "__init__" "LikeError.__init__" sInitL dV f fd) (c : ExC K C fI) (hV : mg "ValueError" = none) (hfc : PySem.W.findCls K (.type "ValueError") (.type "type") "__init__" = some (.val (.builtin "ValueError.__init__"))) :
    FnOk P w K mg base CX0 1 f fd ["self", "words"] (spInitL C) := by
  refine F.ok scInitL (fun vs H Q E h => ?_) (fun cdv A outer s H vs Q E hr h => ?_)
  · obtain ⟨e, v, rfl, _⟩ := h
    rfl
  · obtain ⟨e, v, rfl, He, k⟩ := h
    refine' ⟨?tt, ?body, ?fin⟩
    case body =>
      refine' pss_one ?s1
      case s1 =>
        refine' ps_expr ?e1
        case e1 => exact pe_typem (call_initV c) (by rfl) hV (by decide +kernel) (by rfl) (by decide +kernel) hfc (by decide +kernel) (pa_n (pv 0) (pa_n (pv 1) pa_nil))
    case fin => exact ⟨_, rfl, _, rfl, e, v, rfl, He, k⟩
theorem ok_initN {f fL C B fI : Addr} {fd dL : FuncData} {dV : Value} (F : FunD K "__init__" "NoPlace.__init__" sInitN .none f fd) (c : ExC K C fI) (hn : PySem.W.findIn K (.ref C) "place" = some none)
    (FL : FunD K "__init__" "LikeError.__init__" sInitL dV fL dL) (bL : Binds K dL ["self", "words"] []) (hV : mg "ValueError" = none) (hfv : PySem.W.findCls K (.type "ValueError") (.type "type") "__init__" = some (.val (.builtin "ValueError.__init__")))
    (mB : mg "LikeError" = some (.ref B)) (hga : PySem.W.specialIn K (.ref B) "__getattribute__" = some (some (.builtin "type.__getattribute__"))) (hrd : PySem.W.readsIn K B (.type "type") = true) (hfc : PySem.W.findCls K (.ref B) (.type "type") "__init__" = some (.val (.ref fL))) :
    FnOk P w K mg base CX0 2 f fd ["self", "place"] (spInitN C) := by
  have GL : FnOk P w K mg base CX0 1 fL dL ["self", "words"] (spInitL C) := ok_initL FL c hV hfv
  refine F.ok scInitN (fun vs H Q E h => ?_) (fun cdv A outer s H vs Q E hr h => ?_)
  · obtain ⟨e, p, t, rfl, _⟩ := h
    rfl
  · obtain ⟨e, p, t, rfl, He, ht, h1, h2, h3, k⟩ := h
    have hsz : sizeLine = 16777216 := sizeLine_eq
    have hu := hr.un
    have hgd := hr.gd
    refine' ⟨?tt, ?body, ?fin⟩
    case body =>
      refine' pss_cons ?s1 (pss_one ?s2)
      case s1 =>
        refine' ps_expr ?e1
        case e1 =>
          refine' pe_clsm GL hr (by rfl) mB hga hrd hfc FL.kp bL pass0 ?aa
          case aa =>
            refine' pa_n (pv 0) ?a1
            case a1 =>
              refine' pa_cons ?j pa_nil
              case j => exact pe_fmt hgd (pv 1)
      case s2 => exact ps_fldX c hn (pv 0) (pv 1) rfl
    case fin =>
      refine ⟨_, rfl, _, rfl, p, t, rfl, ht, h1, ?_, ?_, fun y => ?_⟩
      · show (A.deeper _).units + ((dat t).depth + 2) < cLine
        omega
      · show _ + (14 : Nat) ≤ sizeLine
        omega
      · exact ⟨e, _, rfl, He, _, rfl, _, rfl, e, rfl, He, k⟩
end
end K04

set_option Elab.async false
set_option linter.all false
set_option maxRecDepth 100000
set_option maxHeartbeats 4000000
namespace K04
open PySem L2
/-- the nodes on a way, or that it leads nowhere -/
def goT : Th → List Int → Option (List Th)
  | t, [] => some [t]
  | t, z :: zs => match t with
    | .tup xs => if 0 ≤ z then ((kidsL xs)[z.toNat]?).bind fun k => (goT k zs).map (t :: ·) else none
    | _ => none
abbrev zsT (zs : List Int) : List Th := zs.map fun z => Th.at (.int z)
structure ShowOk (zs : List Int) : Prop where
  sh : (dat (.tup (zsT zs))).showable = true
  dp : (dat (.tup (zsT zs))).depth ≤ 100
  ln : (dat (.tup (zsT zs))).shown.length ≤ 1000000
def spWay (C : Addr) (N : Nat) : Sp := fun vs H Q E => ∃ (v : V) (ap : Addr) (t : Th) (zs : List Int), vs = [v, .ref ap] ∧ IsTh H v t ∧ OkT N t ∧ Th.sz t ≤ 100000 ∧ IsTh H (.ref ap) (.tup (zsT zs)) ∧ zs.length ≤ 1000 ∧ ShowOk zs ∧
  (∀ ns, goT t zs = some ns → ∀ (q : Addr) (ws : List V) H', Same H H' → H' q = some (.lst ws) → IsThs H' ws ns → Q (.ref q) H') ∧
  (goT t zs = none → ∀ (d : Addr) H', Same H H' → H d = none → H' d = some (.xd [("place", .ref ap)]) → E (.ref C) (some d) H')
/-- what of the text the class NoPlace must have -/
structure NoP (K : PySem.W.Frag) (mg : Str → Option Value) (C fI : Addr) (dI : FuncData) : Prop where
  c : ExC K C fI
  m : mg "NoPlace" = some (.ref C)
  b : Binds K dI ["self", "place"] []
section
variable {P : Program} {w : World} {K : PySem.W.Frag} {mg : Str → Option Value} {base : Heap}
theorem scWay : FnScope ["e", "path", "found", "at", "inner"] ["e", "path"] (defScope sWay) := ⟨rfl, rfl, rfl, by decide +kernel, rfl, by decide +kernel, by decide +kernel⟩
theorem ok_way {f fW fP C fI : Addr} {fd dW dP dI : FuncData} (F : Fun K "way" "way" sWay f fd) (T : TxtT mg) (KI : Kits K) (FP : Fun K "parts" "parts" sParts fP dP) (bP : Binds K dP ["e"] []) (mP : mg "parts" = some (.ref fP)) (FW : Fun K "is_whole" "is_whole" sWhole fW dW) (bW : Binds K dW ["thing"] []) (mW : mg "is_whole" = some (.ref fW))
    (Z : NoP K mg C fI dI) (GI : FnOk P w K mg base CX0 2 fI dI ["self", "place"] (spInitN C)) (N : Nat) : FnOk P w K mg base (CXN P w C) 4 f fd ["e", "path"] (spWay C N) := by
  have GP : FnOk P w K mg base CX0 1 fP dP ["e"] spParts := ok_parts FP T KI
  have GW : FnOk P w K mg base CX0 1 fW dW ["thing"] (spTest wholeB) := ok_whole FW T KI
  refine F.d.okX scWay (fun vs H Q E h => ?_) (fun cdv A outer s H vs Q E hr h => ?_)
  · obtain ⟨v, ap, t, zs, rfl, _⟩ := h
    rfl
  · obtain ⟨v, ap, t, zs, rfl, ht, hok, hz, hp, hzl, so, kQ, kE⟩ := h
    have hsz : sizeLine = 16777216 := sizeLine_eq
    have hr1 : Room 1 _ := hr.mono (by decide)
    refine' ⟨?tt, ?body, ?fin⟩
    case body =>
      refine' pss_cons ?s1 ?r1
      case s1 => exact ps_set (i := 2) scWay.nd rfl (Or.inl rfl) (pe_lst (pa_n (pv 0) pa_nil))
      case r1 =>
        refine' pss_cons ?s2 (pss_one ?s3)
        case s2 =>
          refine' ps_for PassesOwn.leaving rfl (pi_tup (pv 1)) (pg_name (i := 3) scWay.nd rfl (Or.inl rfl)) ?blk
          case blk =>
            refine' pss_cons ?b1 ?q1
            case b1 => exact ps_set (i := 4) scWay.nd rfl (Or.inl rfl) (pe_call GP hr1 (by rfl) mP FP.kp bP .nil pass0 (pa_cons (pe_ix ix_list (pv 2) (pe_un un_neg pe_int) (fun _ _ => rfl)) pa_nil))
            case q1 =>
              refine' pss_cons ?b2 (pss_one ?b3)
              case b2 =>
                refine' ps_if ?c (pss_one ?ra) pss_nil
                case c => exact (pw_or (pt_not (pt_val (pe_call GW hr1 (by rfl) mW FW.kp bW .nil pass0 (pa_n (pv 3) pa_nil)))) (pw_or1 (pt_not (pt_chain op_le op_lt pe_int (pv 3) (pe_callB call_len_seq (by rfl) T.len PySem.boot_len (pa_n (pv 4) pa_nil)))))).pt
                case ra => exact ps_raiseX Z.c GI hr (by rfl) Z.m Z.b (pa_n (pv 1) pa_nil) rfl rfl rfl rfl rfl
              case b3 => exact ps_expr (pe_bm PySem.F.plainAttrs_list PySem.F.slot_list_append PySem.F.type_list_append mt_append (pv 2) (pa_cons (pe_ix ix_tup (pv 4) (pv 3) (fun _ _ => rfl)) pa_nil))
        case s3 => exact ps_ret (pv 2)
    case fin =>
      obtain ⟨ap', pvs, e1, hap, hpv⟩ := th_tup hp
      cases e1
      have hpvl := IsThs.len _ hpv
      rw [List.length_map] at hpvl
      refine ⟨_, rfl, (by show 1 ≤ sizeLine; decide), fun fl hfl => ?_⟩
      have sf := same_upd (o := .lst [v]) hfl
      have raise : ∀ H1, Same H H1 → goT t zs = none → ∀ a, H1 a = none → spInitN C [.ref a, .ref ap] (upd H1 a (excN C a)) (fun v H2 => v = .non ∧ ∃ d, H2 a = some (excM C a d) ∧ E (.ref C) (some d) (off1 a H2)) E0 := by
        intro H1 s1 hno a ha
        have sa := same_upd (o := excN C a) ha
        refine ⟨a, ap, _, rfl, upd_same, IsTh.kp (Kp.of (s1.trans sa)) hp, so.sh, so.dp, so.ln, fun d hd hne => ⟨rfl, d, upd_same, kE hno d _ (fun b o e => ?_) ?_ ?_⟩⟩
        · have e1 := s1 _ _ e
          have hba := ne_of_none e1 ha
          have hbd := ne_of_none (sa _ _ e1) hd
          unfold off1
          rw [if_neg hba, upd_ne hba, upd_ne hbd]
          exact sa _ _ e1
        · cases z : H d with
          | none => rfl
          | some o =>
            rw [sa _ _ (s1 _ _ z)] at hd
            cases hd
        · unfold off1
          rw [if_neg hne, upd_ne hne, upd_same]
      refine ⟨_, rfl, ap, rfl, ⟨_, SqT.of (sf _ _ hap)⟩, for_tup (K := K) (a := ap) (xs := pvs) (fun i σ H' => ∃ (ws : List V) (y : V) (u : Th) (us : List Th) (o3 o4 : Option V), σ = [some v, some (.ref ap), some (.ref fl), o3, o4] ∧ Same H H' ∧ H' fl = some (.lst (ws ++ [y])) ∧ IsTh H y u ∧ IsThs H ws us ∧ (∃ n, OkT n u) ∧ Th.sz u ≤ 100000 ∧ goT t zs = (goT u (zs.drop i)).map (us ++ ·) ∧ ws.length = i)
        ⟨[], v, t, [], none, none, rfl, sf, upd_same, ht, .nil, ⟨N, hok⟩, hz, by rw [List.drop_zero]; cases goT t zs <;> rfl, rfl⟩ (fun i σ H' _ ⟨_, _, _, _, _, _, _, e, _⟩ => SqT.of (e _ _ hap)) ?_ ?_⟩
      · rintro i x σ H1 hx ⟨ws, y, u, us, o3, o4, rfl, s1, L1, hy, hus, ⟨n, hn⟩, hzu, hnd, hwl⟩
        obtain ⟨tx, htx, h1⟩ := ths_get _ hpv hx
        rw [List.getElem?_map] at htx
        obtain ⟨z, hj, rfl⟩ : ∃ z, zs[i]? = some z ∧ Th.at (.int z) = tx := by
          cases e : zs[i]? with
          | none => rw [e] at htx; cases htx
          | some j => rw [e] at htx; exact ⟨j, rfl, by simpa using htx⟩
        obtain ⟨rfl, _⟩ := th_at h1
        have hi : i < zs.length := (List.getElem?_eq_some_iff.mp hj).1
        have edrop : zs.drop i = z :: zs.drop (i + 1) := by
          rw [List.drop_eq_getElem_cons hi]
          congr 1
          exact (List.getElem?_eq_some_iff.mp hj).2
        obtain ⟨N', rfl⟩ : ∃ N', n = N' + 1 := by
          cases n with
          | zero => exact hn.elim
          | succ N' => exact ⟨N', rfl⟩
        obtain ⟨w0, xs, rfl, hlet, hkid⟩ := hn
        rw [edrop, goT, kids_cons] at hnd
        have hxs : Th.sz (.tup (.at (.str w0) :: xs)) = 1 + (1 + szs xs) := by simp only [Th.sz, szs]
        have hxl := szs_len xs
        refine ⟨_, rfl, _, rfl, fl, _, -1, y, rfl, rfl, SqL.of L1, atI_last _ _, H, y, _, rfl, s1, hy, by rw [List.length_cons]; omega, fun pp ps H2 s2 hp2 hps => ?_⟩
        rw [kids_cons] at hps
        have hpsl := IsThs.len _ hps
        refine ⟨_, rfl, .int z, .at (.int z), rfl, .at rfl, _, rfl, ?_⟩
        refine iteF ?_
        refine ⟨_, rfl, _, _, rfl, rfl, _, rfl, ite2 (fun g => ?_) (fun g => ?_)⟩
        · have hz0 : 0 ≤ z := by simpa using g
          rw [if_pos hz0] at hnd
          refine ⟨_, rfl, pp, ps, rfl, .inr (SqT.of hp2), _, _, rfl, rfl, _, rfl, ite2 (fun g2 => ?_) (fun g2 => ?_)⟩
          · have hno : (kidsL xs)[z.toNat]? = none := by
              rw [List.getElem?_eq_none]
              have : ¬ z < (ps.length : Int) := by simpa using g2
              omega
            rw [hno] at hnd
            exact ⟨_, rfl, by show 1 ≤ 10; decide, fun a ha => raise H2 (s1.trans s2) hnd a ha⟩
          · have hlt : z < (ps.length : Int) := by simpa using g2
            obtain ⟨j, rfl⟩ := Int.eq_ofNat_of_zero_le hz0
            obtain ⟨kd, hkd⟩ : ∃ kd, (kidsL xs)[j]? = some kd := ⟨_, List.getElem?_eq_getElem (by omega)⟩
            have hkm' : kd ∈ xs ∧ isTup kd = true := List.mem_filter.mp (List.mem_of_getElem? hkd)
            have hks := sz_mem xs kd hkm'.1
            obtain ⟨vk, hvk, hvkt⟩ := ths_at _ hps hkd
            have htn : ((j : Nat) : Int).toNat = j := Int.toNat_natCast j
            rw [htn, hkd] at hnd
            refine ⟨_, rfl, .inl ⟨rfl, _, SqL.of (s2 _ _ L1)⟩, _, rfl, _, rfl, pp, ps, (j : Nat), vk, rfl, rfl, SqT.of hp2, atI_nat hvk, fl, ws ++ [y], vk, rfl, rfl, s2 _ _ L1, by rw [List.length_append, List.length_singleton]; omega, ?_⟩
            refine ⟨ws ++ [y], vk, kd, us ++ [_], _, _, rfl, ?_, upd_same, hvkt, IsThs.app _ hus (.cons hy .nil), ⟨N', hkid kd hkm'.1 hkm'.2⟩, by omega, ?_, by rw [List.length_append, hwl]; rfl⟩
            · intro b ob e
              rw [upd_ne (ne_of_none e hfl)]
              exact s2 _ _ (s1 _ _ e)
            · rw [hnd]
              show ((goT kd (zs.drop (i + 1))).map _).map _ = _
              rw [Option.map_map]
              congr 1
              funext q
              simp
        · have hz0 : ¬ 0 ≤ z := fun q => g (by simpa using q)
          rw [if_neg hz0] at hnd
          refine ⟨_, rfl, ite2 (fun _ => ⟨_, rfl, by show 1 ≤ 10; decide, fun a ha => raise H2 (s1.trans s2) hnd a ha⟩) (fun g3 => ?_)⟩
          exfalso
          exact g3 (by simpa using hz0)
      · rintro σ H1 ⟨ws, y, u, us, o3, o4, rfl, s1, L1, hy, hus, _, hzu, hnd, hwl⟩
        rw [List.drop_of_length_le (by omega), goT] at hnd
        exact ⟨_, rfl, kQ _ hnd fl _ H1 s1 L1 (IsThs.app _ (IsThs.kp (Kp.of s1) hus) (.cons (IsTh.kp (Kp.of s1) hy) .nil))⟩
end
end K04

set_option Elab.async false
set_option linter.all false
set_option maxRecDepth 100000
set_option maxHeartbeats 4000000
namespace K04
open PySem L2
/-- a pair taken apart, within a block -/
theorem pg_pairK {X : Cx} {K : PySem.W.Frag} {x y : Str} {px py pos : Pos} {k i j : Nat} (hK : X.K = K) (hc : X.calm = true) (hN : X.N.Nodup) (hi : X.N[i]? = some x) (hx : Loc X.env.scope x) (hj : X.N[j]? = some y) (hy : Loc X.env.scope y)
    (hf : X.fn x = true ∨ X.env.scope.names.lookup x = some .local) (hg : X.fn y = true ∨ X.env.scope.names.lookup y = some .local) :
    PG X (.Tuple [.Name x px, .Name y py] k pos) (gTup K 2 (gCons (gName i) (gCons (gName j) gNil))) := by
  subst hK
  exact pg_tup hc (pgs_cons (pg_name hN hi hx hf) (pgs_cons (pg_name hN hj hy hg) pgs_nil))
mutual
theorem cnt_sz : ∀ t : Th, cnt t ≤ Th.sz t
  | .tup xs => by rw [cnt, Th.sz]; have := cnts_sz xs; omega
  | .at _ => by simp [cnt]
  | .lst _ => by simp [cnt]
theorem cnts_sz : ∀ ts : List Th, cnts ts ≤ szs ts
  | [] => by simp [cnts]
  | x :: xs => by rw [cnts, szs]; have := cnt_sz x; have := cnts_sz xs; omega
end
theorem cnt_pos {n : Nat} {t : Th} (h : OkT n t) : 1 ≤ cnt t := by
  cases n with
  | zero => exact h.elim
  | succ n =>
    obtain ⟨w, ts, rfl, _⟩ := h
    rw [cnt]; omega
theorem allK_get : ∀ (ks : List Th) (j : Nat), ∀ q ∈ allK j ks, ∃ (i : Nat) (p : List Nat) (k : Th), q.1 = (j + i) :: p ∧ ks[i]? = some k ∧ (p, q.2) ∈ allp k := by
  intro ks
  induction ks with
  | nil => intro j q hq; cases hq
  | cons k ks ih =>
    intro j q hq
    rw [allK] at hq
    rcases List.mem_append.mp hq with z | z
    · obtain ⟨r, hr, rfl⟩ := List.mem_map.mp z
      exact ⟨0, r.1, k, rfl, rfl, hr⟩
    · obtain ⟨i, p, k', e1, e2, e3⟩ := ih (j + 1) q z
      refine ⟨i + 1, p, k', ?_, by simpa using e2, e3⟩
      rw [e1]
      congr 1
      omega
/-- a way's node is a node -/
theorem all_ok : ∀ (n : Nat) (t : Th), OkT n t → ∀ q ∈ allp t, OkT n q.2 ∧ Th.sz q.2 ≤ Th.sz t ∧ q.1.length ≤ n := by
  intro n
  induction n with
  | zero => intro t h; exact h.elim
  | succ n ih =>
    intro t h q hq
    obtain ⟨w, ts, rfl, hl, hk⟩ := h
    rw [allp, allps_kids] at hq
    rcases List.mem_cons.mp hq with z | z
    · subst z; exact ⟨⟨w, ts, rfl, hl, hk⟩, Nat.le_refl _, Nat.zero_le _⟩
    · obtain ⟨i, p, k, e1, e2, e3⟩ := allK_get _ 0 q z
      have hm := List.mem_of_getElem? e2
      have h1 := ih k (kid_ok hk hm) (p, q.2) e3
      have h2 : k ∈ (Th.at (.str w) :: ts) := (List.mem_filter.mp hm).1
      have h3 := sz_mem _ k h2
      refine ⟨h1.1.up, ?_, by rw [e1, List.length_cons]; have := h1.2.2; simp only [] at this; omega⟩
      rw [Th.sz]
      have := h1.2.1
      simp only [] at this
      omega

end K04

set_option Elab.async false
set_option linter.all false
set_option maxRecDepth 100000
set_option maxHeartbeats 4000000
namespace K04
open PySem L2
/-- a node whose lets, names and sets have their text -/
def OkN : Nat → Th → Prop
  | 0, _ => False
  | n + 1, t => ∃ (w : Str) (ts : List Th), t = .tup (.at (.str w) :: ts) ∧ (w = "let" → (kidsL ts).length = 2) ∧ (w = "let" ∨ w = "name" ∨ w = "set" → ∃ x r, ts = .at (.str x) :: r) ∧
    (∀ x ∈ ts, isTup x = true ∨ ∃ v, x = .at v) ∧ ∀ x ∈ ts, isTup x = true → OkN n x
theorem OkN.ok : ∀ (n : Nat) {t : Th}, OkN n t → OkT n t := by
  intro n
  induction n with
  | zero => intro t h; exact h.elim
  | succ n ih =>
    intro t h
    obtain ⟨w, ts, rfl, h1, _, _, h4⟩ := h
    exact ⟨w, ts, rfl, h1, fun x hx hxt => ih (h4 x hx hxt)⟩
theorem OkN.up : ∀ (n : Nat) {t : Th}, OkN n t → OkN (n + 1) t := by
  intro n
  induction n with
  | zero => intro t h; exact h.elim
  | succ n ih =>
    intro t h
    obtain ⟨w, ts, rfl, h1, h2, h3, h4⟩ := h
    exact ⟨w, ts, rfl, h1, h2, h3, fun x hx hxt => ih (h4 x hx hxt)⟩
theorem OkN.le {n m : Nat} {t : Th} (h : OkN n t) (hm : n ≤ m) : OkN m t := by
  obtain ⟨k, rfl⟩ := Nat.exists_eq_add_of_le hm
  induction k with
  | zero => exact h
  | succ k ih => exact (ih (Nat.le_add_right _ _)).up
end K04

set_option Elab.async false
set_option linter.all false
set_option maxRecDepth 100000
set_option maxHeartbeats 4000000
namespace K04
open PySem L2
abbrev sFeed : Stmt := top 21
abbrev sDraw : Stmt := top 22
abbrev sOne : Stmt := top 23
abbrev sLawValue : Stmt := top 24
abbrev sSpelled : Stmt := top 25
abbrev sWords : Stmt := top 26
abbrev sLawName : Stmt := top 27
abbrev sNames : Stmt := top 28
abbrev sLawParts : Stmt := top 29
abbrev sLeaf : Stmt := top 31
abbrev sExpr : Stmt := top 32
abbrev sWorld : Stmt := top 33
abbrev sAllPaths : Stmt := top 34
abbrev sRefused : Stmt := top 36
abbrev sLaw : Stmt := top 38
/-! the feed: its dict and its list of cells -/
def feedKV (l : Addr) (n : Nat) (z : Int) (sb : Bool) : List (Key × V) := [(Sum.inr "cells", .ref l), (Sum.inr "at", .int n), (Sum.inr "left", .int z), (Sum.inr "short", .bl sb)]
structure Feed (H : Hp) (d l : Addr) (ns : List Int) (n : Nat) : Prop where
  dc : ∃ z sb, H d = some (.dK (feedKV l n z sb))
  ls : H l = some (.lst (ns.map V.int))
  sz : ns.length ≤ 63
/-- all but the feed's dict stays -/
def But (d : Addr) (H H' : Hp) : Prop := ∀ b o, H b = some o → b ≠ d → H' b = some o
theorem But.trans {d : Addr} {H H1 H2 : Hp} (a : But d H H1) (b : But d H1 H2) : But d H H2 := fun c o e n => b c o (a c o e n) n
theorem But.of {d : Addr} {H H1 : Hp} (a : Same H H1) : But d H H1 := fun c o e _ => a c o e
theorem kv_cells (l : Addr) (n : Nat) (z : Int) (sb : Bool) : valV (feedKV l n z sb) (Sum.inr "cells") = some (.ref l) := by with_unfolding_all rfl
theorem kv_at (l : Addr) (n : Nat) (z : Int) (sb : Bool) : valV (feedKV l n z sb) (Sum.inr "at") = some (.int n) := by with_unfolding_all rfl
theorem kv_left (l : Addr) (n : Nat) (z : Int) (sb : Bool) : valV (feedKV l n z sb) (Sum.inr "left") = some (.int z) := by with_unfolding_all rfl
theorem put_at (l : Addr) (n : Nat) (z : Int) (sb : Bool) : putK (feedKV l n z sb) (Sum.inr "at") (.int ((n : Int) + 1)) = feedKV l (n + 1) z sb := by with_unfolding_all rfl
theorem put_left (l : Addr) (n : Nat) (z y : Int) (sb : Bool) : putK (feedKV l n z sb) (Sum.inr "left") (.int y) = feedKV l n y sb := by with_unfolding_all rfl

theorem get_cells {H : Hp} {d l : Addr} {n : Nat} {z : Int} {sb : Bool} (h : H d = some (.dK (feedKV l n z sb))) : DGet H d (.str "cells") (some (.ref l)) := by
  have := DGet.k (k := Sum.inr "cells") h; rw [kv_cells] at this; exact this
theorem get_at {H : Hp} {d l : Addr} {n : Nat} {z : Int} {sb : Bool} (h : H d = some (.dK (feedKV l n z sb))) : DGet H d (.str "at") (some (.int n)) := by
  have := DGet.k (k := Sum.inr "at") h; rw [kv_at] at this; exact this
theorem get_left {H : Hp} {d l : Addr} {n : Nat} {z : Int} {sb : Bool} (h : H d = some (.dK (feedKV l n z sb))) : DGet H d (.str "left") (some (.int z)) := by
  have := DGet.k (k := Sum.inr "left") h; rw [kv_left] at this; exact this
theorem set_at {H : Hp} {d l : Addr} {n : Nat} {z : Int} {sb : Bool} (h : H d = some (.dK (feedKV l n z sb))) : DPut H d (.str "at") (.int ((n : Int) + 1)) (upd H d (.dK (feedKV l (n + 1) z sb))) := by
  have := DPut.k (k := Sum.inr "at") (v := .int ((n : Int) + 1)) h (by show 4 < sizeLine; decide); rw [put_at] at this; exact this
theorem set_left {H : Hp} {d l : Addr} {n : Nat} {z y : Int} {sb : Bool} (h : H d = some (.dK (feedKV l n z sb))) : DPut H d (.str "left") (.int y) (upd H d (.dK (feedKV l n y sb))) := by
  have := DPut.k (k := Sum.inr "left") (v := .int y) h (by show 4 < sizeLine; decide); rw [put_left] at this; exact this
theorem kv_short (l : Addr) (n : Nat) (z : Int) (sb : Bool) : valV (feedKV l n z sb) (Sum.inr "short") = some (.bl sb) := by with_unfolding_all rfl
theorem put_short (l : Addr) (n : Nat) (z : Int) (sb b : Bool) : putK (feedKV l n z sb) (Sum.inr "short") (.bl b) = feedKV l n z b := by with_unfolding_all rfl
theorem get_short {H : Hp} {d l : Addr} {n : Nat} {z : Int} {sb : Bool} (h : H d = some (.dK (feedKV l n z sb))) : DGet H d (.str "short") (some (.bl sb)) := by
  have := DGet.k (k := Sum.inr "short") h; rw [kv_short] at this; exact this
theorem set_short {H : Hp} {d l : Addr} {n : Nat} {z : Int} {sb b : Bool} (h : H d = some (.dK (feedKV l n z sb))) : DPut H d (.str "short") (.bl b) (upd H d (.dK (feedKV l n z b))) := by
  have := DPut.k (k := Sum.inr "short") (v := .bl b) h (by show 4 < sizeLine; decide); rw [put_short] at this; exact this
theorem Feed.ne {H : Hp} {d l : Addr} {ns : List Int} {n : Nat} (F : Feed H d l ns n) : l ≠ d := by
  obtain ⟨⟨z, sb, h⟩, g, _⟩ := F
  exact ne_of g h (by intro q; cases q)
theorem Feed.but {H H' : Hp} {d l : Addr} {ns : List Int} {n m : Nat} {z : Int} {sb : Bool} (F : Feed H d l ns n) (b : But d H H') (h : H' d = some (.dK (feedKV l m z sb))) : Feed H' d l ns m := ⟨⟨z, sb, h⟩, b l _ F.ls F.ne, F.sz⟩
theorem But.upd {d : Addr} {H : Hp} {o : HO} : But d H (upd H d o) := fun c u e n => by rw [upd_ne n]; exact e

def spFeed (K : PySem.W.Frag) : Sp := fun vs H Q _ => ∃ (a : Addr) (ns : List Int), vs = [.ref a] ∧ SqL K H a (ns.map V.int) ∧ ns.length ≤ 63 ∧ ∀ d l H', Feed H' d l ns 0 → H d = none → Same H H' → Q (.ref d) H'
def spDraw : Sp := fun vs H Q _ => ∃ (d l : Addr) (ns : List Int) (n : Nat) (m : Int), vs = [.ref d, .int m] ∧ Feed H d l ns n ∧ n ≤ 1000000000000 ∧ 0 < m ∧ m < 18446744073709551616 ∧
  ∀ r n' H', 0 ≤ r → r < m → n' ≤ n + 1 → Feed H' d l ns n' → But d H H' → Q (.int r) H'
theorem cut63 {ns : List Int} (h : ns.length ≤ 63) : cutV (ns.map V.int) none (some 63) = ns.map V.int := by
  have e1 : HT.sIx (ns.map V.int).length 0 none = 0 := rfl
  have e2 : HT.sIx (ns.map V.int).length (ns.map V.int).length (some 63) = min 63 (ns.map V.int).length := rfl
  unfold cutV
  rw [e1, e2, List.drop_zero, List.take_of_length_le]
  rw [List.length_map]; omega
theorem lo29 (x : Int) : -(2 ^ 64) < x % 2147483629 := by omega
theorem hi29 (x : Int) : x % 2147483629 < 2 ^ 64 := by omega
theorem flat_ints (ns : List Int) : (ns.map V.int).all flatV = true := by
  rw [List.all_map]; exact List.all_eq_true.mpr fun _ _ => rfl
theorem Feed.same {H H' : Hp} {d l : Addr} {ns : List Int} {n : Nat} (F : Feed H d l ns n) (s : Same H H') : Feed H' d l ns n := let ⟨⟨z, sb, h⟩, g, q⟩ := F; ⟨⟨z, sb, s _ _ h⟩, s _ _ g, q⟩
theorem small_len {xs : List V} (h : xs.length ≤ 1000) : xs.length ≤ sizeLine := Nat.le_trans h (by decide)
structure Txt0 (mg : Str → Option Value) : Prop where
  len : mg "len" = none
  list : mg "list" = none
  range : mg "range" = none
section
variable {P : Program} {w : World} {K : PySem.W.Frag} {mg : Str → Option Value} {base : Heap}
theorem scFeed : FnScope ["_law_script"] ["_law_script"] (defScope sFeed) := ⟨rfl, rfl, rfl, by decide +kernel, rfl, by decide +kernel, by decide +kernel⟩
theorem ok_feed {f : Addr} {fd : FuncData} (F : Fun K "_law_feed" "_law_feed" sFeed f fd) (T : Txt0 mg) : FnOk P w K mg base CX0 1 f fd ["_law_script"] (spFeed K) := by
  refine F.ok scFeed (fun vs H Q E h => ?_) (fun cdv A outer s H vs Q E hr h => ?_)
  · obtain ⟨a, ns, rfl, _⟩ := h
    rfl
  · obtain ⟨a, ns, rfl, hS, hl, k⟩ := h
    refine ⟨_, pss_one (ps_ret (pe_disp (pps_cons pe_str (pe_callTy call_list_of (by rfl) T.list (by rfl) (pa_cons (pe_slice sl_list (pv 0) po_none (po_some pe_int)) pa_nil)) (pps_cons pe_str pe_int (pps_cons pe_str pe_int (pps_cons pe_str pe_bl pps_nil)))) rfl rfl (by intro z; cases z) (by decide))), ?_⟩
    intro d hd
    refine ⟨_, rfl, _, rfl, a, _, rfl, (same_upd hd).seq hS, fun p hp => ?_⟩
    refine ⟨p, _, rfl, .inl (SqL.of upd_same), fun l hl' => ?_⟩
    have hdl : d ≠ l := ne_of_none (H := upd (upd H d (.dK [])) p (.lst (cutV (ns.map V.int) none (some 63)))) (by rw [upd_ne (ne_of_none upd_same hp)]; exact upd_same) hl'
    have hpd : p ≠ d := fun z => by rw [z, upd_same] at hp; cases hp
    refine ⟨by rw [upd_ne hdl, upd_ne hpd.symm]; exact upd_same, feedKV l 0 0 false, rfl, by show 4 ≤ 15; decide, ?_⟩
    have em : mergeK [] (feedKV l 0 0 false) = feedKV l 0 0 false := by with_unfolding_all rfl
    rw [em]
    refine k d l _ ⟨⟨0, false, upd_same⟩, ?_, hl⟩ hd ?_
    · rw [upd_ne hdl.symm, upd_same, cut63 hl]
    · intro b o e
      have hb : (upd H d (.dK [])) b = some o := same_upd hd b o e
      have hb2 := same_upd (o := .lst (cutV (ns.map V.int) none (some 63))) hp b o hb
      rw [upd_ne (ne_of_none e hd)]
      exact same_upd hl' b o hb2
theorem scDraw : FnScope ["_law_feed_here", "_law_many", "_law_found", "_law_at", "_law_cell", "_law_number"] ["_law_feed_here", "_law_many"] (defScope sDraw) := ⟨rfl, rfl, rfl, by decide +kernel, rfl, by decide +kernel, by decide +kernel⟩
theorem ok_draw {f : Addr} {fd : FuncData} (F : Fun K "_law_draw" "_law_draw" sDraw f fd) (T : Txt0 mg) : FnOk P w K mg base CX0 1 f fd ["_law_feed_here", "_law_many"] spDraw := by
  refine F.ok scDraw (fun vs H Q E h => ?_) (fun cdv A outer s H vs Q E hr h => ?_)
  · obtain ⟨d, l, ns, n, m, rfl, _⟩ := h
    rfl
  · obtain ⟨d, l, ns, n, m, rfl, FD, hn, hm0, hm1, k⟩ := h
    have hu := hu_of hr
    have hu0 := hr.units0
    obtain ⟨⟨z, sb, hd⟩, hls, hsz⟩ := id FD
    refine ⟨_, pss_cons (ps_if (pt_cmpR op_gt (pe_dget hu (pv 0) pe_str (fun _ _ => rfl)) pe_int (nomark _))
        (pss_cons (ps_set (i := 2) scDraw.nd rfl (Or.inl rfl) (pe_op op_mod (pe_dget hu (pv 0) pe_str (fun _ _ => rfl)) (pv 1))) <|
         pss_cons (ps_dput hu (pv 0) pe_str (pe_op op_fdivL (pe_dget hu (pv 0) pe_str (fun _ _ => rfl)) (pv 1)) rfl) <|
         pss_one (ps_ret (pv 2))) pss_nil) <|
      pss_cons (ps_set (i := 3) scDraw.nd rfl (Or.inl rfl) (pe_dget hu (pv 0) pe_str (fun _ _ => rfl))) <|
      pss_cons (ps_dput hu (pv 0) pe_str (pe_op op_add (pv 3) pe_int) rfl) <|
      pss_cons (ps_set (i := 4) scDraw.nd rfl (Or.inl rfl) (pe_op op_add (pe_op op_mul (pv 3) (pv 3)) pe_int)) <|
      pss_cut (ps_if (pt_cmpR (op_ne_list hu0) (pe_dget hu (pv 0) pe_str (fun _ _ => rfl)) (pe_lst pa_nil) (nomark _))
        (pss_one (ps_set (i := 4) scDraw.nd rfl (Or.inl rfl) (pe_ix ix_list (pe_dget hu (pv 0) pe_str (fun _ _ => rfl)) (pe_op op_mod (pv 3) (pe_callB call_len_seq (by rfl) T.len PySem.boot_len (pa_cons (pe_dget hu (pv 0) pe_str (fun _ _ => rfl)) pa_nil))) (fun _ _ => rfl)))) pss_nil) <|
      pss_cons (ps_if (pt_cmpR op_ge (pv 4) (pe_op op_pow pe_int pe_int) (nomark _))
        (pss_cons (ps_dput hu (pv 0) pe_str (pe_op op_fdivL (pv 4) (pv 1)) rfl) <| pss_one (ps_ret (pe_op op_mod (pv 4) (pv 1)))) pss_nil) <|
      pss_cons (ps_set (i := 5) scDraw.nd rfl (Or.inl rfl) (pe_op op_mod (pe_op op_mul (pe_op op_add (pe_op op_add (pe_op op_mod (pv 4) pe_int) (pe_op op_mul pe_int (pv 3))) pe_int) pe_int) pe_int)) <|
      pss_cons (ps_set (i := 5) scDraw.nd rfl (Or.inl rfl) (pe_op op_mod (pe_op op_add (pe_op op_add (pe_op op_mul (pv 5) (pv 5)) (pe_op op_mul pe_int (pv 3))) pe_int) pe_int)) <|
      pss_cons (ps_set (i := 5) scDraw.nd rfl (Or.inl rfl) (pe_op op_mod (pe_op op_add (pe_op op_mul (pv 5) pe_int) (pv 3)) pe_int)) <|
      pss_one (ps_ret (pe_op op_mod (pe_op op_fdivL (pe_op op_mod (pe_op op_mul (pv 5) (pv 5)) pe_int) pe_int) (pv 1))), ?_⟩
    refine ⟨_, rfl, d, .int z, rfl, get_left hd, _, _, rfl, rfl, _, rfl, ?_⟩
    refine ite2 (fun hz => ?_) (fun hz => ?_)
    · refine ⟨_, rfl, d, .int z, rfl, get_left hd, _, rfl, _, _, rfl, rfl, hm0, ?_⟩
      refine ⟨_, rfl, d, .int z, rfl, get_left hd, _, rfl, _, _, rfl, rfl, ⟨hm0, hm1⟩, _, rfl, d, _, rfl, set_left hd, _, rfl, ?_⟩
      exact k _ n _ (Int.emod_nonneg _ (by omega)) (Int.emod_lt_of_pos _ hm0) (Nat.le_succ _) (FD.but But.upd upd_same) But.upd
    · refine ⟨_, rfl, d, .int n, rfl, get_at hd, ?_⟩
      refine ⟨_, rfl, _, _, rfl, rfl, _, rfl, d, _, rfl, set_at hd, ?_⟩
      have hd1 : upd H d (.dK (feedKV l (n + 1) z sb)) d = some (.dK (feedKV l (n + 1) z sb)) := upd_same
      have F1 : Feed (upd H d (.dK (feedKV l (n + 1) z sb))) d l ns (n + 1) := FD.but But.upd upd_same
      have B1 : But d H (upd H d (.dK (feedKV l (n + 1) z sb))) := But.upd
      generalize upd H d (.dK (feedKV l (n + 1) z sb)) = H1 at hd1 F1 B1 ⊢
      have hls1 := F1.ls
      refine ⟨_, rfl, _, rfl, _, _, rfl, rfl, .inl ⟨by omega, by omega⟩, _, _, rfl, rfl, ?_⟩
      refine ⟨fun σ' H' => ∃ c o, σ' = [some (.ref d), some (.int m), o, some (.int n), some (.int c), none] ∧ Feed H' d l ns (n + 1) ∧ But d H H', ?_, ?_⟩
      · refine ⟨_, rfl, d, .ref l, rfl, get_cells hd1, Nat.zero_le _, fun e he => ⟨l, e, ns.map V.int, [], rfl, rfl, SqL.of (same_upd he _ _ hls1), SqL.of upd_same, flat_ints ns, rfl, _, rfl, ?_⟩⟩
        have F2 := F1.same (same_upd (o := .lst []) he)
        have B2 : But d H (upd H1 e (.lst [])) := B1.trans (But.of (same_upd he))
        obtain ⟨⟨z2, sb2, hd2⟩, hls2, _⟩ := id F2
        refine ite2 (fun hne => ?_) (fun hne => ?_)
        · have hpos : 0 < (ns.map V.int).length := by
            cases ns with
            | nil => exact absurd hne (by decide)
            | cons _ _ => exact Nat.succ_pos _
          obtain ⟨v, hv, hat⟩ := at_mod hpos (n : Int)
          obtain ⟨c, _, rfl⟩ := List.mem_map.mp hv
          refine ⟨_, rfl, d, .ref l, rfl, get_cells hd2, _, rfl, _, rfl, d, .ref l, rfl, get_cells hd2, l, ns.map V.int, rfl, .inl (SqL.of hls2), _, _, rfl, rfl, (by show (0 : Int) < ((ns.map V.int).length : Int); omega), l, ns.map V.int, _, .int c, rfl, rfl, SqL.of hls2, hat, ?_⟩
          exact ⟨c, none, rfl, F2, B2⟩
        · exact ⟨_, none, rfl, F2, B2⟩
      · rintro σ' H2 ⟨c, o, rfl, F2, B2⟩
        obtain ⟨⟨z2, sb2, hd2⟩, hls2, _⟩ := id F2
        refine ⟨_, rfl, _, _, rfl, rfl, ⟨by decide, by decide, by decide⟩, _, _, rfl, rfl, _, rfl, ?_⟩
        refine ite2 (fun hge => ?_) (fun hge => ?_)
        · refine ⟨_, rfl, _, rfl, _, _, rfl, rfl, ⟨hm0, hm1⟩, _, rfl, d, _, rfl, set_left hd2, _, rfl, _, rfl, _, _, rfl, rfl, hm0, ?_⟩
          exact k _ (n + 1) _ (Int.emod_nonneg _ (by omega)) (Int.emod_lt_of_pos _ hm0) (Nat.le_refl _) (F2.but But.upd upd_same) (B2.trans But.upd)
        · refine ⟨_, rfl, _, _, rfl, rfl, (by show (0 : Int) < 2147483647; decide), _, rfl, _, _, rfl, rfl, .inl ⟨by decide, by decide⟩, _, _, rfl, rfl, _, _, rfl, rfl, _, _, rfl, rfl, .inr ⟨by decide, by decide⟩, _, _, rfl, rfl, (by show (0 : Int) < 2147483629; decide), ?_⟩
          refine ⟨_, rfl, _, rfl, _, _, rfl, rfl, .inl ⟨lo29 _, hi29 _⟩, _, rfl, _, _, rfl, rfl, .inl ⟨by decide, by decide⟩, _, _, rfl, rfl, _, _, rfl, rfl, _, _, rfl, rfl, (by show (0 : Int) < 2147483647; decide), ?_⟩
          refine ⟨_, rfl, _, _, rfl, rfl, .inr ⟨by decide, by decide⟩, _, rfl, _, _, rfl, rfl, _, _, rfl, rfl, (by show (0 : Int) < 2147483629; decide), ?_⟩
          refine ⟨_, rfl, _, rfl, _, _, rfl, rfl, .inl ⟨lo29 _, hi29 _⟩, _, _, rfl, rfl, (by show (0 : Int) < 2147483587; decide), _, _, rfl, rfl, ⟨by decide, by decide⟩, _, rfl, _, _, rfl, rfl, hm0, ?_⟩
          exact k _ (n + 1) _ (Int.emod_nonneg _ (by omega)) (Int.emod_lt_of_pos _ hm0) (Nat.le_refl _) F2 B2
/-! a word spelled -/
/-- its length, and its first sign -/
def Low (t : Str) : Prop := ∀ c ∈ t.cps.toList, 97 ≤ c ∧ c ≤ 122
theorem low_nil : Low "" := by
  have e : ("" : Str).cps.toList = [] := by decide +kernel
  intro c hc
  rw [e] at hc
  cases hc
theorem low_app {x y : Str} (a : Low x) (b : Low y) : Low (x ++ y) := by
  intro c hc
  have e : (x ++ y).cps.toList = x.cps.toList ++ y.cps.toList := by
    show (x.cps ++ y.cps).toList = _
    rw [Array.toList_append]
  rw [e] at hc
  rcases List.mem_append.mp hc with z | z
  · exact a c z
  · exact b c z
theorem low_one {c : Nat} (h : 97 ≤ c ∧ c ≤ 122) : Low ⟨#[c]⟩ := by
  intro d hd
  have : d = c := by simpa using hd
  subst this
  exact h
def Spelled (t : Str) (x m : Int) : Prop := ((t.length : Int) = m ∧ Low t) ∧ (0 < m → t.cps.toList[0]? = some (97 + (x % 26).toNat))
def spSpelled : Sp := fun vs H Q _ => ∃ (x m : Int), vs = [.int x, .int m] ∧ 0 ≤ m ∧ m ≤ 10 ∧ ∀ t : Str, Spelled t x m → Q (.str t) H
abbrev abc : Str := "abcdefghijklmnopqrstuvwxyz"
theorem abc_at : ∀ k : Fin 26, abc.cps.toList[k.val]? = some (97 + k.val) := by decide +kernel
theorem abc_is (y : Int) : atI abc.cps.toList (y % 26) = some (97 + (y % 26).toNat) := by
  have h0 : 0 ≤ y % 26 := by omega
  have h1 : y % 26 < 26 := by omega
  have e : y % 26 = ((y % 26).toNat : Int) := by omega
  have h := atI_nat (abc_at ⟨(y % 26).toNat, by omega⟩)
  rw [← e] at h
  exact h
theorem scSpelled : FnScope ["_law_number", "_law_long", "_law_word", "_law_k"] ["_law_number", "_law_long"] (defScope sSpelled) := ⟨rfl, rfl, rfl, by decide +kernel, rfl, by decide +kernel, by decide +kernel⟩
theorem ok_spelled {f : Addr} {fd : FuncData} (F : Fun K "_law_spelled" "_law_spelled" sSpelled f fd) (T : Txt0 mg) : FnOk P w K mg base CX0 1 f fd ["_law_number", "_law_long"] spSpelled := by
  refine F.ok scSpelled (fun vs H Q E h => ?_) (fun cdv A outer s H vs Q E hr h => ?_)
  · obtain ⟨x, m, rfl, _⟩ := h
    rfl
  · obtain ⟨x, m, rfl, h0, h1, k⟩ := h
    refine ⟨_, pss_cons (ps_set (i := 2) scSpelled.nd rfl (Or.inl rfl) pe_str) <|
      pss_cons (ps_for PassesOwn.never rfl (pi_range1 rfl T.range (pa_cons (pv 1) pa_nil)) (pg_name (i := 3) scSpelled.nd rfl (Or.inl rfl))
        (pss_cons (ps_set (i := 2) scSpelled.nd rfl (Or.inl rfl) (pe_op op_add_str (pv 2) (pe_ix ix_str pe_str (pe_op op_mod (pv 0) pe_int) (fun _ _ => rfl)))) <|
         pss_one (ps_set (i := 0) scSpelled.nd rfl (Or.inl rfl) (pe_op op_fdivL (pv 0) pe_int)))) <|
      pss_one (ps_ret (pv 2)), ?_⟩
    refine ⟨_, rfl, m, rfl, by omega, by omega, for_range (n := m.toNat) (fun i σ H' => ∃ y t o, σ = [some (.int y), some (.int m), some (.str t), o] ∧ t.length = i ∧ Low t ∧ (i = 0 → y = x) ∧ (0 < i → t.cps.toList[0]? = some (97 + (x % 26).toNat)) ∧ H' = H) ⟨x, _, none, rfl, rfl, low_nil, fun _ => rfl, fun z => absurd z (Nat.lt_irrefl _), rfl⟩ ?_ ?_⟩
    · rintro i σ H' hi ⟨y, t, o, rfl, ht, hlow, hy, hf, rfl⟩
      have hat := abc_is y
      refine ⟨_, rfl, _, rfl, _, _, rfl, rfl, (by show (0 : Int) < 26; decide), abc, _, _, rfl, rfl, (by decide +kernel), hat, _, _, rfl, rfl, ?_, _, rfl, _, _, rfl, rfl, ⟨by decide, by decide⟩, ?_⟩
      · show t.length + 1 ≤ sizeLine
        have : sizeLine = 16777216 := sizeLine_eq
        omega
      · refine ⟨_, _, _, rfl, by rw [PySem.Str.length_append, ht]; rfl, low_app hlow (low_one (by omega)), fun z => absurd z (Nat.succ_ne_zero _), fun _ => ?_, rfl⟩
        show (t.cps ++ #[97 + (y % 26).toNat]).toList[0]? = _
        by_cases hz : i = 0
        · have h2 : t.cps.toList = [] := by
            apply List.eq_nil_of_length_eq_zero
            rw [Array.length_toList]
            show t.length = 0
            omega
          rw [Array.toList_append, h2, hy hz]
          rfl
        · have h2 := hf (by omega)
          rw [Array.toList_append, List.getElem?_append_left (by rw [Array.length_toList]; show 0 < t.length; omega)]
          exact h2
    · rintro σ H' ⟨y, t, o, rfl, ht, hlow, _, hf, rfl⟩
      exact ⟨_, rfl, k t ⟨⟨by omega, hlow⟩, fun z => hf (by omega)⟩⟩
end
end K04

set_option Elab.async false
set_option linter.all false
set_option maxRecDepth 100000
set_option maxHeartbeats 4000000
namespace K04
open PySem L2
def spLawParts : Sp := fun vs H Q _ => ∃ (v : V) (w0 : Str) (ts : List Th), vs = [v] ∧ IsTh H v (.tup (.at (.str w0) :: ts)) ∧ ts.length ≤ 1000000 ∧
  ∀ (p : Addr) (ws : List V) H', Same H H' → H p = none → H' p = some (.lst ws) → IsThs H' ws (kidsL ts) → Q (.ref p) H'
def pw (q : List Nat × Th) : Th := .tup [pathT q.1, q.2]
abbrev pws (l : List (List Nat × Th)) : List Th := l.map pw
def spAllPaths (N : Nat) : Sp := fun vs H Q _ => ∃ (v : V) (t : Th), vs = [v] ∧ IsTh H v t ∧ OkT N t ∧ N ≤ 1000 ∧ Th.sz t ≤ 100000 ∧
  ∀ (p : Addr) (ws : List V) H', Same H H' → H' p = some (.lst ws) → IsThs H' ws (pws (allp t)) → Q (.ref p) H'
section
variable {P : Program} {w : World} {K : PySem.W.Frag} {mg : Str → Option Value} {base : Heap}
theorem scLawParts : FnScope ["_law_e"] ["_law_e"] (defScope sLawParts) := ⟨rfl, rfl, rfl, by decide +kernel, rfl, by decide +kernel, by decide +kernel⟩
theorem ok_lawparts {f : Addr} {fd : FuncData} (F : Fun K "_law_parts" "_law_parts" sLawParts f fd) (T : TxtT mg) (KI : Kits K) : FnOk P w K mg base CX0 1 f fd ["_law_e"] spLawParts := by
  refine F.ok scLawParts (fun vs H Q E h => ?_) (fun cdv A outer s H vs Q E hr h => ?_)
  · obtain ⟨v, w0, ts, rfl, _⟩ := h
    rfl
  · obtain ⟨v, w0, ts, rfl, hv, hz, k⟩ := h
    refine ⟨_, pss_one (ps_ret (pe_comp (N' := ["_law_one_here"]) (src := [none]) rfl (compScope_of (defScope sLawParts) rfl ["_law_e"] rfl (by decide +kernel)) (pi_tup (pe_slice sl_tupP (pv 0) (po_some pe_int) po_none))
      (fun cl C ex s0 H0 => ⟨pg_name (i := 0) (nd1 _) rfl (Or.inl rfl), pts_one (pt_val (pe_callB (id := "isinstance") (call_isinstK (K := K) rfl) (by rfl) T.isi (by decide +kernel) (pa_n (pv 0) (pa_n (pe_bltn (v := .ty "tuple") (by rfl) T.tup (by decide +kernel) rfl) pa_nil)))), pv 0⟩))), ?_⟩
    obtain ⟨a, vs, rfl, a1, a2⟩ := th_tup hv
    cases a2 with
    | @cons x xs _ _ c1 c2 =>
      refine ⟨_, rfl, _, rfl, a, x :: xs, rfl, a1, fun p H1 s1 hp => ?_⟩
      rw [cut1q] at hp
      have hl := IsThs.len _ c2
      refine ⟨p, rfl, ⟨_, SqT.of hp⟩, comp_tup (K := K) (a := p) (xs := xs) (fun i ys σc H' => ∃ o, σc = [o] ∧ IsThs H ys ((ts.take i).filter isTup) ∧ ys.length ≤ i ∧ H' = H1) ⟨none, rfl, by rw [List.take_zero]; exact .nil, Nat.le_refl _, rfl⟩ (fun i ys σc H' ⟨_, _, _, _, e⟩ => by rw [e]; exact SqT.of hp) ?_ ?_⟩
      · rintro i x ys σc H' hx hi ⟨o, rfl, hys, hyl, rfl⟩
        obtain ⟨t, ht, h1⟩ := ths_get _ c2 hx
        have hnext : (ts.take (i + 1)).filter isTup = (ts.take i).filter isTup ++ (if isTup t = true then [t] else []) := take_nextR _ ht
        refine ⟨by have : sizeLine = 16777216 := sizeLine_eq; omega, ?_⟩
        refine ⟨_, rfl, _, _, _, _, rfl, th_ty (IsTh.kp (Kp.of s1) h1), KI.tup h1, _, rfl, ite2 (fun g => ?_) (fun g => ?_)⟩
        · refine ⟨_, rfl, nx hi ⟨_, rfl, ?_, by rw [List.length_append]; show ys.length + 1 ≤ i + 1; omega, rfl⟩⟩
          rw [hnext, if_pos g]
          exact IsThs.app _ hys (.cons h1 .nil)
        · refine nx hi ⟨_, rfl, ?_, by omega, rfl⟩
          rw [hnext, if_neg g, List.append_nil]
          exact hys
      · rintro ys σc H' ⟨o, rfl, hys, hyl, rfl⟩ q hq
        rw [List.take_of_length_le (by omega)] at hys
        have sA := s1.trans (same_upd (o := .lst ys) hq)
        exact k q ys _ sA (same_none s1 hq) upd_same (IsThs.kp (Kp.of sA) hys)
end
end K04

set_option Elab.async false
set_option linter.all false
set_option maxRecDepth 100000
set_option maxHeartbeats 4000000
namespace K04
open PySem L2
theorem nd_kpo : (["_law_k", "_law_path", "_law_other"] : List Str).Nodup := by decide +kernel
theorem cnt_kid : ∀ (ks : List Th) (k : Th), k ∈ ks → cnt k ≤ cnts ks := by
  intro ks
  induction ks with
  | nil => intro k h; cases h
  | cons q ks ih =>
    intro k h
    rw [cnts]
    rcases List.mem_cons.mp h with z | z
    · subst z; omega
    · have := ih k z; omega
theorem allK_len : ∀ (ks : List Th) (i : Nat), (allK i ks).length = cnts ks := by
  intro ks
  induction ks with
  | nil => intro i; simp [allK, cnts]
  | cons k ks ih => intro i; rw [allK, List.length_append, List.length_map, cnt_len, ih, cnts]
theorem cnts_take : ∀ (ks : List Th) (i : Nat), cnts (ks.take i) ≤ cnts ks := by
  intro ks
  induction ks with
  | nil => intro i; simp
  | cons k ks ih =>
    intro i
    cases i with
    | zero => simp [cnts]
    | succ i => rw [List.take_succ_cons, cnts, cnts]; have := ih i; omega
section
variable {P : Program} {w : World} {K : PySem.W.Frag} {mg : Str → Option Value} {base : Heap}
theorem scAllPaths : FnScope ["_law_e", "_law_found", "_law_k", "_law_one_here"] ["_law_e"] (defScope sAllPaths) := ⟨rfl, rfl, rfl, by decide +kernel, rfl, by decide +kernel, by decide +kernel⟩
theorem ok_allpaths {f fP : Addr} {fd dP : FuncData} (F : Fun K "_law_all_paths" "_law_all_paths" sAllPaths f fd) (b : Binds K fd ["_law_e"] []) (m : mg "_law_all_paths" = some (.ref f)) (T : TxtT mg) (KI : Kits K) (henum : mg "enumerate" = none)
    (FP : Fun K "_law_parts" "_law_parts" sLawParts fP dP) (bP : Binds K dP ["_law_e"] []) (mP : mg "_law_parts" = some (.ref fP)) : ∀ N, FnOk P w K mg base CX0 (N + 2) f fd ["_law_e"] (spAllPaths N) := by
  have GP : FnOk P w K mg base CX0 1 fP dP ["_law_e"] spLawParts := ok_lawparts FP T KI
  intro N
  induction N with
  | zero =>
    refine F.ok scAllPaths (fun vs H Q E h => ?_) (fun cdv A outer s H vs Q E hr h => ?_)
    · obtain ⟨v, t, rfl, _⟩ := h
      rfl
    · obtain ⟨v, t, rfl, _, h, _⟩ := h
      exact h.elim
  | succ N ih =>
    refine F.ok scAllPaths (fun vs H Q E h => ?_) (fun cdv A outer s H vs Q E hr h => ?_)
    · obtain ⟨v, t, rfl, _⟩ := h
      rfl
    · obtain ⟨v, t, rfl, hv, hok, hN, hz, k⟩ := h
      have hsz : sizeLine = 16777216 := sizeLine_eq
      have hr1 : Room 1 _ := hr.mono (by omega)
      refine' ⟨?tt, ?body, ?fin⟩
      case body =>
        refine' pss_cons ?s1 (pss_cons ?s2 (pss_one ?s3))
        case s1 => exact ps_set (i := 1) scAllPaths.nd rfl (Or.inl rfl) (pe_lst (pa_t (pe_tup (pa_t (pe_tup pa_nil) (pa_n (pv 0) pa_nil))) pa_nil))
        case s2 =>
          refine' ps_for PassesOwn.never rfl (pi_enum (by rfl) henum (pa_c (pe_call GP hr1 (by rfl) mP FP.kp bP .nil pass0 (pa_n (pv 0) pa_nil)) pa_nil)) ?g (pss_one ?b1)
          case g => exact pg_tup rfl (pgs_cons (pg_name (i := 2) scAllPaths.nd rfl (Or.inr rfl)) (pgs_cons (pg_name (i := 3) scAllPaths.nd rfl (Or.inl rfl)) pgs_nil))
          case b1 =>
            refine' ps_set (i := 1) scAllPaths.nd rfl (Or.inl rfl) (pe_op op_cat (pv 1) ?c)
            case c =>
              refine' pe_comp (N' := ["_law_k", "_law_path", "_law_other"]) (src := [some 2, none, none]) ?k1 ?k5 ?k6 ?k7
              case k1 => rfl
              case k5 => exact compScope_of (defScope sAllPaths) rfl ["_law_e", "_law_found", "_law_k", "_law_one_here"] rfl (by decide +kernel)
              case k6 => exact pi_list (pe_call ih hr (by rfl) m F.kp b .nil pass0 (pa_n (pv 3) pa_nil))
              case k7 =>
                intro cl C ex s0 H0
                refine' ⟨?g1, ?g2, ?g3⟩
                case g1 => exact pg_pairK (K := K) (i := 1) (j := 2) rfl rfl nd_kpo rfl (Or.inl rfl) rfl (Or.inl rfl) (Or.inr rfl) (Or.inr rfl)
                case g2 => exact pts_nil
                case g3 => exact pe_tup (pa_cons (pe_op op_catP (pe_tup (pa_n (pv 0) pa_nil)) (pv 1)) (pa_n (pv 2) pa_nil))
        case s3 => exact ps_ret (pv 1)
      case fin =>
        obtain ⟨w0, ts, rfl, hlet, hkid⟩ := hok
        have hxs : Th.sz (.tup (.at (.str w0) :: ts)) = 1 + (1 + szs ts) := by simp only [Th.sz, szs]
        have hxl := szs_len ts
        have hkl : (kidsL ts).length ≤ 100000 := by
          have h1 := List.length_filter_le isTup ts
          show (ts.filter isTup).length ≤ _
          omega
        have hcn : cnts (kidsL ts) ≤ 100000 := by
          have h1 := cnts_kids ts
          have h2 := cnts_sz ts
          omega
        have eall : allp (.tup (.at (.str w0) :: ts)) = ([], .tup (.at (.str w0) :: ts)) :: allK 0 (kidsL ts) := by rw [allp, allps_kids, kids_cons]
        refine ⟨Nat.zero_le _, fun e0 he0 => ⟨_, rfl, (by show 2 ≤ sizeLine; decide), fun p0 hp0 => ⟨(by show 1 ≤ sizeLine; decide), fun f0 hf0 => ?_⟩⟩⟩
        have sa := same_upd (o := .tup []) he0
        have sb := same_upd (o := .tup [.ref e0, v]) hp0
        have sc := same_upd (o := .lst [.ref p0]) hf0
        have sI := (sa.trans sb).trans sc
        have hv1 := IsTh.kp (Kp.of sI) hv
        have E1 := sc _ _ (sb _ _ (upd_same (H := H) (a := e0) (o := .tup [])))
        have P1 := sc _ _ (upd_same (H := upd H e0 (.tup [])) (a := p0) (o := .tup [.ref e0, v]))
        have F1 : upd (upd (upd H e0 (.tup [])) p0 (.tup [.ref e0, v])) f0 (.lst [.ref p0]) f0 = some (.lst [.ref p0]) := upd_same
        generalize upd (upd (upd H e0 (.tup [])) p0 (.tup [.ref e0, v])) f0 (.lst [.ref p0]) = H1 at sI hv1 E1 P1 F1 ⊢
        refine ⟨_, rfl, v, w0, ts, rfl, hv1, by omega, fun p ws H2 s2 hp2n hp2 hws => ?_⟩
        have hl := IsThs.len _ hws
        refine ⟨p, rfl, .inl ⟨⟨_, SqL.of hp2⟩, for_enumL (K := K) (a := p) (xs := ws) (fun i σ H' => ∃ (fl : Addr) (fs : List V) (o2 o3 : Option V), σ = [some v, some (.ref fl), o2, o3] ∧ Same H2 H' ∧ H' fl = some (.lst fs) ∧ i ≤ ws.length ∧ IsThs H' fs (pws (([], .tup (.at (.str w0) :: ts)) :: allK 0 ((kidsL ts).take i))))
          ⟨f0, [.ref p0], none, none, rfl, Same.refl _, s2 _ _ F1, Nat.zero_le _, ?_⟩ (fun i σ H' _ ⟨_, _, _, _, _, e, _⟩ => SqL.of (e _ _ hp2)) ?_ ?_⟩⟩
        · rw [List.take_zero]
          exact .cons (.tup (s2 _ _ P1) (.cons (.tup (s2 _ _ E1) .nil) (.cons (IsTh.kp (Kp.of s2) hv1) .nil))) .nil
        · rintro i x σ H3 Tt hx ⟨fl, fs, o2, o3, rfl, s3, L3, hi, hfs⟩ hT
          obtain ⟨kd, hk, h1⟩ := ths_get _ hws hx
          have hkm := List.mem_of_getElem? hk
          have hkm' : kd ∈ ts ∧ isTup kd = true := List.mem_filter.mp hkm
          have hks := sz_mem ts kd hkm'.1
          have hck := cnt_kid _ kd hkm
          have sT := same_upd (o := .tup [.int (i : Nat), x]) hT
          have hil : i < (kidsL ts).length := (List.getElem?_eq_some_iff.mp hk).1
          refine ⟨Tt, [.int (i : Nat), x], rfl, SqT.of upd_same, rfl, _, _, rfl, _, _, rfl, rfl, ?_⟩
          refine ⟨_, rfl, _, rfl, x, kd, rfl, IsTh.kp (Kp.of (s3.trans sT)) h1, hkid kd hkm'.1 hkm'.2, by omega, by omega, fun p4 ws4 H4 s4 hp4 hws4 => ?_⟩
          have hl4 := IsThs.len _ hws4
          rw [List.length_map, cnt_len] at hl4
          refine ⟨p4, rfl, ⟨_, SqL.of hp4⟩, comp_list (K := K) (a := p4) (xs := ws4) (fun j ys σc H' => ∃ o o', σc = [some (.int (i : Nat)), o, o'] ∧ Same H4 H' ∧ ys.length = j ∧ IsThs H' ys (pws (((allp kd).take j).map fun q => (i :: q.1, q.2))))
            ⟨none, none, rfl, Same.refl _, rfl, by rw [List.take_zero]; exact .nil⟩ (fun j ys σc H' ⟨_, _, _, e, _⟩ => SqL.of (e _ _ hp4)) ?_ ?_⟩
          · rintro j y ys σc H' hy hj ⟨o, o', rfl, s5, hyl, hys⟩
            obtain ⟨u, hu, h5⟩ := ths_get _ hws4 hy
            rw [List.getElem?_map] at hu
            obtain ⟨q, hq, rfl⟩ : ∃ q, (allp kd)[j]? = some q ∧ pw q = u := by
              cases e : (allp kd)[j]? with
              | none => rw [e] at hu; cases hu
              | some q => rw [e] at hu; exact ⟨q, rfl, by simpa using hu⟩
            have hqo := all_ok N kd (hkid kd hkm'.1 hkm'.2) q (List.mem_of_getElem? hq)
            obtain ⟨ay, vy, rfl, hay, hvy⟩ := th_tup (IsTh.kp (Kp.of s5) h5)
            cases hvy with
            | @cons v1 _ _ _ c1 c2 =>
              cases c2 with
              | @cons v2 _ _ _ c3 c4 =>
                cases c4
                obtain ⟨ap, pvs, rfl, hap, hpv⟩ := th_tup c1
                have hpvl := IsThs.len _ hpv
                rw [List.length_map] at hpvl
                refine ⟨by omega, ay, _, rfl, SqT.of hay, rfl, _, _, rfl, _, _, rfl, rfl, ?_⟩
                refine ⟨_, rfl, (by show 1 ≤ sizeLine; decide), fun q1 hq1 => ?_⟩
                have sq1 := same_upd (o := .tup [.int (i : Nat)]) hq1
                refine ⟨_, rfl, q1, ap, [.int (i : Nat)], pvs, rfl, rfl, upd_same, sq1 _ _ hap, by simp only [List.length_singleton]; omega, fun p2 H9 s9 hp2' => ?_⟩
                refine ⟨_, rfl, (by show 2 ≤ sizeLine; decide), fun q3 hq3 => ?_⟩
                have sq3 := same_upd (o := .tup [.ref p2, v2]) hq3
                have sA := (sq1.trans s9).trans sq3
                refine nx hj ⟨_, _, rfl, s5.trans sA, by rw [List.length_append, hyl]; rfl, ?_⟩
                have e1 : ((allp kd).take (j + 1)) = (allp kd).take j ++ [q] := by rw [List.take_add_one, hq]; rfl
                unfold pws
                rw [e1, List.map_append, List.map_append]
                refine IsThs.app _ (IsThs.kp (Kp.of sA) hys) (.cons (.tup upd_same (.cons (.tup (sq3 _ _ hp2') ?_) (.cons (IsTh.kp (Kp.of sA) c3) .nil))) .nil)
                exact .cons (.at rfl) (IsThs.kp (Kp.of sA) hpv)
          · rintro ys σc H' ⟨o, o', rfl, s5, hyl, hys⟩ l hl'
            rw [List.take_of_length_le (by rw [cnt_len]; omega)] at hys
            have sl := same_upd (o := .lst ys) hl'
            have sA := ((sT.trans s4).trans s5).trans sl
            have hfl := IsThs.len _ hfs
            rw [List.length_map, List.length_cons, allK_len] at hfl
            have hct := cnts_take (kidsL ts) i
            refine ⟨fl, l, fs, ys, rfl, rfl, sA _ _ L3, upd_same, by omega, fun r hr' => ?_⟩
            have sr := same_upd (o := .lst (fs ++ ys)) hr'
            refine ⟨r, fs ++ ys, _, _, rfl, (s3.trans sA).trans sr, upd_same, by omega, ?_⟩
            have e1 : ((kidsL ts).take (i + 1)) = (kidsL ts).take i ++ [kd] := by rw [List.take_add_one, hk]; rfl
            have e2 : ((kidsL ts).take i).length = i := by rw [List.length_take]; omega
            rw [e1, allK_app, e2, Nat.zero_add]
            have e3 : allK i [kd] = (allp kd).map fun q => (i :: q.1, q.2) := by rw [allK, allK, List.append_nil]
            rw [e3, ← List.cons_append]
            unfold pws
            rw [List.map_append]
            exact IsThs.app _ (IsThs.kp (Kp.of (sA.trans sr)) hfs) (IsThs.kp (Kp.of (sl.trans sr)) hys)
        · rintro σ H3 ⟨fl, fs, o2, o3, rfl, s3, L3, _, hfs⟩
          rw [List.take_of_length_le (by omega), ← eall] at hfs
          exact ⟨_, rfl, k fl fs H3 ((sI.trans s2).trans s3) L3 hfs⟩
end
end K04

set_option Elab.async false
set_option linter.all false
set_option maxRecDepth 100000
set_option maxHeartbeats 4000000
namespace K04
open PySem L2
/-! what can be shown: texts that are short, numbers that are small, no lists -/
def lfV : V → Bool
  | .str x => decide (x.length ≤ 16) && x.cps.toList.all fun c => decide (c < 16 ^ 8)
  | .int i => decide (i.natAbs < 10 ^ 12)
  | _ => true
mutual
def lf : Th → Bool
  | .at v => lfV v
  | .tup xs => lfs xs
  | .lst _ => false
def lfs : List Th → Bool
  | [] => true
  | x :: xs => lf x && lfs xs
end
theorem lfs_all : ∀ ts : List Th, lfs ts = true ↔ ∀ t ∈ ts, lf t = true := by
  intro ts
  induction ts with
  | nil => simp [lfs]
  | cons t ts ih => rw [lfs, Bool.and_eq_true, ih]; simp
theorem log_small {i : Int} (h : i.natAbs < 10 ^ 12) : i.natAbs.log2 < 1920 := by
  by_cases h0 : i.natAbs = 0
  · rw [h0]; decide
  · have h1 : i.natAbs < 2 ^ 40 := Nat.lt_of_lt_of_le h (by decide)
    have := (Nat.log2_lt h0).mpr h1
    omega
mutual
theorem lf_ok : ∀ t : Th, lf t = true → (dat t).showable = true ∧ (dat t).leavesShort 13 = true ∧ (dat t).bulk + 1 ≤ 17 * Th.sz t ∧ (dat t).depth = dp t
  | .at v, h => by
    rw [lf] at h
    cases v with
    | str x =>
      have h' : (decide (x.length ≤ 16) && x.cps.toList.all fun c => decide (c < 16 ^ 8)) = true := h
      rw [Bool.and_eq_true, decide_eq_true_iff] at h'
      have hx : x.cps.size = x.length := rfl
      refine ⟨by simp [dat, datV, PyData.showable], ?_, ?_, by simp [dat, datV, PyData.depth, dp]⟩
      · simp only [dat, datV, PyData.leavesShort]
        exact h'.2
      · simp only [dat, datV, PyData.bulk, Th.sz]
        omega
    | int i =>
      have h' : i.natAbs < 10 ^ 12 := of_decide_eq_true h
      refine ⟨?_, ?_, by simp [dat, datV, PyData.bulk, Th.sz], by simp [dat, datV, PyData.depth, dp]⟩
      · simp only [dat, datV, PyData.showable]
        exact decide_eq_true (log_small h')
      · simp only [dat, datV, PyData.leavesShort]
        exact decide_eq_true (PyData.shown_int_le h')
    | _ => exact ⟨by simp [dat, datV, PyData.showable], by simp [dat, datV, PyData.leavesShort], by simp [dat, datV, PyData.bulk, Th.sz], by simp [dat, datV, PyData.depth, dp]⟩
  | .tup xs, h => by
    rw [lf] at h
    obtain ⟨h1, h2, h3, h4⟩ := lfs_ok xs h
    refine ⟨by simpa only [dat, PyData.showable] using h1, by simpa only [dat, PyData.leavesShort] using h2, ?_, ?_⟩
    · simp only [dat, PyData.bulk, Th.sz]
      omega
    · simp only [dat, PyData.depth, dp]
      omega
  | .lst xs, h => by rw [lf] at h; cases h
theorem lfs_ok : ∀ ts : List Th, lfs ts = true → PyData.showableAll (dats ts) = true ∧ PyData.leavesShortAll 13 (dats ts) = true ∧ PyData.bulkAll (dats ts) ≤ 17 * szs ts ∧ PyData.depthAll (dats ts) = dps ts
  | [], _ => by simp [dats, PyData.showableAll, PyData.leavesShortAll, PyData.bulkAll, szs, PyData.depthAll, dps]
  | t :: ts, h => by
    rw [lfs, Bool.and_eq_true] at h
    obtain ⟨a1, a2, a3, a4⟩ := lf_ok t h.1
    obtain ⟨b1, b2, b3, b4⟩ := lfs_ok ts h.2
    refine ⟨by simp only [dats, PyData.showableAll, a1, b1, Bool.and_self], by simp only [dats, PyData.leavesShortAll, a2, b2, Bool.and_self], ?_, ?_⟩
    · simp only [dats, PyData.bulkAll, szs]
      omega
    · simp only [dats, PyData.depthAll, dps, a4, b4]
end
theorem rep_ok {A : Around} {t : Th} (h : lf t = true) (hz : Th.sz t ≤ 60000) (hd : dp t ≤ 100) (hu : A.units + 200 < cLine) : (dat t).showable = true ∧ A.units + ((dat t).depth + 1) < cLine ∧ (dat t).shown.length ≤ sizeLine := by
  obtain ⟨h1, h2, h3, h4⟩ := lf_ok t h
  refine ⟨h1, by omega, ?_⟩
  have h5 := PyData.shown_le_bulk 13 (by decide) (dat t) h2
  have : sizeLine = 16777216 := sizeLine_eq
  omega
theorem call_reprA {X : Cx} {A : Around} (hA : X.A = A) (hg : A.guards = some []) : CallR X (.builtin "repr") (fun xs H Q => ∃ (a : Addr) (t : Th), xs = [.ref a] ∧ IsTh H (.ref a) t ∧ ((dat t).showable = true ∧ A.units + ((dat t).depth + 1) < cLine ∧ (dat t).shown.length ≤ sizeLine) ∧ Q (.str (dat t).shown) H) := by
  subst hA
  intro pins s σ H xs us Q I r h
  obtain ⟨a, t, e, h1, ⟨h2, h3, h4⟩, q⟩ := h
  exact call_repr hg pins s σ H xs us Q I r ⟨a, t, e, h1, h2, h3, h4, q⟩
/-! sizes of what is shown -/
theorem ok_dp : ∀ (n : Nat) {t : Th}, OkT n t → dp t ≤ n := by
  intro n
  induction n with
  | zero => intro t h; exact h.elim
  | succ n ih =>
    intro t h
    obtain ⟨w, ts, rfl, _, hk⟩ := h
    rw [dp, dps_kids, kids_cons]
    have : ∀ ks : List Th, (∀ k ∈ ks, OkT n k) → dps ks ≤ n := by
      intro ks
      induction ks with
      | nil => intro _; simp [dps]
      | cons k ks ihk =>
        intro h
        rw [dps]
        have h1 := ih (h k (List.mem_cons_self ..))
        have h2 := ihk (fun q hq => h q (List.mem_cons_of_mem _ hq))
        omega
    have := this (kidsL ts) (fun k hk' => hk k (List.mem_filter.mp hk').1 (List.mem_filter.mp hk').2)
    omega
theorem lf_kids {ts : List Th} (h : lfs ts = true) : lfs (kidsL ts) = true := by
  rw [lfs_all] at h ⊢
  exact fun t ht => h t (List.mem_filter.mp ht).1
theorem lf_all : ∀ (n : Nat) (t : Th), OkT n t → lf t = true → ∀ q ∈ allp t, lf q.2 = true ∧ ∀ i ∈ q.1, i < Th.sz t := by
  intro n
  induction n with
  | zero => intro t h; exact h.elim
  | succ n ih =>
    intro t h hl q hq
    obtain ⟨w, ts, rfl, hlet, hk⟩ := h
    have hz : Th.sz (.tup (.at (.str w) :: ts)) = 1 + (1 + szs ts) := by simp only [Th.sz, szs]
    rw [allp, allps_kids, kids_cons] at hq
    rcases List.mem_cons.mp hq with z | z
    · subst z; exact ⟨hl, fun i hi => by cases hi⟩
    · obtain ⟨i, p, k, e1, e2, e3⟩ := allK_get _ 0 q z
      have hm := List.mem_of_getElem? e2
      have hm' : k ∈ ts ∧ isTup k = true := List.mem_filter.mp hm
      have hlk : lf k = true := by
        rw [lf, lfs, Bool.and_eq_true, lfs_all] at hl
        exact hl.2 k hm'.1
      have h1 := ih k (hk k hm'.1 hm'.2) hlk (p, q.2) e3
      have h2 := sz_mem ts k hm'.1
      have h3 : i < (kidsL ts).length := (List.getElem?_eq_some_iff.mp e2).1
      have h4 := List.length_filter_le isTup ts
      have h5 := szs_len ts
      refine ⟨h1.1, fun j hj => ?_⟩
      rw [e1] at hj
      rcases List.mem_cons.mp hj with y | y
      · subst y
        have h6 : (kidsL ts).length ≤ ts.length := h4
        omega
      · have := h1.2 j y
        omega
end K04

set_option Elab.async false
set_option linter.all false
set_option maxRecDepth 100000
set_option maxHeartbeats 4000000
namespace K04
open PySem L2
theorem But.lst {d a : Addr} {H H' : Hp} {kvs : List (Key × V)} {xs : List V} (b : But d H H') (hd : H d = some (.dK kvs)) (h : H a = some (.lst xs)) : H' a = some (.lst xs) := b a _ h (ne_of h hd (by intro q; cases q))
theorem But.kp {d l : Addr} {ns : List Int} {n : Nat} {H H' : Hp} (b : But d H H') (F : Feed H d l ns n) : Kp H H' := by
  obtain ⟨⟨z, sb, hd⟩, _, _⟩ := F
  intro a o h hk
  exact b a o h (fun q => by subst q; rw [hd] at h; cases h; exact hk _ rfl)
theorem Feed.lst {d l a : Addr} {ns : List Int} {n : Nat} {H H' : Hp} {xs : List V} (F : Feed H d l ns n) (b : But d H H') (h : H a = some (.lst xs)) : H' a = some (.lst xs) := by
  obtain ⟨⟨z, sb, hd⟩, _, _⟩ := F
  exact b.lst hd h
def wordsT : List Str := ["num", "name", "op", "pick", "let", "set", "say", "take", "do", "again", "call", "own", "hole"]
def spWords : Sp := fun vs H Q _ => vs = [] ∧ ∀ l, H l = none → Q (.ref l) (upd H l (.lst (wordsT.map V.str)))
def spOne : Sp := fun vs H Q _ => ∃ (d l a : Addr) (ns : List Int) (n : Nat) (xs : List V), vs = [.ref d, .ref a] ∧ Feed H d l ns n ∧ n ≤ 900000000000 ∧ H a = some (.lst xs) ∧ 0 < xs.length ∧ xs.length ≤ 1000000 ∧
  ∀ v n' H', v ∈ xs → n' ≤ n + 1 → Feed H' d l ns n' → But d H H' → Q v H'
def spValue : Sp := fun vs H Q _ => ∃ (d l : Addr) (ns : List Int) (n : Nat), vs = [.ref d] ∧ Feed H d l ns n ∧ n ≤ 900000000000 ∧
  ∀ (i : Int) n' H', 0 ≤ i → i ≤ 1000000000 → n' ≤ n + 3 → Feed H' d l ns n' → But d H H' → Q (.int i) H'
section
variable {P : Program} {w : World} {K : PySem.W.Frag} {mg : Str → Option Value} {base : Heap}
/-- the drawing helpers -/
structure Dr (K : PySem.W.Frag) (mg : Str → Option Value) (fD fS fO fW : Addr) (dD dS dO dW : FuncData) : Prop where
  T : Txt0 mg
  D : Fun K "_law_draw" "_law_draw" sDraw fD dD
  bD : Binds K dD ["_law_feed_here", "_law_many"] []
  mD : mg "_law_draw" = some (.ref fD)
  S : Fun K "_law_spelled" "_law_spelled" sSpelled fS dS
  bS : Binds K dS ["_law_number", "_law_long"] []
  mS : mg "_law_spelled" = some (.ref fS)
  O : Fun K "_law_one" "_law_one" sOne fO dO
  bO : Binds K dO ["_law_feed_here", "_law_some"] []
  mO : mg "_law_one" = some (.ref fO)
  W : Fun K "_law_words" "_law_words" sWords fW dW
  bW : Binds K dW [] []
  mW : mg "_law_words" = some (.ref fW)
theorem scWords : FnScope [] [] (defScope sWords) := ⟨rfl, rfl, rfl, by decide +kernel, rfl, by decide +kernel, by decide +kernel⟩
theorem ok_words {f : Addr} {fd : FuncData} (F : Fun K "_law_words" "_law_words" sWords f fd) : FnOk P w K mg base CX0 1 f fd [] spWords := by
  have hb : ∃ p1 p2 es, defBody sWords = [.Return (some (.List es p1)) p2] ∧ es.map constV = (wordsT.map V.str).map some := ⟨_, _, _, rfl, rfl⟩
  obtain ⟨p1, p2, es, hb, he⟩ := hb
  refine F.ok scWords (fun vs H Q E h => ?_) (fun cdv A outer s H vs Q E hr h => ?_)
  · obtain ⟨rfl, _⟩ := h
    rfl
  · obtain ⟨rfl, k⟩ := h
    rw [hb]
    refine ⟨_, pss_one (ps_ret (pe_lst (pa_consts (vs := wordsT.map V.str) he))), ?_⟩
    exact ⟨small_len (by decide +kernel), fun l hl => k l hl⟩
theorem scOne : FnScope ["_law_feed_here", "_law_some"] ["_law_feed_here", "_law_some"] (defScope sOne) := ⟨rfl, rfl, rfl, by decide +kernel, rfl, by decide +kernel, by decide +kernel⟩
theorem ok_one {f fD fS fO fW : Addr} {fd dD dS dO dW : FuncData} (F : Fun K "_law_one" "_law_one" sOne f fd) (U : Dr K mg fD fS fO fW dD dS dO dW) : FnOk P w K mg base CX0 2 f fd ["_law_feed_here", "_law_some"] spOne := by
  have GD : FnOk P w K mg base CX0 1 fD dD ["_law_feed_here", "_law_many"] spDraw := ok_draw U.D U.T
  refine F.ok scOne (fun vs H Q E h => ?_) (fun cdv A outer s H vs Q E hr h => ?_)
  · obtain ⟨d, l, a, ns, n, xs, rfl, _⟩ := h
    rfl
  · obtain ⟨d, l, a, ns, n, xs, rfl, F0, hn, hS, h0, h1, k⟩ := h
    refine ⟨_, pss_one (ps_ret (pe_ix ix_list (pv 1) (pe_call GD (hr.mono (by decide)) rfl U.mD U.D.kp U.bD .nil pass0 (pa_cons (pv 0) (pa_cons (pe_callB call_len_seq (by rfl) U.T.len PySem.boot_len (pa_cons (pv 1) pa_nil)) pa_nil))) (fun _ _ => rfl))), ?_⟩
    refine ⟨_, rfl, _, rfl, _, rfl, a, xs, rfl, .inl (SqL.of hS), d, l, ns, n, _, rfl, F0, by omega, (by show (0 : Int) < (xs.length : Int); omega), (by show (xs.length : Int) < 18446744073709551616; omega), fun r n' H' hr0 hr1 hle F' B' => ?_⟩
    obtain ⟨v, hv, hat⟩ := at_in (xs := xs) hr0 hr1
    exact ⟨a, xs, r, v, rfl, rfl, SqL.of (F0.lst B' hS), hat, k v n' H' hv hle F' B'⟩
theorem scLawValue : FnScope ["_law_feed_here", "_law_way"] ["_law_feed_here"] (defScope sLawValue) := ⟨rfl, rfl, rfl, by decide +kernel, rfl, by decide +kernel, by decide +kernel⟩
theorem ok_value {f fD fS fO fW : Addr} {fd dD dS dO dW : FuncData} (F : Fun K "_law_value" "_law_value" sLawValue f fd) (U : Dr K mg fD fS fO fW dD dS dO dW) : FnOk P w K mg base CX0 2 f fd ["_law_feed_here"] spValue := by
  have GD : FnOk P w K mg base CX0 1 fD dD ["_law_feed_here", "_law_many"] spDraw := ok_draw U.D U.T
  refine F.ok scLawValue (fun vs H Q E h => ?_) (fun cdv A outer s H vs Q E hr h => ?_)
  · obtain ⟨d, l, ns, n, rfl, _⟩ := h
    rfl
  · obtain ⟨d, l, ns, n, rfl, F0, hn, k⟩ := h
    have hr1 : Room 1 _ := hr.mono (by decide)
    refine' ⟨?tt, ?body, ?fin⟩
    case body =>
      refine' pss_cons ?s1 (pss_cons ?s2 (pss_cons ?s3 (pss_one ?s4)))
      case s1 => exact ps_set (i := 1) scLawValue.nd rfl (Or.inl rfl) (pe_call GD hr1 (by rfl) U.mD U.D.kp U.bD .nil pass0 (pa_n (pv 0) (pa_k pe_int pa_nil)))
      case s2 => exact ps_if (pt_cmpR op_eq (pv 1) pe_int (nomark _)) (pss_one (ps_ret (pe_op op_sub pe_int (pe_call GD hr1 (by rfl) U.mD U.D.kp U.bD .nil pass0 (pa_n (pv 0) (pa_k pe_int pa_nil)))))) pss_nil
      case s3 => exact ps_if (pt_cmpR op_eq (pv 1) pe_int (nomark _)) (pss_one (ps_ret (pe_op op_add (pe_op op_mul (pe_call GD hr1 (by rfl) U.mD U.D.kp U.bD .nil pass0 (pa_n (pv 0) (pa_k pe_int pa_nil))) pe_int) (pe_call GD hr1 (by rfl) U.mD U.D.kp U.bD .nil pass0 (pa_n (pv 0) (pa_k pe_int pa_nil)))))) pss_nil
      case s4 => exact ps_ret (pe_call GD hr1 (by rfl) U.mD U.D.kp U.bD .nil pass0 (pa_n (pv 0) (pa_cons (pe_op op_sub (pe_op op_mul pe_int (pv 1)) pe_int) pa_nil)))
    case fin =>
      refine ⟨_, rfl, d, l, ns, n, _, rfl, F0, by omega, by decide, by decide, fun way n1 H1 w0 w1 hn1 F1 b1 => ?_⟩
      refine ⟨_, rfl, rfl, _, rfl, ite2 (fun g => ?_) (fun g => ?_)⟩
      · refine ⟨_, rfl, d, l, ns, n1, _, rfl, F1, by omega, by decide, by decide, fun i n2 H2 i0 i1 hn2 F2 b2 => ⟨_, _, rfl, rfl, ?_⟩⟩
        exact k _ n2 H2 (by omega) (by omega) (by omega) F2 (b1.trans b2)
      · refine ⟨_, rfl, rfl, _, rfl, ite2 (fun g2 => ?_) (fun g2 => ?_)⟩
        · refine ⟨_, rfl, d, l, ns, n1, _, rfl, F1, by omega, by decide, by decide, fun i n2 H2 i0 i1 hn2 F2 b2 => ⟨_, _, rfl, rfl, .inr ⟨by decide, by decide⟩, ?_⟩⟩
          refine ⟨_, rfl, d, l, ns, n2, _, rfl, F2, by omega, by decide, by decide, fun j n3 H3 j0 j1 hn3 F3 b3 => ⟨_, _, rfl, rfl, ?_⟩⟩
          exact k _ n3 H3 (by omega) (by omega) (by omega) F3 ((b1.trans b2).trans b3)
        · have g' : way ≠ 0 := fun z => g (by rw [z]; decide)
          have g2' : way ≠ 1 := fun z => g2 (by rw [z]; decide)
          refine ⟨_, rfl, _, rfl, _, _, rfl, rfl, .inl ⟨by decide, by decide⟩, _, _, rfl, rfl, d, l, ns, n1, 3 * way - 3, rfl, F1, by omega, by omega, by omega, fun i n2 H2 i0 i1 hn2 F2 b2 => ?_⟩
          exact k i n2 H2 i0 (by omega) (by omega) F2 (b1.trans b2)
end
end K04

set_option Elab.async false
set_option linter.all false
set_option maxRecDepth 100000
set_option maxHeartbeats 4000000
namespace K04
open PySem L2
instance (t : Str) : Decidable (Low t) := by unfold Low; exact inferInstance
theorem low_slice {x : Str} {lo hi : Option Int} (h : Low x) : Low (Txt.slice x lo hi) := by
  unfold Txt.slice
  split
  · exact h
  · intro c hc
    have hc' := hc
    simp only [List.mem_filterMap] at hc'
    obtain ⟨i, _, e⟩ := hc'
    refine h c ?_
    rw [Array.mem_toList_iff]
    exact Array.mem_of_getElem? e
def short15 : List Str := ["a", "b", "c", "d", "x", "y", "z", "n", "t", "v", "aa", "ab", "xa", "tmp", "new"]
theorem words_ok : ∀ t ∈ wordsT, (1 ≤ t.length ∧ t.length ≤ 5) ∧ Low t := by decide +kernel
theorem short15_ok : ∀ t ∈ short15, ((1 ≤ t.length ∧ t.length ≤ 5) ∧ Low t) ∧ t ∉ wordsT := by decide +kernel
theorem inV_strs (t : Str) (ts : List Str) : inV (.str t) (ts.map V.str) = true ↔ t ∈ ts := by
  unfold inV
  rw [List.any_map, List.any_eq_true]
  constructor
  · rintro ⟨y, hy, e⟩
    have e' : (y == t) = true := e
    rw [← beq_iff_eq.mp e']
    exact hy
  · intro h
    exact ⟨t, h, beq_self_eq_true t⟩
theorem app_len (x y : Str) : (x ++ y).length = x.length + y.length := PySem.Str.length_append x y
theorem len1000 {x : Str} (h : x.length ≤ 1000) : x.length ≤ sizeLine := Nat.le_trans h (by decide)
/-- a name's text as the drawing knows it -/
abbrev Nm (t : Str) : Prop := (1 ≤ t.length ∧ t.length ≤ 8) ∧ Low t
def spLawName : Sp := fun vs H Q _ => ∃ (d l a : Addr) (ns : List Int) (n : Nat) (ts : List Str), vs = [.ref d, .ref a] ∧ Feed H d l ns n ∧ n ≤ 800000000000 ∧ H a = some (.lst (ts.map V.str)) ∧ ts.length ≤ 40 ∧ (∀ t ∈ ts, Nm t) ∧
  ∀ (t : Str) n' H', Nm t → t ∉ ts → t ∉ wordsT → n' ≤ n + 8 → Feed H' d l ns n' → But d H H' → Q (.str t) H'
/-- the first sign of a text that has one -/
theorem first_of {t : Str} (h : 1 ≤ t.length) : ∃ c, atI t.cps.toList 0 = some c := by
  have hl : t.cps.toList.length = t.length := by simp [Str.length]
  obtain ⟨c, _, e⟩ := at_in (xs := t.cps.toList) (i := 0) (by decide) (by rw [hl]; omega)
  exact ⟨c, e⟩
theorem low_at {t : Str} {i : Int} {c : Nat} (h : Low t) (e : atI t.cps.toList i = some c) : 97 ≤ c ∧ c ≤ 122 := by
  obtain ⟨j, _, e2, _⟩ := atI_get e
  exact h c (List.mem_of_getElem? e2)
/-- the turns of the search: number and length of turn i, from x and m on -/
def mi (m : Int) (i : Nat) : Int := (m - 1 + i) % 8 + 1
def KeyAt (x m : Int) (u : Str) (j : Nat) : Prop := (u.length : Int) = mi m j ∧ u.cps.toList[0]? = some (97 + ((x + j) % 26).toNat)
instance (x m : Int) (u : Str) (j : Nat) : Decidable (KeyAt x m u j) := by unfold KeyAt; exact inferInstance
theorem key_apart {x m : Int} {u : Str} {i j : Nat} (hi : i ≤ 60) (hj : j < i) (a : KeyAt x m u i) (b : KeyAt x m u j) : False := by
  obtain ⟨a1, a2⟩ := a
  obtain ⟨b1, b2⟩ := b
  unfold mi at a1 b1
  rw [a2] at b2
  have b3 := Option.some.inj b2
  have h1 : 0 ≤ (x + i) % 26 := by omega
  have h2 : 0 ≤ (x + j) % 26 := by omega
  omega
/-- what is still to be met of the names that are taken -/
structure Left (x m : Int) (ex R : List Str) (i : Nat) : Prop where
  few : R.length + i ≤ 54
  all : ∀ u ∈ ex, u ∈ R ∨ ∃ j, j < i ∧ KeyAt x m u j
theorem Left.zero {x m : Int} {ex : List Str} (h : ex.length ≤ 53) : Left x m ex ex 0 := ⟨by omega, fun u hu => .inl hu⟩
theorem Left.one {x m : Int} {ex R : List Str} (h : ex.length ≤ 53) : Left x m ex ex 1 := ⟨by omega, fun u hu => .inl hu⟩
theorem Left.next {x m : Int} {ex R : List Str} {i : Nat} {t : Str} (h : Left x m ex R i) (ht : t ∈ ex) (k : KeyAt x m t i) : Left x m ex (R.filter fun u => !decide (KeyAt x m u i)) (i + 1) := by
  have hR : t ∈ R := by
    rcases h.all t ht with z | ⟨j, hj, kj⟩
    · exact z
    · exact (key_apart (by have := h.few; omega) hj k kj).elim
  have hlt : (R.filter fun u => !decide (KeyAt x m u i)).length < R.length := by
    rw [List.length_filter_lt_length_iff_exists]
    exact ⟨t, hR, by simp [k]⟩
  refine ⟨by have := h.few; omega, fun u hu => ?_⟩
  rcases h.all u hu with z | ⟨j, hj, kj⟩
  · by_cases q : KeyAt x m u i
    · exact .inr ⟨i, Nat.lt_succ_self _, q⟩
    · exact .inl (List.mem_filter.mpr ⟨z, by simp [q]⟩)
  · exact .inr ⟨j, by omega, kj⟩
theorem ps_set9 {X : Cx} {i : Nat} {x : Str} {e : Expr} {te : TE} {pos pos' : Pos} (hN : X.N.Nodup) (hi : X.N[i]? = some x) (hx : Loc X.env.scope x) (he : PE X e te) (hs : swapsWith e (some (.Name x pos')) pos.line X.env = pure false) (hf : X.fn x = true ∨ X.env.scope.names.lookup x = some .local) :
    PS X (.Assign [.Name x pos'] e pos) (tAsg te (gName i)) := ps_set hN hi hx he hs hf
theorem strs_flat (ts : List Str) : (ts.map V.str).all flatV = true := by
  rw [List.all_map]
  exact List.all_eq_true.mpr fun _ _ => rfl
theorem op_notin_seqK {X : Cx} {K : PySem.W.Frag} (hK : X.K = K) : OpR X (compareOp .NotIn) (rIn K true) := by subst hK; exact op_notIn_seq
theorem nd_tn : (["_law_taken", "_law_name_here"] : List Str).Nodup := by decide +kernel
section
variable {P : Program} {w : World} {K : PySem.W.Frag} {mg : Str → Option Value} {base : Heap}
theorem scLawName : FnScope ["_law_feed_here", "_law_taken", "_law_words_here", "_law_some", "_law_way", "_law_long", "_law_number", "_law_name_here", "_law_word", "_law_at"] ["_law_feed_here", "_law_taken"] (defScope sLawName) := ⟨rfl, rfl, rfl, by decide +kernel, rfl, by decide +kernel, by decide +kernel⟩
/-- between two statements -/
def Mid (d l a wd : Addr) (ns : List Int) (n k : Nat) (ts : List Str) (H : Hp) (so : Addr) (way m x : Int) : St → Hp → Prop := fun σ' H' => ∃ (t : Str) (n' : Nat) (o8 o9 : Option V),
  σ' = [some (.ref d), some (.ref a), some (.ref wd), some (.ref so), some (.int way), some (.int m), some (.int x), some (.str t), o8, o9] ∧ Nm t ∧ n' ≤ n + k ∧ Feed H' d l ns n' ∧ H' a = some (.lst (ts.map V.str)) ∧ H' wd = some (.lst (wordsT.map V.str)) ∧ But d H H'
theorem ok_name {f fD fS fO fW : Addr} {fd dD dS dO dW : FuncData} (F : Fun K "_law_name" "_law_name" sLawName f fd) (U : Dr K mg fD fS fO fW dD dS dO dW) : FnOk P w K mg base CX0 3 f fd ["_law_feed_here", "_law_taken"] spLawName := by
  have GD : FnOk P w K mg base CX0 1 fD dD ["_law_feed_here", "_law_many"] spDraw := ok_draw U.D U.T
  have GS : FnOk P w K mg base CX0 1 fS dS ["_law_number", "_law_long"] spSpelled := ok_spelled U.S U.T
  have GO : FnOk P w K mg base CX0 2 fO dO ["_law_feed_here", "_law_some"] spOne := ok_one U.O U
  have GW : FnOk P w K mg base CX0 1 fW dW [] spWords := ok_words U.W
  refine F.ok scLawName (fun vs H Q E h => ?_) (fun cdv A outer s H vs Q E hr h => ?_)
  · obtain ⟨d, l, a, ns, n, ts, rfl, _⟩ := h
    rfl
  · obtain ⟨d, l, a, ns, n, ts, rfl, F0, hn, A0, hts, hall, k⟩ := h
    have hu := hu_of hr
    have hu0 := hr.units0
    have hsz : sizeLine = 16777216 := sizeLine_eq
    have hr1 : Room 1 _ := hr.mono (by decide)
    have hr2 : Room 2 _ := hr.mono (by decide)
    refine' ⟨?tt, ?body, ?fin⟩
    case body =>
      refine' pss_cons ?s1 ?rs1
      case s1 => exact ps_set (i := 2) scLawName.nd rfl (Or.inl rfl) (pe_call0 GW hr1 (by rfl) U.mW U.W.kp U.bW .nil pass0)
      case rs1 =>
        refine' pss_cons ?s2 ?rs2
        case s2 =>
          refine' ps_set9 (i := 3) ?ha ?hb ?hc ?hd ?he ?hf
          case ha => exact scLawName.nd
          case hb => exact rfl
          case hc => exact (Or.inl rfl)
          case he => exact rfl
          case hf => exact (.inr rfl)
          case hd =>
            refine' @pe_consts ((cxOf CX0 P w K mg base ["_law_feed_here", "_law_taken", "_law_words_here", "_law_some", "_law_way", "_law_long", "_law_number", "_law_name_here", "_law_word", "_law_at"] "_law_name" (defScope sLawName) f cdv A outer s H E).nox) _ (short15.map V.str) ?q
            case q => decide +kernel
        case rs2 =>
          refine' pss_cut ?s3 ?rs3
          case s3 =>
            refine' ps_setComp (i := 3) (N' := ["_law_taken", "_law_name_here"]) (src := [some 1, none]) ?k1 ?k2 ?k3 ?k4 ?k5 ?k6 ?k7
            case k1 => rfl
            case k2 => exact scLawName.nd
            case k3 => rfl
            case k4 => exact Or.inl rfl
            case k5 => exact compScope_of (defScope sLawName) rfl ["_law_feed_here", "_law_taken", "_law_words_here", "_law_some", "_law_way", "_law_long", "_law_number", "_law_name_here", "_law_word", "_law_at"] rfl (by decide +kernel)
            case k6 => exact pi_list (pv 3)
            case k7 => exact fun cl C ex s0 H0 => ⟨pg_name (i := 1) nd_tn rfl (Or.inl rfl), pts_one (pt_cmpR (op_notin_seqK (K := K) rfl) (pv 1) (pv 0) (by with_unfolding_all rfl)), pv 1⟩
          case rs3 =>
            refine' pss_cons ?s4 ?rs4
            case s4 => exact ps_set (i := 4) scLawName.nd rfl (Or.inl rfl) (pe_call GD hr1 (by rfl) U.mD U.D.kp U.bD .nil pass0 (pa_n (pv 0) (pa_k pe_int pa_nil)))
            case rs4 =>
              refine' pss_cut ?s5 ?rs5
              case s5 =>
                refine' ps_if ?c (pss_one ?b) pss_nil
                case c => exact (pw_and (pt_cmpR (op_ne_list hu0) (pv 3) (pe_lst pa_nil) (nomark _)) (pw_and1 (pw_or (pt_cmpR op_eq (pv 4) pe_int (nomark _)) (pw_or1 (pt_val (pe_dget hu (pv 0) pe_str (fun _ _ => rfl))))).pt)).pt
                case b => exact ps_ret (pe_ix ix_list (pv 3) (pe_call GD hr1 (by rfl) U.mD U.D.kp U.bD .nil pass0 (pa_n (pv 0) (pa_c (pe_callB call_len_seq (by rfl) U.T.len PySem.boot_len (pa_n (pv 3) pa_nil)) pa_nil))) (fun _ _ => rfl))
              case rs5 =>
                refine' pss_cons ?s6 ?rs6
                case s6 => exact ps_set (i := 5) scLawName.nd rfl (Or.inl rfl) (pe_op op_add pe_int (pe_call GD hr1 (by rfl) U.mD U.D.kp U.bD .nil pass0 (pa_n (pv 0) (pa_k pe_int pa_nil))))
                case rs6 =>
                  refine' pss_cons ?s7 ?rs7
                  case s7 => exact ps_set (i := 6) scLawName.nd rfl (Or.inl rfl) (pe_op op_add (pe_op op_mul (pe_call GD hr1 (by rfl) U.mD U.D.kp U.bD .nil pass0 (pa_n (pv 0) (pa_k pe_int pa_nil))) pe_int) (pe_call GD hr1 (by rfl) U.mD U.D.kp U.bD .nil pass0 (pa_n (pv 0) (pa_k pe_int pa_nil))))
                  case rs7 =>
                    refine' pss_cons ?s8 ?rs8
                    case s8 => exact ps_set (i := 7) scLawName.nd rfl (Or.inl rfl) (pe_call GS hr1 (by rfl) U.mS U.S.kp U.bS .nil pass0 (pa_n (pv 6) (pa_n (pv 5) pa_nil)))
                    case rs8 =>
                      refine' pss_cut ?s9 ?rs9
                      case s9 =>
                        refine' ps_if (pt_cmpR op_eq (pv 4) pe_int (nomark _)) (pss_one ?b) pss_nil
                        case b =>
                          refine' ps_set (i := 7) scLawName.nd rfl (Or.inl rfl) (pe_op op_add_str ?l ?r)
                          case l => exact pe_ix ix_list (pv 2) (pe_call GD hr1 (by rfl) U.mD U.D.kp U.bD .nil pass0 (pa_n (pv 0) (pa_k pe_int pa_nil))) (fun _ _ => rfl)
                          case r => exact pe_ix ix_str (pv 7) pe_int (fun _ _ => rfl)
                      case rs9 =>
                        refine' pss_cut ?s10 ?rs10
                        case s10 =>
                          refine' ps_if ?c (pss_one ?b) pss_nil
                          case c => exact (pw_and (pt_cmpR op_eq (pv 4) pe_int (nomark _)) (pw_and1 (pt_cmpR (op_ne_list hu0) (pv 1) (pe_lst pa_nil) (nomark _)))).pt
                          case b =>
                            refine' ps_set (i := 7) scLawName.nd rfl (Or.inl rfl) (pe_slice sl_str (pe_op op_add_str ?x ?z) po_none (po_some ?u))
                            case x => exact (pe_call GO hr2 (by rfl) U.mO U.O.kp U.bO .nil pass0 (pa_n (pv 0) (pa_n (pv 1) pa_nil)))
                            case z => exact pv 7
                            case u => exact pe_op op_add pe_int (pe_op op_mod (pv 6) pe_int)
                        case rs10 =>
                          refine' pss_cut ?s11 ?rs11
                          case s11 =>
                            refine' ps_if ?c (pss_cons ?b1 (pss_cons ?b2 (pss_one ?b3))) pss_nil
                            case c => exact (pw_and (pt_cmpR op_eq (pv 4) pe_int (nomark _)) (pw_and1 (pt_cmpR (op_ne_list hu0) (pv 1) (pe_lst pa_nil) (nomark _)))).pt
                            case b1 => exact ps_set (i := 8) scLawName.nd rfl (Or.inl rfl) (pe_call GO hr2 (by rfl) U.mO U.O.kp U.bO .nil pass0 (pa_n (pv 0) (pa_n (pv 1) pa_nil)))
                            case b2 => exact ps_set (i := 9) scLawName.nd rfl (Or.inl rfl) (pe_op op_mod (pv 6) (pe_callB call_len_str (by rfl) U.T.len PySem.boot_len (pa_n (pv 8) pa_nil)))
                            case b3 =>
                              refine' ps_set (i := 7) scLawName.nd rfl (Or.inl rfl) (pe_op op_add_str (pe_op op_add_str ?x ?y) ?z)
                              case x => exact pe_slice sl_str (pv 8) po_none (po_some (pv 9))
                              case y => exact pe_ix ix_str (pv 7) pe_int (fun _ _ => rfl)
                              case z => exact pe_slice sl_str (pv 8) (po_some (pe_op op_add (pv 9) pe_int)) po_none
                          case rs11 =>
                            refine' pss_cons ?s12 ?rs12
                            case s12 =>
                              refine' ps_while PassesOwn.never ?c (pss_cons ?b1 (pss_cons ?b2 (pss_one ?b3)))
                              case c => exact (pw_or (pt_cmpR op_in_seq (pv 7) (pv 1) (by with_unfolding_all rfl)) (pw_or1 (pt_cmpR op_in_seq (pv 7) (pv 2) (by with_unfolding_all rfl)))).pt
                              case b1 => exact ps_set (i := 6) scLawName.nd rfl (Or.inl rfl) (pe_op op_add (pv 6) pe_int)
                              case b2 => exact ps_set (i := 5) scLawName.nd rfl (Or.inl rfl) (pe_op op_add (pe_op op_mod (pv 5) pe_int) pe_int)
                              case b3 => exact ps_set (i := 7) scLawName.nd rfl (Or.inl rfl) (pe_call GS hr1 (by rfl) U.mS U.S.kp U.bS .nil pass0 (pa_n (pv 6) (pa_n (pv 5) pa_nil)))
                            case rs12 =>
                              refine' pss_one ?s13
                              case s13 => exact ps_ret (pv 7)
    case fin =>
      refine ⟨rfl, fun wd hwd => ?_⟩
      have sw := same_upd (o := .lst (wordsT.map V.str)) hwd
      refine ⟨small_len (by decide +kernel), fun p hp => ?_⟩
      have sp := same_upd (o := .lst (short15.map V.str)) hp
      have s1 := sw.trans sp
      have F1 := F0.same s1
      have A1 := s1 _ _ A0
      have W1 := sp _ _ (upd_same (H := H) (a := wd) (o := .lst (wordsT.map V.str)))
      have S1 : upd (upd H wd (.lst (wordsT.map V.str))) p (.lst (short15.map V.str)) p = some (.lst (short15.map V.str)) := upd_same
      generalize upd (upd H wd (.lst (wordsT.map V.str))) p (.lst (short15.map V.str)) = H1 at s1 F1 A1 W1 S1 ⊢
      refine ⟨fun σ' H' => ∃ (so : Addr) (fs : List Str), σ' = [some (.ref d), some (.ref a), some (.ref wd), some (.ref so), none, none, none, none, none, none] ∧ Same H1 H' ∧ H' so = some (.lst (fs.map V.str)) ∧ fs.length ≤ 15 ∧ ∀ t ∈ fs, t ∈ short15 ∧ t ∉ ts, ?_, ?_⟩
      · refine ⟨_, rfl, p, rfl, ⟨_, SqL.of S1⟩, comp_list (K := K) (a := p) (xs := short15.map V.str) (fun i ys σc H' => ∃ (o : Option V) (fs : List Str), σc = [some (.ref a), o] ∧ H' = H1 ∧ ys = fs.map V.str ∧ fs.length ≤ i ∧ ∀ t ∈ fs, t ∈ short15 ∧ t ∉ ts)
          ⟨none, [], rfl, rfl, rfl, Nat.le_refl _, fun t ht => by cases ht⟩ (fun i ys σc H' ⟨_, _, _, e, _⟩ => by rw [e]; exact SqL.of S1) ?_ ?_⟩
        · rintro i x ys σc H' hx hi ⟨o, fs, rfl, rfl, rfl, hfl, hfa⟩
          obtain ⟨t, ht, rfl⟩ := List.mem_map.mp (List.mem_of_getElem? hx)
          have hi' : i < 15 := by
            have : (short15.map V.str).length = 15 := by decide +kernel
            omega
          refine ⟨by rw [List.length_map]; omega, ?_⟩
          refine ⟨_, rfl, _, rfl, a, ts.map V.str, rfl, .inl (SqL.of A1), rfl, strs_flat ts, _, rfl, ite2 (fun g => ?_) (fun g => ?_)⟩
          · refine ⟨_, rfl, nx hi ⟨_, fs ++ [t], rfl, rfl, by rw [List.map_append]; rfl, by rw [List.length_append, List.length_singleton]; omega, fun u hu => ?_⟩⟩
            rcases List.mem_append.mp hu with z | z
            · exact hfa u z
            · rw [List.mem_singleton] at z
              subst z
              refine ⟨ht, fun q => ?_⟩
              have h1 := (inV_strs u ts).mpr q
              have g' : (!inV (.str u) (ts.map V.str)) = true := g
              rw [h1] at g'
              cases g'
          · exact nx hi ⟨_, fs, rfl, rfl, rfl, by omega, hfa⟩
        · rintro ys σc H' ⟨o, fs, rfl, rfl, rfl, hfl, hfa⟩ q hq
          have : (short15.map V.str).length = 15 := by decide +kernel
          exact ⟨q, fs, rfl, same_upd hq, upd_same, by omega, hfa⟩
      rintro σ1 H1' ⟨so, fs, rfl, sq, S2, hfl, hfa⟩
      have F1 := F1.same sq
      have A1 := sq _ _ A1
      have W1 := sq _ _ W1
      have B1 : But d H H1' := But.of (s1.trans sq)
      refine ⟨_, rfl, d, l, ns, n, _, rfl, F1, by omega, by decide, by decide, fun way n2 H2 _ _ hn2 F2 B2 => ?_⟩
      have A2 := F1.lst B2 A1
      have W2 := F1.lst B2 W1
      have S3 := F1.lst B2 S2
      have B2' := B1.trans B2
      refine ⟨fun σ' H' => σ' = [some (.ref d), some (.ref a), some (.ref wd), some (.ref so), some (.int way), none, none, none, none, none] ∧ Feed H' d l ns n2 ∧ H' a = some (.lst (ts.map V.str)) ∧ H' wd = some (.lst (wordsT.map V.str)) ∧ But d H H', ?_, ?_⟩
      · refine ⟨_, rfl, Nat.zero_le _, fun e he => ⟨so, e, fs.map V.str, [], rfl, rfl, SqL.of (same_upd he _ _ S3), SqL.of upd_same, strs_flat fs, rfl, _, rfl, ?_⟩⟩
        have se := same_upd (o := .lst []) he
        have F2' := F2.same se
        have A2' := se _ _ A2
        have W2' := se _ _ W2
        have S3' := se _ _ S3
        have B2'' := B2'.trans (But.of (d := d) se)
        generalize upd H2 e (.lst []) = H2e at F2' A2' W2' S3' B2'' ⊢
        obtain ⟨z2, sb2, hd2⟩ := id F2'.dc
        refine ite2 (fun hne => ?_) (fun _ => iteF ⟨rfl, F2', A2', W2', B2''⟩)
        have hpos : 0 < (fs.map V.str).length := by
          cases fs with
          | nil => exact absurd hne (by decide)
          | cons _ _ => exact Nat.succ_pos _
        have hfew : (fs.map V.str).length ≤ 15 := by rw [List.length_map]; exact hfl
        refine ⟨_, rfl, rfl, _, rfl, ite2 (fun _ => iteT ?_) (fun _ => ⟨_, rfl, d, .bl sb2, rfl, get_short hd2, _, rfl, ?_⟩)⟩
        · refine ⟨_, rfl, _, rfl, _, rfl, so, fs.map V.str, rfl, .inl (SqL.of S3'), d, l, ns, n2, _, rfl, F2', by omega, (by show (0 : Int) < ((fs.map V.str).length : Int); omega), (by show ((fs.map V.str).length : Int) < 18446744073709551616; omega), fun r n3 H3 r0 r1 hn3 F3 B3 => ?_⟩
          obtain ⟨v3, hv3, hat3⟩ := at_in (xs := fs.map V.str) (i := r) r0 r1
          obtain ⟨t3, ht3, rfl⟩ := List.mem_map.mp hv3
          have h3 := hfa t3 ht3
          have h4 := short15_ok t3 h3.1
          exact ⟨so, fs.map V.str, r, .str t3, rfl, rfl, SqL.of (F2'.lst B3 S3'), hat3, k t3 n3 H3 ⟨⟨h4.1.1.1, by omega⟩, h4.1.2⟩ h3.2 h4.2 (by omega) F3 (B2''.trans B3)⟩
        · refine ite2 (fun _ => ?_) (fun _ => ⟨rfl, F2', A2', W2', B2''⟩)
          refine ⟨_, rfl, _, rfl, _, rfl, so, fs.map V.str, rfl, .inl (SqL.of S3'), d, l, ns, n2, _, rfl, F2', by omega, (by show (0 : Int) < ((fs.map V.str).length : Int); omega), (by show ((fs.map V.str).length : Int) < 18446744073709551616; omega), fun r n3 H3 r0 r1 hn3 F3 B3 => ?_⟩
          obtain ⟨v3, hv3, hat3⟩ := at_in (xs := fs.map V.str) (i := r) r0 r1
          obtain ⟨t3, ht3, rfl⟩ := List.mem_map.mp hv3
          have h3 := hfa t3 ht3
          have h4 := short15_ok t3 h3.1
          exact ⟨so, fs.map V.str, r, .str t3, rfl, rfl, SqL.of (F2'.lst B3 S3'), hat3, k t3 n3 H3 ⟨⟨h4.1.1.1, by omega⟩, h4.1.2⟩ h3.2 h4.2 (by omega) F3 (B2''.trans B3)⟩
      clear F2 A2 W2 S3 B2' B2 F1 A1 W1 B1 S2 sq
      rintro σ2 H2' ⟨rfl, F2, A2, W2, B2'⟩
      refine ⟨_, rfl, d, l, ns, n2, _, rfl, F2, by omega, by decide, by decide, fun lg n3 H3 lg0 lg1 hn3 F3 B3 => ?_⟩
      have A3 := F2.lst B3 A2
      have W3 := F2.lst B3 W2
      have B3' := B2'.trans B3
      refine ⟨_, _, rfl, rfl, ?_⟩
      refine ⟨_, rfl, d, l, ns, n3, _, rfl, F3, by omega, by decide, by decide, fun r4 n4 H4 r40 r41 hn4 F4 B4 => ?_⟩
      have A4 := F3.lst B4 A3
      have W4 := F3.lst B4 W3
      have B4' := B3'.trans B4
      refine ⟨_, _, rfl, rfl, .inr ⟨by decide, by decide⟩, ?_⟩
      refine ⟨_, rfl, d, l, ns, n4, _, rfl, F4, by omega, by decide, by decide, fun r5 n5 H5 r50 r51 hn5 F5 B5 => ?_⟩
      have A5 := F4.lst B5 A4
      have W5 := F4.lst B5 W4
      have B5' := B4'.trans B5
      refine ⟨_, _, rfl, rfl, ?_⟩
      have hx0 : 0 ≤ r4 * 456976 + r5 := by omega
      -- name = spelled(number, long)
      refine ⟨_, rfl, _, rfl, r4 * 456976 + r5, 1 + lg, rfl, by omega, by omega, fun t5 ht5 => ?_⟩
      obtain ⟨⟨hl5, hw5⟩, hf5⟩ := ht5
      have hm0 : 1 ≤ 1 + lg := by omega
      have hm1 : 1 + lg ≤ 8 := by omega
      -- if way == 0
      refine ⟨Mid d l a wd ns n 6 ts H so way (1 + lg) (r4 * 456976 + r5), ?_, ?_⟩
      · refine ⟨_, rfl, rfl, _, rfl, ite2 (fun _ => ?_) (fun _ => ?_)⟩
        · refine ⟨_, rfl, _, rfl, d, l, ns, n5, _, rfl, F5, by omega, by decide, by decide, fun r6 n6 H6 r60 r61 hn6 F6 B6 => ?_⟩
          obtain ⟨z5, sb5, hd5⟩ := F5.dc
          have A6 := B6.lst hd5 A5
          have W6 := B6.lst hd5 W5
          obtain ⟨v6, hv6, hat6⟩ := at_in (xs := wordsT.map V.str) (i := r6) r60 (Int.lt_of_lt_of_le r61 (by decide +kernel))
          obtain ⟨t6, ht6, rfl⟩ := List.mem_map.mp hv6
          have h6 := words_ok t6 ht6
          obtain ⟨c6, hc6⟩ := first_of (t := t5) (by omega)
          refine ⟨wd, wordsT.map V.str, r6, .str t6, rfl, rfl, SqL.of W6, hat6, ?_⟩
          refine ⟨_, rfl, t5, 0, c6, rfl, rfl, len1000 (by omega), hc6, ?_⟩
          refine ⟨t6, ⟨#[c6]⟩, rfl, rfl, (by show t6.length + 1 ≤ sizeLine; omega), ?_⟩
          exact ⟨_, n6, none, none, rfl, ⟨⟨by rw [app_len]; show 1 ≤ t6.length + 1; omega, by rw [app_len]; show t6.length + 1 ≤ 8; omega⟩, low_app h6.2 (low_one (low_at hw5 hc6))⟩, by omega, F6, A6, W6, B5'.trans B6⟩
        · exact ⟨t5, n5, none, none, rfl, ⟨⟨by omega, by omega⟩, hw5⟩, by omega, F5, A5, W5, B5'⟩
      generalize r4 * 456976 + r5 = x at hx0 ⊢
      generalize 1 + lg = m at hm0 hm1 ⊢
      rintro σ7 H7 ⟨t7, n7, o77, o78, rfl, ht7, hn7, F7, A7, W7, B7⟩
      obtain ⟨z7, sb7, hd7⟩ := F7.dc
      -- if way == 1 and taken != []
      refine ⟨Mid d l a wd ns n 7 ts H so way m x, ?_, ?_⟩
      · refine ⟨_, rfl, rfl, _, rfl, ite2 (fun _ => ?_) (fun _ => iteF ⟨t7, n7, o77, o78, rfl, ht7, by omega, F7, A7, W7, B7⟩)⟩
        refine ⟨_, rfl, Nat.zero_le _, fun e he => ⟨a, e, ts.map V.str, [], rfl, rfl, SqL.of (same_upd he _ _ A7), SqL.of upd_same, strs_flat ts, rfl, _, rfl, ?_⟩⟩
        have se := same_upd (o := .lst []) he
        have F7' := F7.same se
        have A7' := se _ _ A7
        have W7' := se _ _ W7
        have B7' := B7.trans (But.of (d := d) se)
        obtain ⟨z7', sb7', hd7'⟩ := F7'.dc
        generalize upd H7 e (.lst []) = H7e at F7' A7' W7' B7' hd7' ⊢
        refine ite2 (fun hne => ?_) (fun _ => ⟨t7, n7, o77, o78, rfl, ht7, by omega, F7', A7', W7', B7'⟩)
        have hpos : 0 < (ts.map V.str).length := by
          cases ts with
          | nil => exact absurd hne (by decide)
          | cons _ _ => exact Nat.succ_pos _
        have hfew : (ts.map V.str).length ≤ 40 := by rw [List.length_map]; exact hts
        refine ⟨_, rfl, _, rfl, d, l, a, ns, n7, ts.map V.str, rfl, F7', by omega, A7', hpos, by omega, fun v8 n8 H8 hv8 hn8 F8 B8 => ?_⟩
        have A8 := B8.lst hd7' A7'
        have W8 := B8.lst hd7' W7'
        obtain ⟨t8, ht8, rfl⟩ := List.mem_map.mp hv8
        have h8 := hall t8 ht8
        refine ⟨_, rfl, t8, t7, rfl, rfl, (by omega), ?_⟩
        have hlen : (t8 ++ t7).length = t8.length + t7.length := app_len _ _
        refine ⟨_, rfl, _, _, rfl, rfl, (by show (0 : Int) < 8; decide), _, _, rfl, rfl, _, rfl, _, rfl, len1000 (by omega), ?_⟩
        have hj : 1 ≤ 1 + x % 8 := by omega
        have hj2 : 1 + x % 8 ≤ 8 := by omega
        have q1 := cut_pos (x := t8 ++ t7) (j := 1 + x % 8) (by omega) hj
        have q2 := cut_le (x := t8 ++ t7) (j := 1 + x % 8) (by omega)
        exact ⟨_, n8, o77, o78, rfl, ⟨⟨q1, by omega⟩, low_slice (low_app h8.2 ht7.2)⟩, by omega, F8, A8, W8, B7'.trans B8⟩
      rintro σ8 H8 ⟨t8, n8, o87, o88, rfl, ht8, hn8, F8, A8, W8, B8⟩
      obtain ⟨z8, sb8, hd8⟩ := F8.dc
      -- if way == 2 and taken != []
      refine ⟨Mid d l a wd ns n 8 ts H so way m x, ?_, ?_⟩
      · refine ⟨_, rfl, rfl, _, rfl, ite2 (fun _ => ?_) (fun _ => iteF ⟨t8, n8, o87, o88, rfl, ht8, by omega, F8, A8, W8, B8⟩)⟩
        refine ⟨_, rfl, Nat.zero_le _, fun e he => ⟨a, e, ts.map V.str, [], rfl, rfl, SqL.of (same_upd he _ _ A8), SqL.of upd_same, strs_flat ts, rfl, _, rfl, ?_⟩⟩
        have se := same_upd (o := .lst []) he
        have F8' := F8.same se
        have A8' := se _ _ A8
        have W8' := se _ _ W8
        have B8' := B8.trans (But.of (d := d) se)
        obtain ⟨z8', sb8', hd8'⟩ := F8'.dc
        generalize upd H8 e (.lst []) = H8e at F8' A8' W8' B8' hd8' ⊢
        refine ite2 (fun hne => ?_) (fun _ => ⟨t8, n8, o87, o88, rfl, ht8, by omega, F8', A8', W8', B8'⟩)
        have hpos : 0 < (ts.map V.str).length := by
          cases ts with
          | nil => exact absurd hne (by decide)
          | cons _ _ => exact Nat.succ_pos _
        have hfew : (ts.map V.str).length ≤ 40 := by rw [List.length_map]; exact hts
        refine ⟨_, rfl, _, rfl, d, l, a, ns, n8, ts.map V.str, rfl, F8', by omega, A8', hpos, by omega, fun v9 n9 H9 hv9 hn9 F9 B9 => ?_⟩
        have A9 := B9.lst hd8' A8'
        have W9 := B9.lst hd8' W8'
        obtain ⟨t9, ht9, rfl⟩ := List.mem_map.mp hv9
        have h9 := hall t9 ht9
        refine ⟨_, rfl, _, rfl, t9, rfl, len1000 (by omega), _, _, rfl, rfl, (by show (0 : Int) < (t9.length : Int); omega), ?_⟩
        have at0 : 0 ≤ x % (t9.length : Int) := Int.emod_nonneg _ (by omega)
        have at1 : x % (t9.length : Int) < t9.length := Int.emod_lt_of_pos _ (by omega)
        obtain ⟨c9, hc9⟩ := first_of (t := t8) ht8.1.1
        have q1 := cut_le (x := t9) (j := x % (t9.length : Int)) at0
        have q2 := cut_from (x := t9) (i := x % (t9.length : Int) + 1) (by omega) (by omega)
        refine ⟨_, rfl, _, rfl, _, rfl, t9, rfl, len1000 (by omega), _, rfl, t8, 0, c9, rfl, rfl, len1000 (by omega), hc9, _, ⟨#[c9]⟩, rfl, rfl, (by show _ + 1 ≤ sizeLine; omega), ?_⟩
        have hlen : (Txt.slice t9 none (some (x % (t9.length : Int))) ++ (⟨#[c9]⟩ : Str)).length = (Txt.slice t9 none (some (x % (t9.length : Int)))).length + 1 := app_len _ _
        refine ⟨_, rfl, _, rfl, _, _, rfl, rfl, _, rfl, t9, rfl, len1000 (by omega), _, _, rfl, rfl, (by omega), ?_⟩
        exact ⟨_, n9, _, _, rfl, ⟨⟨by rw [app_len]; omega, by rw [app_len]; omega⟩, low_app (low_app (low_slice h9.2) (low_one (low_at ht8.2 hc9))) (low_slice h9.2)⟩, by omega, F9, A9, W9, B8'.trans B9⟩
      rintro σ9 H9 ⟨t9, n9, o97, o98, rfl, ht9, hn9, F9, A9, W9, B9⟩
      -- the search
      have hex : (ts ++ wordsT).length ≤ 53 := by
        rw [List.length_append]
        have : wordsT.length = 13 := by decide +kernel
        omega
      refine while_by (fun σ H' => ∃ (i : Nat) (R : List Str) (t : Str), σ = [some (.ref d), some (.ref a), some (.ref wd), some (.ref so), some (.int way), some (.int (mi m i)), some (.int (x + i)), some (.str t), o97, o98] ∧ Nm t ∧ Left x m (ts ++ wordsT) R i ∧ (0 < i → KeyAt x m t i) ∧ H' = H9)
        (fun (σ : St) (_ : Hp) => match σ[6]? with | some (some (V.int z)) => (x + 100 - z).toNat | _ => 0) ⟨0, _, t9, ?_, ht9, Left.zero hex, fun z => absurd z (Nat.lt_irrefl _), rfl⟩ ?_ ?_
      · have e1 : mi m 0 = m := by unfold mi; omega
        have e2 : x + ((0 : Nat) : Int) = x := by omega
        rw [e1, e2]
      · rintro σ H' ⟨i, R, t, rfl, ht, hL, hK, rfl⟩
        have hi : i ≤ 54 := by have := hL.few; omega
        have e1 : mi m i % 8 + 1 = mi m (i + 1) := by unfold mi; omega
        have e2 : x + (i : Int) + 1 = x + ((i + 1 : Nat) : Int) := by omega
        have e3 : 1 ≤ mi m (i + 1) ∧ mi m (i + 1) ≤ 8 := by unfold mi; omega
        have body : t ∈ ts ++ wordsT → ∀ t' : Str, Spelled t' (x + ((i + 1 : Nat) : Int)) (mi m (i + 1)) →
            ∃ R', Nm t' ∧ Left x m (ts ++ wordsT) R' (i + 1) ∧ (0 < i + 1 → KeyAt x m t' (i + 1)) := by
          intro hin t' ht'
          have hk : KeyAt x m t' (i + 1) := ⟨ht'.1.1, ht'.2 (by omega)⟩
          have hl := ht'.1.1
          by_cases hz : i = 0
          · subst hz
            exact ⟨_, ⟨⟨by omega, by omega⟩, ht'.1.2⟩, Left.one (R := R) hex, fun _ => hk⟩
          · exact ⟨_, ⟨⟨by omega, by omega⟩, ht'.1.2⟩, hL.next hin (hK (by omega)), fun _ => hk⟩
        refine ⟨_, rfl, _, rfl, a, ts.map V.str, rfl, .inl (SqL.of A9), rfl, strs_flat ts, _, rfl, ite2 (fun g => iteT ?_) (fun g => ?_)⟩
        · refine ⟨_, rfl, _, _, rfl, rfl, _, rfl, _, _, rfl, rfl, (by show (0 : Int) < 8; decide), _, _, rfl, rfl, _, rfl, _, rfl, _, _, rfl, (by rw [e1]; omega), (by rw [e1]; omega), fun t' ht' => ?_⟩
          rw [e1, e2] at ht'
          obtain ⟨R', q1, q2, q3⟩ := body (List.mem_append.mpr (.inl ((inV_strs t ts).mp g))) t' ht'
          refine ⟨⟨i + 1, R', t', ?_, q1, q2, q3, rfl⟩, ?_⟩
          · show [some (.ref d), some (.ref a), some (.ref wd), some (.ref so), some (.int way), some (.int (mi m i % 8 + 1)), some (.int (x + i + 1)), some (.str t'), o97, o98] = _
            rw [e1, e2]
          · show (x + 100 - (x + i + 1)).toNat < (x + 100 - (x + i)).toNat
            omega
        · refine ⟨_, rfl, _, rfl, wd, wordsT.map V.str, rfl, .inl (SqL.of W9), rfl, strs_flat wordsT, _, rfl, ite2 (fun g2 => ?_) (fun g2 => ?_)⟩
          · refine ⟨_, rfl, _, _, rfl, rfl, _, rfl, _, _, rfl, rfl, (by show (0 : Int) < 8; decide), _, _, rfl, rfl, _, rfl, _, rfl, _, _, rfl, (by rw [e1]; omega), (by rw [e1]; omega), fun t' ht' => ?_⟩
            rw [e1, e2] at ht'
            obtain ⟨R', q1, q2, q3⟩ := body (List.mem_append.mpr (.inr ((inV_strs t wordsT).mp g2))) t' ht'
            refine ⟨⟨i + 1, R', t', ?_, q1, q2, q3, rfl⟩, ?_⟩
            · show [some (.ref d), some (.ref a), some (.ref wd), some (.ref so), some (.int way), some (.int (mi m i % 8 + 1)), some (.int (x + i + 1)), some (.str t'), o97, o98] = _
              rw [e1, e2]
            · show (x + 100 - (x + i + 1)).toNat < (x + 100 - (x + i)).toNat
              omega
          · exact ⟨_, rfl, k t n9 _ ht (fun z => g ((inV_strs t ts).mpr z)) (fun z => g2 ((inV_strs t wordsT).mpr z)) hn9 F9 B9⟩
      · rintro σ H' Q1 Q2 hq ⟨v, f1, w1, f2, p, xs, f3, f4, f5, f6, c, f7, q⟩
        refine ⟨v, f1, w1, f2, p, xs, f3, f4, f5, f6, c, f7, ?_⟩
        cases c with
        | true => exact iteT (hq _ _ (by simpa using q))
        | false =>
          refine iteF ?_
          simp only [Bool.false_eq_true, if_false] at q
          obtain ⟨v, f1, w1, f2, p, xs, f3, f4, f5, f6, c, f7, q⟩ := q
          exact ⟨v, f1, w1, f2, p, xs, f3, f4, f5, f6, c, f7, hq _ _ q⟩
end
end K04

set_option Elab.async false
set_option linter.all false
set_option maxRecDepth 100000
set_option maxHeartbeats 4000000
namespace K04
open PySem L2
def spNames : Sp := fun vs H Q _ => ∃ (d l : Addr) (ns : List Int) (n m : Nat), vs = [.ref d, .int m] ∧ Feed H d l ns n ∧ n ≤ 700000000000 ∧ m ≤ 30 ∧
  ∀ (nm : Addr) (ts : List Str) n' H', H' nm = some (.lst (ts.map V.str)) → ts.length = m → (∀ t ∈ ts, Nm t) → n' ≤ n + 8 * m → Feed H' d l ns n' → H nm = none → But d H H' → Q (.ref nm) H'
/-! the world: names, lets, calls and what room there is -/
def worldKV (nm lt cl : Addr) (r : Int) : List (Key × V) := [(Sum.inr "names", .ref nm), (Sum.inr "lets", .ref lt), (Sum.inr "calls", .ref cl), (Sum.inr "room", .int r)]
theorem wkv_names (nm lt cl : Addr) (r : Int) : valV (worldKV nm lt cl r) (Sum.inr "names") = some (.ref nm) := by with_unfolding_all rfl
theorem wkv_lets (nm lt cl : Addr) (r : Int) : valV (worldKV nm lt cl r) (Sum.inr "lets") = some (.ref lt) := by with_unfolding_all rfl
theorem wkv_calls (nm lt cl : Addr) (r : Int) : valV (worldKV nm lt cl r) (Sum.inr "calls") = some (.ref cl) := by with_unfolding_all rfl
theorem wkv_room (nm lt cl : Addr) (r : Int) : valV (worldKV nm lt cl r) (Sum.inr "room") = some (.int r) := by with_unfolding_all rfl
theorem wput_room (nm lt cl : Addr) (r q : Int) : putK (worldKV nm lt cl r) (Sum.inr "room") (.int q) = worldKV nm lt cl q := by with_unfolding_all rfl
section
variable {H : Hp} {wd nm lt cl : Addr} {r q : Int}
theorem wget_names (h : H wd = some (.dK (worldKV nm lt cl r))) : DGet H wd (.str "names") (some (.ref nm)) := by
  have := DGet.k (k := Sum.inr "names") h; rw [wkv_names] at this; exact this
theorem wget_lets (h : H wd = some (.dK (worldKV nm lt cl r))) : DGet H wd (.str "lets") (some (.ref lt)) := by
  have := DGet.k (k := Sum.inr "lets") h; rw [wkv_lets] at this; exact this
theorem wget_calls (h : H wd = some (.dK (worldKV nm lt cl r))) : DGet H wd (.str "calls") (some (.ref cl)) := by
  have := DGet.k (k := Sum.inr "calls") h; rw [wkv_calls] at this; exact this
theorem wget_room (h : H wd = some (.dK (worldKV nm lt cl r))) : DGet H wd (.str "room") (some (.int r)) := by
  have := DGet.k (k := Sum.inr "room") h; rw [wkv_room] at this; exact this
theorem wset_room (h : H wd = some (.dK (worldKV nm lt cl r))) : DPut H wd (.str "room") (.int q) (upd H wd (.dK (worldKV nm lt cl q))) := by
  have := DPut.k (k := Sum.inr "room") (v := .int q) h (by show 4 < sizeLine; decide); rw [wput_room] at this; exact this
end
/-- the lists of names that a world holds -/
structure Nms (H : Hp) (nm lt cl : Addr) (T1 T2 T3 : List Str) : Prop where
  a : H nm = some (.lst (T1.map V.str))
  b : H lt = some (.lst (T2.map V.str))
  c : H cl = some (.lst (T3.map V.str))
  a1 : 1 ≤ T1.length
  a2 : T1.length ≤ 10
  b2 : T2.length ≤ 10
  c1 : 1 ≤ T3.length
  c2 : T3.length ≤ 10
  an : ∀ t ∈ T1, Nm t
  bn : ∀ t ∈ T2, Nm t
  cn : ∀ t ∈ T3, Nm t
theorem Nms.kp {H H' : Hp} {nm lt cl : Addr} {T1 T2 T3 : List Str} (h : Nms H nm lt cl T1 T2 T3) (k : Kp H H') : Nms H' nm lt cl T1 T2 T3 :=
  ⟨k _ _ h.a (fun _ z => by cases z), k _ _ h.b (fun _ z => by cases z), k _ _ h.c (fun _ z => by cases z), h.a1, h.a2, h.b2, h.c1, h.c2, h.an, h.bn, h.cn⟩
theorem world_ne {H : Hp} {d wd l nm lt cl : Addr} {ns : List Int} {n : Nat} {r : Int} (F : Feed H d l ns n) (W : H wd = some (.dK (worldKV nm lt cl r))) : wd ≠ d := by
  obtain ⟨⟨z, sb, hd⟩, _, _⟩ := F
  refine ne_of W hd (fun q => ?_)
  injection q with q
  have := congrArg (fun l : List (Key × V) => l.map (·.1)) q
  have h0 := congrArg List.head? this
  simp only [worldKV, feedKV, List.map_cons, List.head?_cons] at h0
  have h1 := Option.some.inj h0
  injection h1 with h1
  exact absurd h1 (by decide +kernel)
theorem nm_lf {t : Str} (h : Nm t) : lfV (.str t) = true := by
  show (decide (t.length ≤ 16) && t.cps.toList.all fun c => decide (c < 16 ^ 8)) = true
  rw [Bool.and_eq_true]
  refine ⟨decide_eq_true (by have := h.1.2; omega), List.all_eq_true.mpr fun c hc => decide_eq_true ?_⟩
  have := h.2 c hc
  omega
theorem nm_small {t : Str} (h : Nm t) : smallV (.str t) = true := by
  show decide (t.length ≤ 1000) = true
  exact decide_eq_true (by have := h.1.2; omega)
/-- a node of its own: a word that is no let, perhaps a thing behind it -/
def LeafT (t : Th) : Prop := OkN 1 t ∧ lf t = true ∧ Th.sz t ≤ 3
theorem leaf1 {w : Str} (hw : lfV (.str w) = true) (hn : ¬ (w = "let" ∨ w = "name" ∨ w = "set")) : LeafT (.tup [.at (.str w)]) :=
  ⟨⟨w, [], rfl, fun z => absurd (Or.inl z) hn, fun z => absurd z hn, fun x hx => (by cases hx), fun x hx => by cases hx⟩, by simp only [lf, lfs, hw, Bool.and_true], by simp [Th.sz, szs]⟩
theorem leaf2 {w : Str} {v : V} (hw : lfV (.str w) = true) (hv : lfV v = true) (hn : w ≠ "let") (hs : w = "let" ∨ w = "name" ∨ w = "set" → ∃ x, v = .str x) : LeafT (.tup [.at (.str w), .at v]) := by
  refine ⟨⟨w, [.at v], rfl, fun z => absurd z hn, fun z => ?_, fun x hx => ?_, fun x hx h => ?_⟩, by simp only [lf, lfs, hw, hv, Bool.and_true], by simp [Th.sz, szs]⟩
  · obtain ⟨x, rfl⟩ := hs z
    exact ⟨x, [], rfl⟩
  · rw [List.mem_singleton] at hx
    exact .inr ⟨v, hx⟩
  · rw [List.mem_singleton] at hx
    subst hx
    cases h
def spLeaf : Sp := fun vs H Q _ => ∃ (d l wd nm lt cl bd : Addr) (ns : List Int) (n : Nat) (r : Int) (T1 T2 T3 bs : List Str), vs = [.ref d, .ref wd, .ref bd] ∧ Feed H d l ns n ∧ n ≤ 700000000000 ∧ H wd = some (.dK (worldKV nm lt cl r)) ∧ Nms H nm lt cl T1 T2 T3 ∧
  H bd = some (.lst (bs.map V.str)) ∧ bs.length ≤ 100 ∧ (∀ t ∈ bs, Nm t) ∧
  ∀ (v : V) (t : Th) n' H', IsTh H' v t → LeafT t → n' ≤ n + 4 → Feed H' d l ns n' → But d H H' → Q v H'
section
variable {P : Program} {w : World} {K : PySem.W.Frag} {mg : Str → Option Value} {base : Heap}
theorem scNames : FnScope ["_law_feed_here", "_law_many", "_law_names_here", "_law_k"] ["_law_feed_here", "_law_many"] (defScope sNames) := ⟨rfl, rfl, rfl, by decide +kernel, rfl, by decide +kernel, by decide +kernel⟩
theorem ok_names {f fN fD fS fO fW : Addr} {fd dN dD dS dO dW : FuncData} (F : Fun K "_law_names" "_law_names" sNames f fd) (U : Dr K mg fD fS fO fW dD dS dO dW) (FN : Fun K "_law_name" "_law_name" sLawName fN dN) (bN : Binds K dN ["_law_feed_here", "_law_taken"] []) (mN : mg "_law_name" = some (.ref fN)) :
    FnOk P w K mg base CX0 4 f fd ["_law_feed_here", "_law_many"] spNames := by
  have GN : FnOk P w K mg base CX0 3 fN dN ["_law_feed_here", "_law_taken"] spLawName := ok_name FN U
  refine F.ok scNames (fun vs H Q E h => ?_) (fun cdv A outer s H vs Q E hr h => ?_)
  · obtain ⟨d, l, ns, n, m, rfl, _⟩ := h
    rfl
  · obtain ⟨d, l, ns, n, m, rfl, F0, hn, hm, k⟩ := h
    have hsz : sizeLine = 16777216 := sizeLine_eq
    have hr3 : Room 3 _ := hr.mono (by decide)
    refine' ⟨?tt, ?body, ?fin⟩
    case body =>
      refine' pss_cons ?s1 (pss_cons ?s2 (pss_one ?s3))
      case s1 => exact ps_set (i := 2) scNames.nd rfl (Or.inl rfl) (pe_lst pa_nil)
      case s2 =>
        refine' ps_for PassesOwn.never rfl (pi_range1 (by rfl) U.T.range (pa_n (pv 1) pa_nil)) (pg_name (i := 3) scNames.nd rfl (Or.inl rfl)) (pss_one ?b)
        case b => exact ps_expr (pe_bm PySem.F.plainAttrs_list PySem.F.slot_list_append PySem.F.type_list_append mt_append (pv 2) (pa_c (pe_call GN hr3 (by rfl) mN FN.kp bN .nil pass0 (pa_n (pv 0) (pa_n (pv 2) pa_nil))) pa_nil))
      case s3 => exact ps_ret (pv 2)
    case fin =>
      refine ⟨Nat.zero_le _, fun nm hnm => ?_⟩
      have s0 := same_upd (o := .lst []) hnm
      refine ⟨_, rfl, (m : Int), rfl, by omega, by omega, for_range (lo := 0) (n := ((m : Int)).toNat) (fun i σ H' => ∃ (ts : List Str) (n' : Nat) (o : Option V), σ = [some (.ref d), some (.int m), some (.ref nm), o] ∧ H' nm = some (.lst (ts.map V.str)) ∧ ts.length = i ∧ (∀ t ∈ ts, Nm t) ∧ n' ≤ n + 8 * i ∧ Feed H' d l ns n' ∧ But d H H')
        ⟨[], n, none, rfl, upd_same, rfl, (fun t ht => by cases ht), by omega, F0.same s0, But.of s0⟩ ?_ ?_⟩
      · rintro i σ H1 hi ⟨ts, n1, o, rfl, L1, hl, hall, hn1, F1, B1⟩
        refine ⟨_, rfl, .inl ⟨rfl, _, SqL.of L1⟩, _, rfl, _, rfl, d, l, nm, ns, n1, ts, rfl, F1, by omega, L1, by omega, hall, fun t n2 H2 ht _ _ hn2 F2 B2 => ?_⟩
        have L2 := F1.lst B2 L1
        refine ⟨nm, ts.map V.str, .str t, rfl, rfl, L2, by rw [List.length_map]; omega, ?_⟩
        refine ⟨ts ++ [t], n2, _, rfl, by rw [upd_same, List.map_append]; rfl, by rw [List.length_append, hl]; rfl, fun u hu => ?_, by omega, ?_, ?_⟩
        · rcases List.mem_append.mp hu with z | z
          · exact hall u z
          · rw [List.mem_singleton] at z; subst z; exact ht
        · obtain ⟨⟨z, sb, hd⟩, hls, hz⟩ := id F2
          have hnd : nm ≠ d := ne_of L2 hd (by intro q; cases q)
          have hnl : nm ≠ l := fun q => by
            have h0 := F0.ls
            rw [← q, hnm] at h0
            cases h0
          exact ⟨⟨z, sb, by rw [upd_ne hnd.symm]; exact hd⟩, by rw [upd_ne hnl.symm]; exact hls, hz⟩
        · intro b ob e hb
          rw [upd_ne (ne_of_none e hnm)]
          exact B2 b ob (B1 b ob e hb) hb
      · rintro σ H1 ⟨ts, n1, o, rfl, L1, hl, hall, hn1, F1, B1⟩
        have em : ((m : Int)).toNat = m := Int.toNat_natCast m
        rw [em] at hl hn1
        exact ⟨_, rfl, k nm ts n1 H1 L1 hl hall hn1 F1 hnm B1⟩
theorem scLeaf : FnScope ["_law_feed_here", "_law_world_here", "_law_bound", "_law_way"] ["_law_feed_here", "_law_world_here", "_law_bound"] (defScope sLeaf) := ⟨rfl, rfl, rfl, by decide +kernel, rfl, by decide +kernel, by decide +kernel⟩
theorem ok_leaf {f fV fD fS fO fW : Addr} {fd dV dD dS dO dW : FuncData} (F : Fun K "_law_leaf" "_law_leaf" sLeaf f fd) (U : Dr K mg fD fS fO fW dD dS dO dW) (FV : Fun K "_law_value" "_law_value" sLawValue fV dV) (bV : Binds K dV ["_law_feed_here"] []) (mV : mg "_law_value" = some (.ref fV)) :
    FnOk P w K mg base CX0 3 f fd ["_law_feed_here", "_law_world_here", "_law_bound"] spLeaf := by
  have GD : FnOk P w K mg base CX0 1 fD dD ["_law_feed_here", "_law_many"] spDraw := ok_draw U.D U.T
  have GO : FnOk P w K mg base CX0 2 fO dO ["_law_feed_here", "_law_some"] spOne := ok_one U.O U
  have GV : FnOk P w K mg base CX0 2 fV dV ["_law_feed_here"] spValue := ok_value FV U
  refine F.ok scLeaf (fun vs H Q E h => ?_) (fun cdv A outer s H vs Q E hr h => ?_)
  · obtain ⟨d, l, wd, nm, lt, cl, bd, ns, n, r, T1, T2, T3, bs, rfl, _⟩ := h
    rfl
  · obtain ⟨d, l, wd, nm, lt, cl, bd, ns, n, r, T1, T2, T3, bs, rfl, F0, hn, W0, N0, B0, hbl, hbn, k⟩ := h
    have hsz : sizeLine = 16777216 := sizeLine_eq
    have hu := hu_of hr
    have hr1 : Room 1 _ := hr.mono (by decide)
    have hr2 : Room 2 _ := hr.mono (by decide)
    refine' ⟨?tt, ?body, ?fin⟩
    case body =>
      refine' pss_cons ?s1 ?r1
      case s1 => exact ps_set (i := 3) scLeaf.nd rfl (Or.inl rfl) (pe_call GD hr1 (by rfl) U.mD U.D.kp U.bD .nil pass0 (pa_n (pv 0) (pa_k pe_int pa_nil)))
      case r1 =>
        refine' pss_cons ?s2 ?r2
        case s2 => exact ps_if (pt_cmpR op_eq (pv 3) pe_int (nomark _)) (pss_one (ps_ret (pe_tup (pa_k pe_str pa_nil)))) pss_nil
        case r2 =>
          refine' pss_cons ?s3 ?r3
          case s3 => exact ps_if (pt_cmpR op_eq (pv 3) pe_int (nomark _)) (pss_one (ps_ret (pe_tup (pa_k pe_str (pa_c (pe_call GV hr2 (by rfl) mV FV.kp bV .nil pass0 (pa_n (pv 0) pa_nil)) pa_nil))))) pss_nil
          case r3 =>
            refine' pss_cons ?s4 ?r4
            case s4 => exact ps_if (pt_cmpR op_eq (pv 3) pe_int (nomark _)) (pss_one (ps_ret (pe_tup (pa_k pe_str (pa_c (pe_call GO hr2 (by rfl) U.mO U.O.kp U.bO .nil pass0 (pa_n (pv 0) (pa_cons (pe_dget hu (pv 1) pe_str (fun _ _ => rfl)) pa_nil))) pa_nil))))) pss_nil
            case r4 =>
              refine' pss_one ?s5
              case s5 => exact ps_ret (pe_tup (pa_k pe_str (pa_c (pe_call GO hr2 (by rfl) U.mO U.O.kp U.bO .nil pass0 (pa_n (pv 0) (pa_cons (pe_op op_cat (pe_op op_cat (pe_dget hu (pv 1) pe_str (fun _ _ => rfl)) (pv 2)) (pv 2)) pa_nil))) pa_nil)))
    case fin =>
      have hne := world_ne F0 W0
      refine ⟨_, rfl, d, l, ns, n, _, rfl, F0, by omega, by decide, by decide, fun way n1 H1 w0 w1 hn1 F1 b1 => ?_⟩
      have W1 := b1 wd _ W0 hne
      have N1 := N0.kp (b1.kp F0)
      have B1 := F0.lst b1 B0
      refine ⟨_, rfl, rfl, _, rfl, ite2 (fun _ => ?_) (fun _ => ?_)⟩
      · refine ⟨(by show 1 ≤ sizeLine; decide), fun p hp => ?_⟩
        exact k (.ref p) (.tup [.at (.str "take")]) n1 _ (.tup upd_same (.cons (.at (by decide +kernel)) .nil)) (leaf1 (by decide +kernel) (by decide +kernel)) (by omega) (F1.same (same_upd hp)) (b1.trans (But.of (same_upd hp)))
      · refine ⟨_, rfl, rfl, _, rfl, ite2 (fun _ => ?_) (fun _ => ?_)⟩
        · refine ⟨_, rfl, d, l, ns, n1, rfl, F1, by omega, fun i n2 H2 i0 i1 hn2 F2 b2 => ⟨(by show 2 ≤ sizeLine; decide), fun p hp => ?_⟩⟩
          exact k (.ref p) (.tup [.at (.str "num"), .at (.int i)]) n2 _ (.tup upd_same (.cons (.at (by decide +kernel)) (.cons (.at rfl) .nil))) (leaf2 (by decide +kernel) (decide_eq_true (by omega)) (by decide +kernel) (fun z => absurd z (by decide +kernel))) (by omega) (F2.same (same_upd hp)) ((b1.trans b2).trans (But.of (same_upd hp)))
        · refine ⟨_, rfl, rfl, _, rfl, ite2 (fun _ => ?_) (fun _ => ?_)⟩
          · refine ⟨_, rfl, _, rfl, wd, .ref cl, rfl, wget_calls W1, d, l, cl, ns, n1, T3.map V.str, rfl, F1, by omega, N1.c, by rw [List.length_map]; exact N1.c1, by rw [List.length_map]; have := N1.c2; omega, fun v n2 H2 hv hn2 F2 b2 => ⟨(by show 2 ≤ sizeLine; decide), fun p hp => ?_⟩⟩
            obtain ⟨x, hx, rfl⟩ := List.mem_map.mp hv
            have hN := N1.cn x hx
            exact k (.ref p) (.tup [.at (.str "call"), .at (.str x)]) n2 _ (.tup upd_same (.cons (.at (by decide +kernel)) (.cons (.at (nm_small hN)) .nil))) (leaf2 (by decide +kernel) (nm_lf hN) (by decide +kernel) (fun _ => ⟨x, rfl⟩)) (by omega) (F2.same (same_upd hp)) ((b1.trans b2).trans (But.of (same_upd hp)))
          · refine ⟨_, rfl, _, rfl, wd, .ref nm, rfl, wget_names W1, _, rfl, nm, bd, T1.map V.str, bs.map V.str, rfl, rfl, N1.a, B1, by rw [List.length_map, List.length_map]; have := N1.a2; omega, fun c1 hc1 => ?_⟩
            have sc1 := same_upd (o := .lst (T1.map V.str ++ bs.map V.str)) hc1
            refine ⟨_, rfl, c1, bd, T1.map V.str ++ bs.map V.str, bs.map V.str, rfl, rfl, upd_same, sc1 _ _ B1, by rw [List.length_append, List.length_map, List.length_map]; have := N1.a2; omega, fun c2 hc2 => ?_⟩
            have sc2 := same_upd (o := .lst (T1.map V.str ++ bs.map V.str ++ bs.map V.str)) hc2
            refine ⟨d, l, c2, ns, n1, _, rfl, (F1.same sc1).same sc2, by omega, upd_same, ?_, ?_, fun v n2 H2 hv hn2 F2 b2 => ⟨(by show 2 ≤ sizeLine; decide), fun p hp => ?_⟩⟩
            · rw [List.length_append, List.length_append, List.length_map]; have := N1.a1; omega
            · rw [List.length_append, List.length_append, List.length_map, List.length_map]; have := N1.a2; omega
            · have hN : ∃ x, v = .str x ∧ Nm x := by
                rcases List.mem_append.mp hv with z | z
                · rcases List.mem_append.mp z with z | z
                  · obtain ⟨x, hx, rfl⟩ := List.mem_map.mp z; exact ⟨x, rfl, N1.an x hx⟩
                  · obtain ⟨x, hx, rfl⟩ := List.mem_map.mp z; exact ⟨x, rfl, hbn x hx⟩
                · obtain ⟨x, hx, rfl⟩ := List.mem_map.mp z; exact ⟨x, rfl, hbn x hx⟩
              obtain ⟨x, rfl, hN⟩ := hN
              exact k (.ref p) (.tup [.at (.str "name"), .at (.str x)]) n2 _ (.tup upd_same (.cons (.at (by decide +kernel)) (.cons (.at (nm_small hN)) .nil))) (leaf2 (by decide +kernel) (nm_lf hN) (by decide +kernel) (fun _ => ⟨x, rfl⟩)) (by omega) (F2.same (same_upd hp)) ((b1.trans ((But.of (sc1.trans sc2)).trans b2)).trans (But.of (same_upd hp)))
end
end K04

set_option Elab.async false
set_option linter.all false
set_option maxRecDepth 100000
set_option maxHeartbeats 4000000
namespace K04
open PySem L2
/-- all but these two stays -/
def But2 (d e : Addr) (H H' : Hp) : Prop := ∀ b o, H b = some o → b ≠ d → b ≠ e → H' b = some o
theorem But2.refl (d e : Addr) (H : Hp) : But2 d e H H := fun _ _ h _ _ => h
theorem But2.trans {d e : Addr} {H H1 H2 : Hp} (a : But2 d e H H1) (b : But2 d e H1 H2) : But2 d e H H2 := fun c o h n m => b c o (a c o h n m) n m
theorem But2.of {d e : Addr} {H H1 : Hp} (a : But d H H1) : But2 d e H H1 := fun c o h n _ => a c o h n
theorem But2.same {d e : Addr} {H H1 : Hp} (a : Same H H1) : But2 d e H H1 := fun c o h _ _ => a c o h
theorem But2.upd {d e : Addr} {H : Hp} {o : HO} : But2 d e H (upd H e o) := fun c u h _ n => by rw [upd_ne n]; exact h
theorem But2.kp {d e l : Addr} {ns : List Int} {n : Nat} {kvs : List (Key × V)} {H H' : Hp} (b : But2 d e H H') (F : Feed H d l ns n) (W : H e = some (.dK kvs)) : Kp H H' := by
  obtain ⟨⟨z, sb, hd⟩, _, _⟩ := F
  intro a o h hk
  exact b a o h (fun q => by subst q; rw [hd] at h; cases h; exact hk _ rfl) (fun q => by subst q; rw [W] at h; cases h; exact hk _ rfl)
theorem Feed.world {H : Hp} {d wd l nm lt cl : Addr} {ns : List Int} {n : Nat} {r q : Int} (F : Feed H d l ns n) (W : H wd = some (.dK (worldKV nm lt cl r))) : Feed (L2.upd H wd (.dK (worldKV nm lt cl q))) d l ns n := by
  have hne := world_ne F W
  obtain ⟨⟨z, sb, hd⟩, hl, hs⟩ := F
  refine ⟨⟨z, sb, by rw [upd_ne hne.symm]; exact hd⟩, ?_, hs⟩
  rw [upd_ne (ne_of hl W (by intro q; cases q))]
  exact hl
def cD : Nat → Nat
  | 0 => 0
  | N + 1 => 20 + 6 * cD N
def kinds10 : List Str := ["let", "let", "set", "say", "again", "pick", "op", "op", "do", "call"]
def many6 : List (Str × V) := [("let", .int 2), ("set", .int 1), ("say", .int 1), ("again", .int 1), ("pick", .int 3), ("op", .int 2)]
def spExpr (N : Nat) : Sp := fun vs H Q _ => ∃ (d l wd nm lt cl bd : Addr) (ns : List Int) (n : Nat) (r b : Int) (T1 T2 T3 bs : List Str), vs = [.ref d, .ref wd, .ref bd, .int b] ∧ 1 ≤ N ∧ N ≤ 13 ∧ b ≤ N ∧ Feed H d l ns n ∧ n + cD N ≤ 600000000000 ∧
  H wd = some (.dK (worldKV nm lt cl r)) ∧ 0 ≤ r ∧ r ≤ 1000 ∧ Nms H nm lt cl T1 T2 T3 ∧ H bd = some (.lst (bs.map V.str)) ∧ bs.length + N ≤ 40 ∧ (∀ t ∈ bs, Nm t) ∧
  ∀ (v : V) (t : Th) (n' : Nat) (r' : Int) H', IsTh H' v t → OkN N t → lf t = true → (Th.sz t : Int) ≤ 8 * (1 + (r - r')) → 0 ≤ r' → r' ≤ r → n' ≤ n + cD N → Feed H' d l ns n' → H' wd = some (.dK (worldKV nm lt cl r')) → But2 d wd H H' → Q v H'
/-- what stands between two statements -/
structure Ctx (H H' : Hp) (d l wd nm lt cl bd : Addr) (ns : List Int) (n : Nat) (r : Int) (T1 T2 T3 bs : List Str) : Prop where
  F : Feed H' d l ns n
  W : H' wd = some (.dK (worldKV nm lt cl r))
  N : Nms H' nm lt cl T1 T2 T3
  B : H' bd = some (.lst (bs.map V.str))
  b2 : But2 d wd H H'
section
variable {H H1 H2 : Hp} {d l wd nm lt cl bd : Addr} {ns : List Int} {n n2 : Nat} {r r2 : Int} {T1 T2 T3 bs : List Str}
theorem Ctx.draw (C : Ctx H H1 d l wd nm lt cl bd ns n r T1 T2 T3 bs) (b : But d H1 H2) (F2 : Feed H2 d l ns n2) : Ctx H H2 d l wd nm lt cl bd ns n2 r T1 T2 T3 bs :=
  ⟨F2, b wd _ C.W (world_ne C.F C.W), C.N.kp (b.kp C.F), C.F.lst b C.B, C.b2.trans (But2.of b)⟩
theorem Ctx.same (C : Ctx H H1 d l wd nm lt cl bd ns n r T1 T2 T3 bs) (s : Same H1 H2) : Ctx H H2 d l wd nm lt cl bd ns n r T1 T2 T3 bs :=
  ⟨C.F.same s, s _ _ C.W, C.N.kp (Kp.of s), s _ _ C.B, C.b2.trans (But2.same s)⟩
theorem Ctx.go (C : Ctx H H1 d l wd nm lt cl bd ns n r T1 T2 T3 bs) (b : But2 d wd H1 H2) (F2 : Feed H2 d l ns n2) (W2 : H2 wd = some (.dK (worldKV nm lt cl r2))) : Ctx H H2 d l wd nm lt cl bd ns n2 r2 T1 T2 T3 bs :=
  ⟨F2, W2, C.N.kp (b.kp C.F C.W), b.kp C.F C.W _ _ C.B (fun _ z => by cases z), C.b2.trans b⟩
theorem Ctx.room (C : Ctx H H1 d l wd nm lt cl bd ns n r T1 T2 T3 bs) : Ctx H (upd H1 wd (.dK (worldKV nm lt cl r2))) d l wd nm lt cl bd ns n r2 T1 T2 T3 bs :=
  C.go But2.upd (C.F.world C.W) upd_same
end
theorem Ctx.put {H H1 : Hp} {d l wd nm lt cl bd hd : Addr} {ns : List Int} {n : Nat} {r : Int} {T1 T2 T3 bs : List Str} {xs ys : List V} (C : Ctx H H1 d l wd nm lt cl bd ns n r T1 T2 T3 bs) (D : H1 hd = some (.lst xs)) (x2 : hd ≠ bd) (x3 : hd ≠ l) (x4 : hd ≠ nm) (x5 : hd ≠ lt) (x6 : hd ≠ cl) (x0 : H hd = none) :
    Ctx H (upd H1 hd (.lst ys)) d l wd nm lt cl bd ns n r T1 T2 T3 bs := by
  obtain ⟨⟨⟨z, sb, hd'⟩, hls, hz⟩, W, N, B, b2⟩ := C
  have h1 : hd ≠ d := ne_of D hd' (by intro q; cases q)
  have h2 : hd ≠ wd := ne_of D W (by intro q; cases q)
  refine ⟨⟨⟨z, sb, by rw [upd_ne h1.symm]; exact hd'⟩, by rw [upd_ne x3.symm]; exact hls, hz⟩, by rw [upd_ne h2.symm]; exact W, ⟨by rw [upd_ne x4.symm]; exact N.a, by rw [upd_ne x5.symm]; exact N.b, by rw [upd_ne x6.symm]; exact N.c, N.a1, N.a2, N.b2, N.c1, N.c2, N.an, N.bn, N.cn⟩, by rw [upd_ne x2.symm]; exact B, fun c o e n1 n2 => ?_⟩
  rw [upd_ne (ne_of_none e x0)]
  exact b2 c o e n1 n2
theorem many_of {wo : Str} (h : wo ∈ kinds10) {q : Int} (q0 : 1 ≤ q) (q1 : q ≤ 6) : ∃ mn : Int, (valV (mergeK [] (keyed many6)) (Sum.inr wo)).getD (.int q) = .int mn ∧ 1 ≤ mn ∧ mn ≤ 6 ∧ (wo = "let" → mn = 2) := by
  have hl : ∀ {x : Str}, x ≠ "let" → ∀ {p : Prop}, x = "let" → p := fun h p z => absurd z h
  simp only [kinds10, List.mem_cons, List.not_mem_nil, or_false] at h
  rcases h with rfl | rfl | rfl | rfl | rfl | rfl | rfl | rfl | rfl | rfl
  · exact ⟨2, by with_unfolding_all rfl, by decide, by decide, fun _ => rfl⟩
  · exact ⟨2, by with_unfolding_all rfl, by decide, by decide, fun _ => rfl⟩
  · exact ⟨1, by with_unfolding_all rfl, by decide, by decide, hl (by decide +kernel)⟩
  · exact ⟨1, by with_unfolding_all rfl, by decide, by decide, hl (by decide +kernel)⟩
  · exact ⟨1, by with_unfolding_all rfl, by decide, by decide, hl (by decide +kernel)⟩
  · exact ⟨3, by with_unfolding_all rfl, by decide, by decide, hl (by decide +kernel)⟩
  · exact ⟨2, by with_unfolding_all rfl, by decide, by decide, hl (by decide +kernel)⟩
  · exact ⟨2, by with_unfolding_all rfl, by decide, by decide, hl (by decide +kernel)⟩
  · exact ⟨q, by with_unfolding_all rfl, q0, q1, hl (by decide +kernel)⟩
  · exact ⟨q, by with_unfolding_all rfl, q0, q1, hl (by decide +kernel)⟩
theorem kinds_lf : ∀ wo ∈ kinds10, lfV (.str wo) = true ∧ smallV (.str wo) = true := by decide +kernel
abbrev signs6 : Str := "+-*/<="
theorem signs_lt : ∀ c ∈ signs6.cps.toList, c < 200 := by decide +kernel
theorem ok_tup {n : Nat} {t : Th} (h : OkN n t) : isTup t = true := by
  cases n with
  | zero => exact h.elim
  | succ n => obtain ⟨w, ts, rfl, _⟩ := h; rfl
/-- a node out of a head and its parts -/
theorem node_ok {N : Nat} {wo : Str} {own : List V} {ks : List Th} (hw : wo ≠ "let") (hs : wo = "name" ∨ wo = "set" → ∃ x r, own = .str x :: r) (hk : ∀ k ∈ ks, OkN N k) : OkN (N + 1) (.tup (.at (.str wo) :: (own.map Th.at ++ ks))) := by
  refine ⟨wo, _, rfl, fun z => absurd z hw, fun z => ?_, fun x hx => ?_, fun x hx hx2 => ?_⟩
  · obtain ⟨x, r, e⟩ := hs (z.resolve_left hw)
    rw [e]
    exact ⟨x, _, rfl⟩
  · rcases List.mem_append.mp hx with z | z
    · obtain ⟨v, _, rfl⟩ := List.mem_map.mp z; exact .inr ⟨v, rfl⟩
    · exact .inl (ok_tup (hk x z))
  · rcases List.mem_append.mp hx with z | z
    · obtain ⟨v, _, rfl⟩ := List.mem_map.mp z; cases hx2
    · exact hk x z
theorem kinds_nn : ∀ w ∈ kinds10, w ≠ "name" := by decide +kernel
theorem node_lf {wo : Str} {own : List V} {ks : List Th} (h1 : lfV (.str wo) = true) (h2 : ∀ v ∈ own, lfV v = true ∧ smallV v = true) (h3 : ∀ k ∈ ks, lf k = true) : lf (.tup (.at (.str wo) :: (own.map Th.at ++ ks))) = true := by
  rw [lf, lfs, Bool.and_eq_true, lfs_all]
  refine ⟨by rw [lf]; exact h1, fun x hx => ?_⟩
  rcases List.mem_append.mp hx with z | z
  · obtain ⟨v, hv, rfl⟩ := List.mem_map.mp z; rw [lf]; exact (h2 v hv).1
  · exact h3 x z
theorem szs_at (own : List V) : szs (own.map Th.at) = own.length := by
  induction own with
  | nil => rfl
  | cons v own ih => rw [List.map_cons, szs, ih, Th.sz, List.length_cons]; omega
theorem ths_own {H : Hp} : ∀ {own : List V}, (∀ v ∈ own, lfV v = true ∧ smallV v = true) → IsThs H own (own.map Th.at)
  | [], _ => .nil
  | v :: own, h => .cons (.at (h v (List.mem_cons_self ..)).2) (ths_own fun u hu => h u (List.mem_cons_of_mem _ hu))
theorem nd_bn : (["_law_bound", "_law_name_here"] : List Str).Nodup := by decide +kernel
theorem nd_fwbdk : (["_law_feed_here", "_law_world_here", "_law_bound", "_law_depth", "_law_k"] : List Str).Nodup := by decide +kernel
section
variable {P : Program} {w : World} {K : PySem.W.Frag} {mg : Str → Option Value} {base : Heap}
theorem scExpr : FnScope ["_law_feed_here", "_law_world_here", "_law_bound", "_law_depth", "_law_words_here", "_law_word", "_law_free", "_law_many", "_law_head", "_law_name_here", "_law_first"] ["_law_feed_here", "_law_world_here", "_law_bound", "_law_depth"] (defScope sExpr) := ⟨rfl, rfl, rfl, by decide +kernel, rfl, by decide +kernel, by decide +kernel⟩
theorem ok_expr {f fL fV fD fS fO fW : Addr} {fd dL dV dD dS dO dW : FuncData} (F : Fun K "_law_expr" "_law_expr" sExpr f fd) (b : Binds K fd ["_law_feed_here", "_law_world_here", "_law_bound", "_law_depth"] []) (m : mg "_law_expr" = some (.ref f)) (U : Dr K mg fD fS fO fW dD dS dO dW) (htup : mg "tuple" = none)
    (FV : Fun K "_law_value" "_law_value" sLawValue fV dV) (bV : Binds K dV ["_law_feed_here"] []) (mV : mg "_law_value" = some (.ref fV)) (FL : Fun K "_law_leaf" "_law_leaf" sLeaf fL dL) (bL : Binds K dL ["_law_feed_here", "_law_world_here", "_law_bound"] []) (mL : mg "_law_leaf" = some (.ref fL)) :
    ∀ N, FnOk P w K mg base CX0 (N + 4) f fd ["_law_feed_here", "_law_world_here", "_law_bound", "_law_depth"] (spExpr N) := by
  have GD : FnOk P w K mg base CX0 1 fD dD ["_law_feed_here", "_law_many"] spDraw := ok_draw U.D U.T
  have GO : FnOk P w K mg base CX0 2 fO dO ["_law_feed_here", "_law_some"] spOne := ok_one U.O U
  have GL : FnOk P w K mg base CX0 3 fL dL ["_law_feed_here", "_law_world_here", "_law_bound"] spLeaf := ok_leaf FL U FV bV mV
  intro N
  induction N with
  | zero =>
    refine F.ok scExpr (fun vs H Q E h => ?_) (fun cdv A outer s H vs Q E hr h => ?_)
    · obtain ⟨d, l, wd, nm, lt, cl, bd, ns, n, r, b, T1, T2, T3, bs, rfl, _⟩ := h
      rfl
    · obtain ⟨d, l, wd, nm, lt, cl, bd, ns, n, r, b, T1, T2, T3, bs, rfl, h, _⟩ := h
      exact absurd h (by decide)
  | succ N ih =>
    refine F.ok scExpr (fun vs H Q E h => ?_) (fun cdv A outer s H vs Q E hr h => ?_)
    · obtain ⟨d, l, wd, nm, lt, cl, bd, ns, n, r, b, T1, T2, T3, bs, rfl, _⟩ := h
      rfl
    · obtain ⟨d, l, wd, nm, lt, cl, bd, ns, n, r, bb, T1, T2, T3, bs, rfl, _, hN13, hb, F0, hn, W0, hr0, hr1000, N0, B0, hbl, hbn, k⟩ := h
      have hsz : sizeLine = 16777216 := sizeLine_eq
      have hu := hu_of hr
      have hu0 := hr.units0
      have hr1 : Room 1 _ := hr.mono (by omega)
      have hr2 : Room 2 _ := hr.mono (by omega)
      have hr3 : Room 3 _ := hr.mono (by omega)
      have ec : cD (N + 1) = 20 + 6 * cD N := rfl
      refine' ⟨?tt, ?body, ?fin⟩
      case body =>
        refine' pss_cons ?s1 ?r1
        case s1 =>
          refine' ps_set9 (i := 4) ?ha ?hb ?hc ?hd ?he ?hf
          case ha => exact scExpr.nd
          case hb => exact rfl
          case hc => exact (Or.inl rfl)
          case he => exact rfl
          case hf => exact (.inr rfl)
          case hd =>
            refine' @pe_consts ((cxOf CX0 P w K mg base ["_law_feed_here", "_law_world_here", "_law_bound", "_law_depth", "_law_words_here", "_law_word", "_law_free", "_law_many", "_law_head", "_law_name_here", "_law_first"] "_law_expr" (defScope sExpr) f cdv A outer s H E).nox) _ (kinds10.map V.str) ?q
            case q => decide +kernel
        case r1 =>
          refine' pss_cut ?s2 ?r2
          case s2 => exact ps_set (i := 5) scExpr.nd rfl (Or.inl rfl) (pe_ix ix_list (pv 4) (pe_call GD hr1 (by rfl) U.mD U.D.kp U.bD .nil pass0 (pa_n (pv 0) (pa_k pe_int pa_nil))) (fun _ _ => rfl))
          case r2 =>
            refine' pss_cut ?s3 ?r3
            case s3 =>
              refine' ps_setComp (i := 6) (N' := ["_law_bound", "_law_name_here"]) (src := [some 2, none]) ?k1 ?k2 ?k3 ?k4 ?k5 ?k6 ?k7
              case k1 => rfl
              case k2 => exact scExpr.nd
              case k3 => rfl
              case k4 => exact Or.inl rfl
              case k5 => exact compScope_of (defScope sExpr) rfl ["_law_feed_here", "_law_world_here", "_law_bound", "_law_depth", "_law_words_here", "_law_word", "_law_free", "_law_many", "_law_head", "_law_name_here", "_law_first"] rfl (by decide +kernel)
              case k6 => exact pi_list (pe_dget hu (pv 1) pe_str (fun _ _ => rfl))
              case k7 => exact fun cl C ex s0 H0 => ⟨pg_name (i := 1) nd_bn rfl (Or.inl rfl), pts_one (pt_cmpR (op_notin_seqK (K := K) rfl) (pv 1) (pv 0) (by with_unfolding_all rfl)), pv 1⟩
            case r3 =>
              refine' pss_cut ?s4 ?r4
              case s4 =>
                refine' ps_if ?c (pss_one ?e) pss_nil
                case c => exact (pw_and (pt_cmpR op_eq (pv 5) pe_str (nomark _)) (pw_and1 (pt_cmpR (op_eq_list hu0) (pv 6) (pe_lst pa_nil) (nomark _)))).pt
                case e => exact ps_set (i := 5) scExpr.nd rfl (Or.inl rfl) pe_str
              case r4 =>
                refine' pss_cons ?s5 ?r5
                case s5 => exact ps_set (i := 7) scExpr.nd rfl (Or.inl rfl) (pe_op op_add pe_int (pe_call GD hr1 (by rfl) U.mD U.D.kp U.bD .nil pass0 (pa_n (pv 0) (pa_k pe_int pa_nil))))
                case r5 =>
                  refine' pss_cut ?s6 ?r6
                  case s6 =>
                    refine' ps_set9 (i := 7) ?ha ?hb ?hc ?hd ?he ?hf
                    case ha => exact scExpr.nd
                    case hb => exact rfl
                    case hc => exact (Or.inl rfl)
                    case he => exact rfl
                    case hf => exact (.inr rfl)
                    case hd =>
                      refine' @pe_dget2 ((cxOf CX0 P w K mg base ["_law_feed_here", "_law_world_here", "_law_bound", "_law_depth", "_law_words_here", "_law_word", "_law_free", "_law_many", "_law_head", "_law_name_here", "_law_first"] "_law_expr" (defScope sExpr) f cdv A outer s H E).nox) _ _ _ _ _ _ _ _ hu ?x1 (pv 5) (pv 7) ?x2
                      case x1 =>
                        refine' @pe_dict ((cxOf CX0 P w K mg base ["_law_feed_here", "_law_world_here", "_law_bound", "_law_depth", "_law_words_here", "_law_word", "_law_free", "_law_many", "_law_head", "_law_name_here", "_law_first"] "_law_expr" (defScope sExpr) f cdv A outer s H E).nox) _ many6 ?q
                        case q => decide +kernel
                      case x2 => exact ⟨rfl, rfl, rfl, rfl⟩
                  case r6 =>
                    refine' pss_cons ?s7 ?r7
                    case s7 =>
                      refine' ps_if ?c (pss_one ?e) pss_nil
                      case c => exact (pw_or (pt_cmpR op_lt (pv 3) pe_int (nomark _)) (pw_or (pt_cmpR op_gt (pv 7) (pe_dget hu (pv 1) pe_str (fun _ _ => rfl)) (nomark _)) (pw_or1 (pt_cmpR op_eq (pe_call GD hr1 (by rfl) U.mD U.D.kp U.bD .nil pass0 (pa_n (pv 0) (pa_k pe_int pa_nil))) pe_int (nomark _))))).pt
                      case e => exact ps_ret (pe_call GL hr3 (by rfl) mL FL.kp bL .nil pass0 (pa_n (pv 0) (pa_n (pv 1) (pa_n (pv 2) pa_nil))))
                    case r7 =>
                      refine' pss_cut ?s8 ?r8
                      case s8 => exact ps_dput hu (pv 1) pe_str (pe_op op_sub (pe_dget hu (pv 1) pe_str (fun _ _ => rfl)) (pv 7)) rfl
                      case r8 =>
                        refine' pss_cut ?s9 ?r9
                        case s9 => exact ps_set (i := 8) scExpr.nd rfl (Or.inl rfl) (pe_lst (pa_n (pv 5) pa_nil))
                        case r9 =>
                          refine' pss_cons ?s10 ?r10
                          case s10 =>
                            refine' ps_if ?c (pss_cons ?e1 (pss_cons ?e2 (pss_one ?e3))) pss_nil
                            case c => exact pt_cmpR op_eq (pv 5) pe_str (nomark _)
                            case e1 => exact ps_set (i := 9) scExpr.nd rfl (Or.inl rfl) (pe_call GO hr2 (by rfl) U.mO U.O.kp U.bO .nil pass0 (pa_n (pv 0) (pa_cons (pe_op op_cat (pe_dget hu (pv 1) pe_str (fun _ _ => rfl)) (pe_dget hu (pv 1) pe_str (fun _ _ => rfl))) pa_nil)))
                            case e2 => exact ps_set (i := 10) scExpr.nd rfl (Or.inl rfl) (pe_call ih hr (by rfl) m F.kp b .nil pass0 (pa_n (pv 0) (pa_n (pv 1) (pa_n (pv 2) (pa_cons (pe_op op_sub (pv 3) pe_int) pa_nil)))))
                            case e3 => exact ps_ret (pe_tup (pa_k pe_str (pa_n (pv 9) (pa_n (pv 10) (pa_c (pe_call ih hr (by rfl) m F.kp b .nil pass0 (pa_n (pv 0) (pa_n (pv 1) (pa_cons (pe_op op_cat (pv 2) (pe_lst (pa_n (pv 9) pa_nil))) (pa_cons (pe_op op_sub (pv 3) pe_int) pa_nil))))) pa_nil)))))
                          case r10 =>
                            refine' pss_cut ?s11 ?r11
                            case s11 => exact ps_if (pt_cmpR op_eq (pv 5) pe_str (nomark _)) (pss_one (ps_expr (pe_bm PySem.F.plainAttrs_list PySem.F.slot_list_append PySem.F.type_list_append mt_append (pv 8) (pa_c (pe_call GO hr2 (by rfl) U.mO U.O.kp U.bO .nil pass0 (pa_n (pv 0) (pa_n (pv 6) pa_nil))) pa_nil)))) pss_nil
                            case r11 =>
                              refine' pss_cut ?s12 ?r12
                              case s12 => exact ps_if (pt_cmpR op_eq (pv 5) pe_str (nomark _)) (pss_one (ps_expr (pe_bm PySem.F.plainAttrs_list PySem.F.slot_list_append PySem.F.type_list_append mt_append (pv 8) (pa_cons (pe_ix ix_str pe_str (pe_call GD hr1 (by rfl) U.mD U.D.kp U.bD .nil pass0 (pa_n (pv 0) (pa_k pe_int pa_nil))) (fun _ _ => rfl)) pa_nil)))) pss_nil
                              case r12 =>
                                refine' pss_cut ?s13 ?r13
                                case s13 => exact ps_if (pt_cmpR op_eq (pv 5) pe_str (nomark _)) (pss_one (ps_expr (pe_bm PySem.F.plainAttrs_list PySem.F.slot_list_append PySem.F.type_list_append mt_append (pv 8) (pa_c (pe_call GO hr2 (by rfl) U.mO U.O.kp U.bO .nil pass0 (pa_n (pv 0) (pa_cons (pe_dget hu (pv 1) pe_str (fun _ _ => rfl)) pa_nil))) pa_nil)))) pss_nil
                                case r13 =>
                                  refine' pss_cut ?s14 ?r14
                                  case s14 => exact ps_if (pt_cmpR op_eq (pv 5) pe_str (nomark _)) (pss_one (ps_expr (pe_bm PySem.F.plainAttrs_list PySem.F.slot_list_append PySem.F.type_list_append mt_append (pv 8) (pa_c (pe_call GD hr1 (by rfl) U.mD U.D.kp U.bD .nil pass0 (pa_n (pv 0) (pa_k pe_int pa_nil))) pa_nil)))) pss_nil
                                  case r14 =>
                                    refine' pss_one ?s15
                                    case s15 =>
                                      refine' ps_ret (pe_callTy call_tuple_of (by rfl) htup (by decide +kernel) (pa_cons (pe_op op_cat (pv 8) ?x) pa_nil))
                                      case x =>
                                        refine' pe_comp (N' := ["_law_feed_here", "_law_world_here", "_law_bound", "_law_depth", "_law_k"]) (src := [some 0, some 1, some 2, some 3, none]) ?k1 ?k5 ?k6 ?k7
                                        case k1 => rfl
                                        case k5 => exact compScope_of (defScope sExpr) rfl ["_law_feed_here", "_law_world_here", "_law_bound", "_law_depth", "_law_words_here", "_law_word", "_law_free", "_law_many", "_law_head", "_law_name_here", "_law_first"] rfl (by decide +kernel)
                                        case k6 => exact pi_range1 (by rfl) U.T.range (pa_n (pv 7) pa_nil)
                                        case k7 => exact fun cl C ex s0 H0 => ⟨pg_name (i := 4) nd_fwbdk rfl (Or.inl rfl), pts_nil, pe_call ih hr (by rfl) m F.kp b .nil pass0 (pa_n (pv 0) (pa_n (pv 1) (pa_n (pv 2) (pa_cons (pe_op op_sub (pv 3) pe_int) pa_nil))))⟩
      case fin =>
        have hne := world_ne F0 W0
        have leafK : ∀ {E' : XK} {H' : Hp} {n' : Nat}, Ctx H H' d l wd nm lt cl bd ns n' r T1 T2 T3 bs → n' ≤ n + 3 → spLeaf [.ref d, .ref wd, .ref bd] H' Q E' := fun {E' H' n'} C hn' =>
          ⟨d, l, wd, nm, lt, cl, bd, ns, n', r, T1, T2, T3, bs, rfl, C.F, by omega, C.W, C.N, C.B, by omega, hbn, fun v t n9 H9 hth hlf hn9 F9 b9 =>
            k v t n9 r H9 hth (OkN.le (n := 1) hlf.1 (by omega)) hlf.2.1 (by have := hlf.2.2; omega) hr0 (Int.le_refl _) (by omega) F9 (b9 wd _ C.W (world_ne C.F C.W)) (C.b2.trans (But2.of b9))⟩
        refine ⟨small_len (by decide +kernel), fun wh hwh => ?_⟩
        have C1 : Ctx H (upd H wh (.lst (kinds10.map V.str))) d l wd nm lt cl bd ns n r T1 T2 T3 bs := Ctx.same ⟨F0, W0, N0, B0, But2.refl _ _ _⟩ (same_upd hwh)
        refine ⟨fun σ' H' => ∃ (wo : Str) (n1 : Nat), σ' = [some (.ref d), some (.ref wd), some (.ref bd), some (.int bb), some (.ref wh), some (.str wo), none, none, none, none, none] ∧ wo ∈ kinds10 ∧ n1 ≤ n + 1 ∧ Ctx H H' d l wd nm lt cl bd ns n1 r T1 T2 T3 bs, ?_, ?_⟩
        · refine ⟨_, rfl, _, rfl, d, l, ns, n, _, rfl, C1.F, by omega, by decide, by decide, fun q n1 H1 q0 q1 hn1 F1 b1 => ?_⟩
          obtain ⟨v, hv, hat⟩ := at_in (xs := kinds10.map V.str) (i := q) q0 (Int.lt_of_lt_of_le q1 (by decide +kernel))
          obtain ⟨wo, hwo, rfl⟩ := List.mem_map.mp hv
          exact ⟨wh, kinds10.map V.str, q, .str wo, rfl, rfl, SqL.of (C1.F.lst b1 upd_same), hat, wo, n1, rfl, hwo, hn1, C1.draw b1 F1⟩
        rintro σ2 H2 ⟨wo, n2, rfl, hwo, hn2, C2⟩
        refine ⟨fun σ' H' => ∃ (fr : Addr) (fs : List Str), σ' = [some (.ref d), some (.ref wd), some (.ref bd), some (.int bb), some (.ref wh), some (.str wo), some (.ref fr), none, none, none, none] ∧ H' fr = some (.lst (fs.map V.str)) ∧ (∀ t ∈ fs, Nm t) ∧ fs.length ≤ 10 ∧ Ctx H H' d l wd nm lt cl bd ns n2 r T1 T2 T3 bs, ?_, ?_⟩
        · refine ⟨_, rfl, wd, .ref nm, rfl, wget_names C2.W, nm, rfl, ⟨_, SqL.of C2.N.a⟩, comp_list (K := K) (a := nm) (xs := T1.map V.str) (fun i ys σc H' => ∃ (o : Option V) (fs : List Str), σc = [some (.ref bd), o] ∧ H' = H2 ∧ ys = fs.map V.str ∧ fs.length ≤ i ∧ ∀ t ∈ fs, Nm t)
            ⟨none, [], rfl, rfl, rfl, Nat.le_refl _, (fun t ht => by cases ht)⟩ (fun i ys σc H' ⟨_, _, _, e, _⟩ => by rw [e]; exact SqL.of C2.N.a) ?_ ?_⟩
          · rintro i x ys σc H' hx hi ⟨o, fs, rfl, rfl, rfl, hfl, hfa⟩
            obtain ⟨t, ht, rfl⟩ := List.mem_map.mp (List.mem_of_getElem? hx)
            have hi' : i < 10 := by
              have := C2.N.a2
              rw [List.length_map] at hi
              omega
            refine ⟨by rw [List.length_map]; omega, ?_⟩
            refine ⟨_, rfl, _, rfl, bd, bs.map V.str, rfl, .inl (SqL.of C2.B), rfl, strs_flat bs, _, rfl, ite2 (fun g => ?_) (fun g => ?_)⟩
            · refine ⟨_, rfl, nx hi ⟨_, fs ++ [t], rfl, rfl, by rw [List.map_append]; rfl, by rw [List.length_append, List.length_singleton]; omega, fun u hu => ?_⟩⟩
              rcases List.mem_append.mp hu with z | z
              · exact hfa u z
              · rw [List.mem_singleton] at z; subst z; exact C2.N.an u ht
            · exact nx hi ⟨_, fs, rfl, rfl, rfl, by omega, hfa⟩
          · rintro ys σc H' ⟨o, fs, rfl, rfl, rfl, hfl, hfa⟩ q hq
            have := C2.N.a2
            rw [List.length_map] at hfl
            exact ⟨q, fs, rfl, upd_same, hfa, by omega, C2.same (same_upd hq)⟩
        rintro σ3 H3 ⟨fr, fs, rfl, S3, hfn, hfl, C3⟩
        refine ⟨fun σ' H' => ∃ (w2 : Str), σ' = [some (.ref d), some (.ref wd), some (.ref bd), some (.int bb), some (.ref wh), some (.str w2), some (.ref fr), none, none, none, none] ∧ w2 ∈ kinds10 ∧ (w2 = "set" → fs ≠ []) ∧ H' fr = some (.lst (fs.map V.str)) ∧ Ctx H H' d l wd nm lt cl bd ns n2 r T1 T2 T3 bs, ?_, ?_⟩
        · refine ⟨_, rfl, rfl, _, rfl, ite2 (fun g => ?_) (fun g => iteF ⟨wo, rfl, hwo, fun z => absurd (by rw [z]; decide +kernel) g, S3, C3⟩)⟩
          refine ⟨_, rfl, Nat.zero_le _, fun e he => ⟨fr, e, fs.map V.str, [], rfl, rfl, SqL.of (same_upd he _ _ S3), SqL.of upd_same, strs_flat fs, rfl, _, rfl, ite2 (fun _ => ?_) (fun g2 => ?_)⟩⟩
          · exact ⟨"say", rfl, by decide +kernel, (fun z => absurd z (by decide +kernel)), same_upd he _ _ S3, C3.same (same_upd he)⟩
          · refine ⟨wo, rfl, hwo, (fun _ z => g2 ?_), same_upd he _ _ S3, C3.same (same_upd he)⟩
            rw [z]; decide
        clear S3 C3 C2 C1 hwo
        rintro σ4 H4 ⟨w2, rfl, hw2, hset, S4, C4⟩
        refine ⟨_, rfl, d, l, ns, n2, _, rfl, C4.F, by omega, by decide, by decide, fun q n5 H5 q0 q1 hn5 F5 b5 => ⟨_, _, rfl, rfl, ?_⟩⟩
        have C5 := C4.draw b5 F5
        have S5 := C4.F.lst b5 S4
        refine ⟨fun σ' H' => ∃ (mn : Int), σ' = [some (.ref d), some (.ref wd), some (.ref bd), some (.int bb), some (.ref wh), some (.str w2), some (.ref fr), some (.int mn), none, none, none] ∧ 1 ≤ mn ∧ mn ≤ 6 ∧ (w2 = "let" → mn = 2) ∧ H' fr = some (.lst (fs.map V.str)) ∧ Ctx H H' d l wd nm lt cl bd ns n5 r T1 T2 T3 bs, ?_, ?_⟩
        · intro p hp
          obtain ⟨mn, e1, e2, e3, e4⟩ := many_of hw2 (q := 1 + q) (by omega) (by omega)
          refine ⟨p, rfl, .inl ⟨_, .inl upd_same⟩, _, rfl, _, rfl, _, DGet.k (k := Sum.inr w2) upd_same, ?_⟩
          have sp := same_upd (o := .dK (mergeK [] (keyed many6))) hp
          refine ⟨mn, ?_, e2, e3, e4, sp _ _ S5, C5.same sp⟩
          show [some (.ref d), some (.ref wd), some (.ref bd), some (.int bb), some (.ref wh), some (.str w2), some (.ref fr), some ((valV (mergeK [] (keyed many6)) (Sum.inr w2)).getD (.int (1 + q))), none, none, none] = _
          rw [e1]
        clear S5 C5 S4 C4 F5 b5
        rintro σ6 H6 ⟨mn, rfl, hm1, hm6, hml, S6, C6⟩
        refine ⟨_, rfl, _, _, rfl, rfl, _, rfl, ite2 (fun _ => iteT ?_) (fun g1 => ?_)⟩
        · exact ⟨_, rfl, _, rfl, _, rfl, leafK (E' := E0) C6 (by omega)⟩
        refine ⟨_, rfl, _, rfl, wd, .int r, rfl, wget_room C6.W, _, _, rfl, rfl, _, rfl, ite2 (fun _ => iteT ?_) (fun g2 => ?_)⟩
        · exact ⟨_, rfl, _, rfl, _, rfl, leafK (E' := E0) C6 (by omega)⟩
        refine ⟨_, rfl, d, l, ns, n5, _, rfl, C6.F, by omega, by decide, by decide, fun q7 n7 H7 q70 q71 hn7 F7 b7 => ⟨rfl, _, rfl, ite2 (fun _ => ?_) (fun _ => ?_)⟩⟩
        · exact ⟨_, rfl, _, rfl, _, rfl, leafK (E' := E0) (C6.draw b7 F7) (by omega)⟩
        have C7 := C6.draw b7 F7
        have S7 := C6.F.lst b7 S6
        have hb2 : 2 ≤ bb := by
          have := of_decide_eq_false (Bool.eq_false_iff.mpr g1)
          omega
        have hmr : mn ≤ r := by
          have := of_decide_eq_false (Bool.eq_false_iff.mpr g2)
          omega
        have hN1 : 1 ≤ N := by omega
        clear C6 S6 F7 b7
        refine ⟨fun σ' H' => σ' = [some (.ref d), some (.ref wd), some (.ref bd), some (.int bb), some (.ref wh), some (.str w2), some (.ref fr), some (.int mn), none, none, none] ∧ H' fr = some (.lst (fs.map V.str)) ∧ Ctx H H' d l wd nm lt cl bd ns n7 (r - mn) T1 T2 T3 bs, ?_, ?_⟩
        · refine ⟨_, rfl, wd, .int r, rfl, wget_room C7.W, _, rfl, _, _, rfl, rfl, _, rfl, wd, _, rfl, wset_room C7.W, ?_⟩
          refine ⟨rfl, ?_, C7.room⟩
          rw [upd_ne (ne_of S7 C7.W (by intro q; cases q))]
          exact S7
        clear S7 C7
        rintro σ8 H8 ⟨rfl, S8, C8⟩
        refine ⟨fun σ' H' => ∃ hd : Addr, σ' = [some (.ref d), some (.ref wd), some (.ref bd), some (.int bb), some (.ref wh), some (.str w2), some (.ref fr), some (.int mn), some (.ref hd), none, none] ∧ H' hd = some (.lst [.str w2]) ∧ H' fr = some (.lst (fs.map V.str)) ∧ hd ≠ fr ∧ hd ≠ bd ∧ hd ≠ l ∧ hd ≠ nm ∧ hd ≠ lt ∧ hd ≠ cl ∧ H hd = none ∧ Ctx H H' d l wd nm lt cl bd ns n7 (r - mn) T1 T2 T3 bs, ?_, ?_⟩
        · refine ⟨_, rfl, (by show 1 ≤ sizeLine; decide), fun hd hhd => ?_⟩
          have sh := same_upd (o := .lst [.str w2]) hhd
          have no : ∀ {a : Addr} {o : HO}, H8 a = some o → hd ≠ a := fun {a o} e z => by rw [← z, hhd] at e; cases e
          refine ⟨hd, rfl, upd_same, sh _ _ S8, no S8, no C8.B, no C8.F.ls, no C8.N.a, no C8.N.b, no C8.N.c, ?_, C8.same sh⟩
          cases e : H hd with
          | none => rfl
          | some o =>
            exfalso
            by_cases h1 : hd = d
            · obtain ⟨⟨z, sb, hd'⟩, _, _⟩ := C8.F
              rw [h1, hd'] at hhd
              cases hhd
            · by_cases h2 : hd = wd
              · rw [h2, C8.W] at hhd; cases hhd
              · rw [C8.b2 hd o e h1 h2] at hhd; cases hhd
        clear S8 C8
        rintro σ9 H9 ⟨hd, rfl, D9, S9, x1, x2, x3, x4, x5, x6, x0, C9⟩
        refine ⟨_, rfl, rfl, _, rfl, ite2 (fun g => ?_) (fun g => ?_)⟩
        · have hw : w2 = "let" := by
            have g' := of_decide_eq_true g
            injection g'
          have hm2 := hml hw
          have ha2 := C9.N.a2
          have hb2' := C9.N.b2
          have ha1 := C9.N.a1
          refine ⟨_, rfl, _, rfl, wd, .ref nm, rfl, wget_names C9.W, _, rfl, wd, .ref lt, rfl, wget_lets C9.W, nm, lt, T1.map V.str, T2.map V.str, rfl, rfl, C9.N.a, C9.N.b, by rw [List.length_map, List.length_map]; omega, fun c hc => ?_⟩
          have sc := same_upd (o := .lst (T1.map V.str ++ T2.map V.str)) hc
          have C9' := C9.same sc
          refine ⟨d, l, c, ns, n7, _, rfl, C9'.F, by omega, upd_same, by rw [List.length_append, List.length_map]; omega, by rw [List.length_append, List.length_map, List.length_map]; omega, fun v n10 H10 hv hn10 F10 b10 => ?_⟩
          have C10 := C9'.draw b10 F10
          obtain ⟨x, rfl, hx⟩ : ∃ x, v = .str x ∧ Nm x := by
            rcases List.mem_append.mp hv with z | z
            · obtain ⟨x, hx, rfl⟩ := List.mem_map.mp z; exact ⟨x, rfl, C9.N.an x hx⟩
            · obtain ⟨x, hx, rfl⟩ := List.mem_map.mp z; exact ⟨x, rfl, C9.N.bn x hx⟩
          refine ⟨_, rfl, _, rfl, _, rfl, _, rfl, _, _, rfl, rfl, d, l, wd, nm, lt, cl, bd, ns, n10, r - mn, bb - 1, T1, T2, T3, bs, rfl, hN1, by omega, by omega, C10.F, by omega, C10.W, by omega, by omega, C10.N, C10.B, by omega, hbn, fun v1 t1 n11 r11 H11 h1 o1 f1 z1 r110 r111 hn11 F11 W11 b11 => ?_⟩
          have C11 := C10.go b11 F11 W11
          refine ⟨_, rfl, _, rfl, _, rfl, _, rfl, _, rfl, _, rfl, (by show 1 ≤ sizeLine; decide), fun c1 hc1 => ?_⟩
          have sc1 := same_upd (o := .lst [.str x]) hc1
          refine ⟨bd, c1, bs.map V.str, [.str x], rfl, rfl, sc1 _ _ C11.B, upd_same, by rw [List.length_map, List.length_singleton]; omega, fun c2 hc2 => ?_⟩
          have sc2 := same_upd (o := .lst (bs.map V.str ++ [.str x])) hc2
          have C12 := (C11.same sc1).same sc2
          refine ⟨_, rfl, _, _, rfl, rfl, d, l, wd, nm, lt, cl, c2, ns, n11, r11, bb - 1, T1, T2, T3, bs ++ [x], rfl, hN1, by omega, by omega, C12.F, by omega, C12.W, by omega, by omega, C12.N, by rw [upd_same, List.map_append]; rfl, by rw [List.length_append, List.length_singleton]; omega, fun u hu => ?_, fun v2 t2 n12 r12 H12 h2 o2 f2 z2 r120 r121 hn12 F12 W12 b12 => ?_⟩
          · rcases List.mem_append.mp hu with z | z
            · exact hbn u z
            · rw [List.mem_singleton] at z; subst z; exact hx
          · have C13 := C12.go b12 F12 W12
            have h1' := IsTh.kp (b12.kp C12.F C12.W) (IsTh.kp (Kp.of (sc1.trans sc2)) h1)
            refine ⟨(by show 4 ≤ sizeLine; decide), fun p hp => ?_⟩
            have sp := same_upd (o := .tup [.str "let", .str x, v1, v2]) hp
            have C14 := C13.same sp
            refine k (.ref p) (.tup [.at (.str "let"), .at (.str x), t1, t2]) n12 r12 _ (.tup upd_same (.cons (.at (by decide +kernel)) (.cons (.at (nm_small hx)) (.cons (IsTh.kp (Kp.of sp) h1') (.cons (IsTh.kp (Kp.of sp) h2) .nil))))) ?_ ?_ ?_ r120 (by omega) (by omega) C14.F C14.W C14.b2
            · refine ⟨"let", [.at (.str x), t1, t2], rfl, fun _ => ?_, fun _ => ⟨x, _, rfl⟩, fun y hy => ?_, fun y hy hy2 => ?_⟩
              · unfold kidsL
                rw [List.filter_cons_of_neg (by intro z; cases z), List.filter_cons_of_pos (ok_tup o1), List.filter_cons_of_pos (ok_tup o2)]
                rfl
              · simp only [List.mem_cons, List.not_mem_nil, or_false] at hy
                rcases hy with rfl | rfl | rfl
                · exact .inr ⟨_, rfl⟩
                · exact .inl (ok_tup o1)
                · exact .inl (ok_tup o2)
              · simp only [List.mem_cons, List.not_mem_nil, or_false] at hy
                rcases hy with rfl | rfl | rfl
                · cases hy2
                · exact o1
                · exact o2
            · simp only [lf, lfs, nm_lf hx, f1, f2, Bool.and_true, Bool.true_and]
              decide +kernel
            · simp only [Th.sz, szs]
              omega
        · have hnl : w2 ≠ "let" := fun z => g (by rw [z]; decide +kernel)
          have hkl := kinds_lf w2 hw2
          let Mh : Nat → St → Hp → Prop := fun kk σ' H' => ∃ (own : List V) (n' : Nat), σ' = [some (.ref d), some (.ref wd), some (.ref bd), some (.int bb), some (.ref wh), some (.str w2), some (.ref fr), some (.int mn), some (.ref hd), none, none] ∧ own.length ≤ kk ∧ ((∀ v ∈ own, lfV v = true ∧ smallV v = true) ∧ (1 ≤ kk → w2 = "set" → ∃ x r, own = V.str x :: r)) ∧
            H' hd = some (.lst (.str w2 :: own)) ∧ H' fr = some (.lst (fs.map V.str)) ∧ n' ≤ n + 3 + kk ∧ Ctx H H' d l wd nm lt cl bd ns n' (r - mn) T1 T2 T3 bs
          have app : ∀ {kk : Nat} {H' : Hp} {own : List V} {n' : Nat} (v : V), (lfV v = true ∧ smallV v = true) → own.length ≤ kk → ((∀ v ∈ own, lfV v = true ∧ smallV v = true) ∧ (1 ≤ kk → w2 = "set" → ∃ x r, own = V.str x :: r)) → (kk = 0 → w2 = "set" → ∃ x, v = V.str x) → H' hd = some (.lst (.str w2 :: own)) → H' fr = some (.lst (fs.map V.str)) → n' ≤ n + 3 + (kk + 1) → Ctx H H' d l wd nm lt cl bd ns n' (r - mn) T1 T2 T3 bs →
              Mh (kk + 1) [some (.ref d), some (.ref wd), some (.ref bd), some (.int bb), some (.ref wh), some (.str w2), some (.ref fr), some (.int mn), some (.ref hd), none, none] (upd H' hd (.lst ((.str w2 :: own) ++ [v]))) := by
            intro kk H' own n' v hv hol hoa hvs hD hS hn' C
            refine ⟨own ++ [v], n', rfl, by rw [List.length_append, List.length_singleton]; omega, ⟨fun u hu => ?_, fun _ hset' => ?_⟩, upd_same, by rw [upd_ne x1.symm]; exact hS, hn', C.put hD x2 x3 x4 x5 x6 x0⟩
            · rcases List.mem_append.mp hu with z | z
              · exact hoa.1 u z
              · rw [List.mem_singleton] at z; subst z; exact hv
            · rcases Nat.eq_zero_or_pos kk with z | z
              · obtain ⟨x, rfl⟩ := hvs z hset'
                have e0 : own = [] := List.eq_nil_of_length_eq_zero (by omega)
                subst e0
                exact ⟨x, [], rfl⟩
              · obtain ⟨x, r, rfl⟩ := hoa.2 z hset'
                exact ⟨x, r ++ [v], rfl⟩
          have keep : ∀ {kk : Nat} {σ' : St} {H' : Hp}, (kk = 0 → w2 ≠ "set") → Mh kk σ' H' → Mh (kk + 1) σ' H' := fun {kk σ' H'} hk0 ⟨own, n', e1, e2, e3, e4, e5, e6, e7⟩ => ⟨own, n', e1, by omega, ⟨e3.1, fun _ z => (Nat.eq_zero_or_pos kk).elim (fun q => absurd z (hk0 q)) (fun q => e3.2 q z)⟩, e4, e5, by omega, e7⟩
          have M0 : Mh 0 [some (.ref d), some (.ref wd), some (.ref bd), some (.int bb), some (.ref wh), some (.str w2), some (.ref fr), some (.int mn), some (.ref hd), none, none] H9 := ⟨[], n7, rfl, Nat.le_refl _, ⟨(fun v hv => by cases hv), fun h => absurd h (by decide)⟩, D9, S9, by omega, C9⟩
          refine ⟨Mh 1, ?_, ?_⟩
          · refine ⟨_, rfl, rfl, _, rfl, ite2 (fun g2 => ?_) (fun gz => keep (fun _ z => gz (by rw [z]; decide +kernel)) M0)⟩
            have hw : w2 = "set" := by
              have g' := of_decide_eq_true g2
              injection g'
            have hfs := hset hw
            refine ⟨_, rfl, .inl ⟨rfl, _, SqL.of D9⟩, _, rfl, _, rfl, d, l, fr, ns, n7, fs.map V.str, rfl, C9.F, by omega, S9, ?_, by rw [List.length_map]; omega, fun v n10 H10 hv hn10 F10 b10 => ?_⟩
            · rw [List.length_map]
              exact List.length_pos_iff.mpr hfs
            · obtain ⟨x, hx, rfl⟩ := List.mem_map.mp hv
              have D10 := C9.F.lst b10 D9
              refine ⟨hd, [.str w2], .str x, rfl, rfl, D10, by show 1 < sizeLine; omega, ?_⟩
              exact app (own := []) (.str x) ⟨nm_lf (hfn x hx), nm_small (hfn x hx)⟩ (Nat.le_refl _) ⟨(fun v hv => by cases hv), fun h => absurd h (by decide)⟩ (fun _ _ => ⟨x, rfl⟩) D10 (C9.F.lst b10 S9) (by omega) (C9.draw b10 F10)
          rintro σ11 H11 ⟨own, n11, rfl, ho1, ho2, D11, S11, hn11, C11⟩
          refine ⟨Mh 2, ?_, ?_⟩
          · refine ⟨_, rfl, rfl, _, rfl, ite2 (fun g2 => ?_) (fun _ => keep (fun h => absurd h (by decide)) ⟨own, n11, rfl, ho1, ho2, D11, S11, hn11, C11⟩)⟩
            refine ⟨_, rfl, .inl ⟨rfl, _, SqL.of D11⟩, _, rfl, d, l, ns, n11, _, rfl, C11.F, by omega, by decide, by decide, fun q n12 H12 q0 q1 hn12 F12 b12 => ?_⟩
            obtain ⟨c, hc, hat⟩ := at_in (xs := signs6.cps.toList) (i := q) q0 (Int.lt_of_lt_of_le q1 (by decide +kernel))
            have D12 := C11.F.lst b12 D11
            have hcs := signs_lt c hc
            refine ⟨signs6, q, c, rfl, rfl, (by decide +kernel), hat, hd, .str w2 :: own, .str ⟨#[c]⟩, rfl, rfl, D12, by rw [List.length_cons]; omega, ?_⟩
            refine app (.str ⟨#[c]⟩) ⟨?_, rfl⟩ ho1 ho2 (fun h => absurd h (by decide)) D12 (C11.F.lst b12 S11) (by omega) (C11.draw b12 F12)
            show (decide (1 ≤ 16) && [c].all fun c => decide (c < 16 ^ 8)) = true
            simp only [List.all_cons, List.all_nil, Bool.and_true, Bool.and_eq_true, decide_eq_true_eq]
            omega
          clear D11 S11 C11
          rintro σ12 H12 ⟨own, n12, rfl, ho1, ho2, D12, S12, hn12, C12⟩
          refine ⟨Mh 3, ?_, ?_⟩
          · refine ⟨_, rfl, rfl, _, rfl, ite2 (fun g2 => ?_) (fun _ => keep (fun h => absurd h (by decide)) ⟨own, n12, rfl, ho1, ho2, D12, S12, hn12, C12⟩)⟩
            refine ⟨_, rfl, .inl ⟨rfl, _, SqL.of D12⟩, _, rfl, _, rfl, wd, .ref cl, rfl, wget_calls C12.W, d, l, cl, ns, n12, T3.map V.str, rfl, C12.F, by omega, C12.N.c, by rw [List.length_map]; exact C12.N.c1, by rw [List.length_map]; have := C12.N.c2; omega, fun v n13 H13 hv hn13 F13 b13 => ?_⟩
            obtain ⟨x, hx, rfl⟩ := List.mem_map.mp hv
            have D13 := C12.F.lst b13 D12
            refine ⟨hd, .str w2 :: own, .str x, rfl, rfl, D13, by rw [List.length_cons]; omega, ?_⟩
            exact app (.str x) ⟨nm_lf (C12.N.cn x hx), nm_small (C12.N.cn x hx)⟩ ho1 ho2 (fun h => absurd h (by decide)) D13 (C12.F.lst b13 S12) (by omega) (C12.draw b13 F13)
          clear D12 S12 C12
          rintro σ13 H13 ⟨own, n13, rfl, ho1, ho2, D13, S13, hn13, C13⟩
          refine ⟨Mh 4, ?_, ?_⟩
          · refine ⟨_, rfl, rfl, _, rfl, ite2 (fun g2 => ?_) (fun _ => keep (fun h => absurd h (by decide)) ⟨own, n13, rfl, ho1, ho2, D13, S13, hn13, C13⟩)⟩
            refine ⟨_, rfl, .inl ⟨rfl, _, SqL.of D13⟩, _, rfl, d, l, ns, n13, _, rfl, C13.F, by omega, by decide, by decide, fun q n14 H14 q0 q1 hn14 F14 b14 => ?_⟩
            have D14 := C13.F.lst b14 D13
            refine ⟨hd, .str w2 :: own, .int q, rfl, rfl, D14, by rw [List.length_cons]; omega, ?_⟩
            exact app (.int q) ⟨decide_eq_true (by omega), rfl⟩ ho1 ho2 (fun h => absurd h (by decide)) D14 (C13.F.lst b14 S13) (by omega) (C13.draw b14 F14)
          clear D13 S13 C13
          rintro σ14 H14 ⟨own, n14, rfl, ho1, ho2, D14, S14, hn14, C14⟩
          refine ⟨_, rfl, _, rfl, mn, rfl, by omega, by omega, comp_range (lo := 0) (n := mn.toNat) (fun j ys σc H' => ∃ (n' : Nat) (o : Option V) (r' : Int) (cs : List Th), σc = [some (.ref d), some (.ref wd), some (.ref bd), some (.int bb), o] ∧ Ctx H14 H' d l wd nm lt cl bd ns n' r' T1 T2 T3 bs ∧ n' ≤ n14 + j * cD N ∧ 0 ≤ r' ∧ r' ≤ r - mn ∧ IsThs H' ys cs ∧ cs.length = j ∧ (∀ c ∈ cs, OkN N c ∧ lf c = true) ∧ (szs cs : Int) ≤ 8 * (j + (r - mn - r')))
            ⟨n14, none, r - mn, [], rfl, ⟨C14.F, C14.W, C14.N, C14.B, But2.refl _ _ _⟩, by omega, by omega, Int.le_refl _, .nil, rfl, (fun c hc => by cases hc), by simp [szs]⟩ ?_ ?_⟩
          · rintro j ys σc H' hj ⟨n', o, r', cs, rfl, C', hn', hr', hr'', hcs, hcl, hca, hcz⟩
            have hmul : j * cD N ≤ 5 * cD N := Nat.mul_le_mul_right _ (by omega)
            have hys := IsThs.len _ hcs
            refine ⟨by omega, ?_⟩
            refine ⟨_, rfl, _, rfl, _, rfl, _, rfl, _, _, rfl, rfl, d, l, wd, nm, lt, cl, bd, ns, n', r', bb - 1, T1, T2, T3, bs, rfl, hN1, by omega, by omega, C'.F, by omega, C'.W, hr', by omega, C'.N, C'.B, by omega, hbn, fun v t n2' r2' H2' h1 o1 f1 z1 y1 y2 y3 F2' W2' b2' => ?_⟩
            refine nx hj ⟨n2', _, r2', cs ++ [t], rfl, C'.go b2' F2' W2', by rw [Nat.succ_mul]; omega, y1, by omega, IsThs.app _ (IsThs.kp (b2'.kp C'.F C'.W) hcs) (.cons h1 .nil), by rw [List.length_append, hcl]; rfl, fun c hc => ?_, ?_⟩
            · rcases List.mem_append.mp hc with z | z
              · exact hca c z
              · rw [List.mem_singleton] at z; subst z; exact ⟨o1, f1⟩
            · rw [szs_app]
              simp only [szs]
              omega
          · rintro ys σc H' ⟨n', o, r', cs, rfl, C', hn', hr', hr'', hcs, hcl, hca, hcz⟩ q hq
            have hys := IsThs.len _ hcs
            have sq := same_upd (o := .lst ys) hq
            have D' := sq _ _ (C'.b2.kp C14.F C14.W _ _ D14 (fun _ z => by cases z))
            have hmul : mn.toNat * cD N ≤ 6 * cD N := Nat.mul_le_mul_right _ (by omega)
            refine ⟨hd, q, .str w2 :: own, ys, rfl, rfl, D', upd_same, by rw [List.length_cons]; omega, fun r3 hr3 => ?_⟩
            have s3 := same_upd (o := .lst (.str w2 :: own ++ ys)) hr3
            refine ⟨r3, .str w2 :: own ++ ys, rfl, .inl ⟨SqL.of upd_same, fun p hp => ?_⟩⟩
            have sp := same_upd (o := .tup (.str w2 :: own ++ ys)) hp
            have sA := (sq.trans s3).trans sp
            have CA := C'.same sA
            refine k (.ref p) (.tup (.at (.str w2) :: (own.map Th.at ++ cs))) n' r' _ (.tup upd_same (.cons (.at hkl.2) (IsThs.app _ (ths_own ho2.1) (IsThs.kp (Kp.of sA) hcs)))) (node_ok hnl (fun z => ho2.2 (by decide) (z.resolve_left (kinds_nn w2 hw2))) fun c hc => (hca c hc).1) (node_lf hkl.1 ho2.1 fun c hc => (hca c hc).2) ?_ hr' (by omega) (by omega) CA.F CA.W (C14.b2.trans CA.b2)
            simp only [Th.sz, szs, szs_app, szs_at]
            omega
end
end K04

set_option Elab.async false
set_option linter.all false
set_option maxRecDepth 100000
set_option maxHeartbeats 4000000
namespace K04
open PySem L2
def spWorld : Sp := fun vs H Q _ => ∃ (d l : Addr) (ns : List Int) (n : Nat) (r : Int), vs = [.ref d, .int r] ∧ Feed H d l ns n ∧ n ≤ 500000000000 ∧
  ∀ (wd nm lt cl : Addr) (T1 T2 T3 : List Str) n' H', H' wd = some (.dK (worldKV nm lt cl r)) → Nms H' nm lt cl T1 T2 T3 → n' ≤ n + 100 → Feed H' d l ns n' → But d H H' → Q (.ref wd) H'
section
variable {P : Program} {w : World} {K : PySem.W.Frag} {mg : Str → Option Value} {base : Heap}
theorem scWorld : FnScope ["_law_feed_here", "_law_room", "_law_names_here", "_law_lets", "_law_k", "_law_calls"] ["_law_feed_here", "_law_room"] (defScope sWorld) := ⟨rfl, rfl, rfl, by decide +kernel, rfl, by decide +kernel, by decide +kernel⟩
theorem ok_world {f fM fN fD fS fO fW : Addr} {fd dM dN dD dS dO dW : FuncData} (F : Fun K "_law_world" "_law_world" sWorld f fd) (U : Dr K mg fD fS fO fW dD dS dO dW) (FN : Fun K "_law_name" "_law_name" sLawName fN dN) (bN : Binds K dN ["_law_feed_here", "_law_taken"] []) (mN : mg "_law_name" = some (.ref fN))
    (FM : Fun K "_law_names" "_law_names" sNames fM dM) (bM : Binds K dM ["_law_feed_here", "_law_many"] []) (mM : mg "_law_names" = some (.ref fM)) :
    FnOk P w K mg base CX0 5 f fd ["_law_feed_here", "_law_room"] spWorld := by
  have GD : FnOk P w K mg base CX0 1 fD dD ["_law_feed_here", "_law_many"] spDraw := ok_draw U.D U.T
  have GO : FnOk P w K mg base CX0 2 fO dO ["_law_feed_here", "_law_some"] spOne := ok_one U.O U
  have GN : FnOk P w K mg base CX0 3 fN dN ["_law_feed_here", "_law_taken"] spLawName := ok_name FN U
  have GM : FnOk P w K mg base CX0 4 fM dM ["_law_feed_here", "_law_many"] spNames := ok_names FM U FN bN mN
  refine F.ok scWorld (fun vs H Q E h => ?_) (fun cdv A outer s H vs Q E hr h => ?_)
  · obtain ⟨d, l, ns, n, r, rfl, _⟩ := h
    rfl
  · obtain ⟨d, l, ns, n, r, rfl, F0, hn, k⟩ := h
    have hsz : sizeLine = 16777216 := sizeLine_eq
    have hu := hu_of hr
    have hr1 : Room 1 _ := hr.mono (by decide)
    have hr2 : Room 2 _ := hr.mono (by decide)
    have hr3 : Room 3 _ := hr.mono (by decide)
    have hr4 : Room 4 _ := hr.mono (by decide)
    refine' ⟨?tt, ?body, ?fin⟩
    case body =>
      refine' pss_cons ?s1 ?r1
      case s1 => exact ps_dput hu (pv 0) pe_str (pe_cmpR op_eq (pe_call GD hr1 (by rfl) U.mD U.D.kp U.bD .nil pass0 (pa_n (pv 0) (pa_k pe_int pa_nil))) pe_int (nomark _)) rfl
      case r1 =>
        refine' pss_cons ?s2 ?r2
        case s2 => exact ps_set (i := 2) scWorld.nd rfl (Or.inl rfl) (pe_call GM hr4 (by rfl) mM FM.kp bM .nil pass0 (pa_n (pv 0) (pa_cons (pe_op op_add pe_int (pe_call GD hr1 (by rfl) U.mD U.D.kp U.bD .nil pass0 (pa_n (pv 0) (pa_k pe_int pa_nil)))) pa_nil)))
        case r2 =>
          refine' pss_cons ?s3 ?r3
          case s3 => exact ps_set (i := 3) scWorld.nd rfl (Or.inl rfl) (pe_lst (pa_cons (pe_ix ix_list (pv 2) pe_int (fun _ _ => rfl)) pa_nil))
          case r3 =>
            refine' pss_cons ?s4 ?r4
            case s4 =>
              refine' ps_for PassesOwn.never rfl (pi_range1 (by rfl) U.T.range (pa_k pe_int pa_nil)) (pg_name (i := 4) scWorld.nd rfl (Or.inl rfl)) (pss_one ?b)
              case b => exact ps_expr (pe_bm PySem.F.plainAttrs_list PySem.F.slot_list_append PySem.F.type_list_append mt_append (pv 3) (pa_c (pe_call GN hr3 (by rfl) mN FN.kp bN .nil pass0 (pa_n (pv 0) (pa_cons (pe_op op_cat (pv 2) (pv 3)) pa_nil))) pa_nil))
            case r4 =>
              refine' pss_cons ?s5 ?r5
              case s5 => exact ps_set (i := 5) scWorld.nd rfl (Or.inl rfl) (pe_lst (pa_c (pe_call GN hr3 (by rfl) mN FN.kp bN .nil pass0 (pa_n (pv 0) (pa_l (pe_lst pa_nil) pa_nil))) (pa_c (pe_call GO hr2 (by rfl) U.mO U.O.kp U.bO .nil pass0 (pa_n (pv 0) (pa_n (pv 2) pa_nil))) pa_nil)))
              case r5 =>
                refine' pss_one ?s6
                case s6 => exact ps_ret (pe_disp (pps_cons pe_str (pv 2) (pps_cons pe_str (pv 3) (pps_cons pe_str (pv 5) (pps_cons pe_str (pv 1) pps_nil)))) rfl rfl (by intro z; cases z) (by decide))
    case fin =>
      refine ⟨_, rfl, d, l, ns, n, _, rfl, F0, by omega, by decide, by decide, fun q0 n1 H1 _ _ hn1 F1 b1 => ⟨rfl, ?_⟩⟩
      obtain ⟨⟨z1, sb1, hd1⟩, hl1, hz1⟩ := id F1
      refine ⟨_, rfl, d, _, rfl, set_short hd1, ?_⟩
      have F2 := F1.but (m := n1) (But.upd (o := .dK (feedKV l n1 z1 (decide (V.int q0 = V.int 0))))) upd_same
      have b2 := b1.trans (But.upd (d := d) (H := H1) (o := .dK (feedKV l n1 z1 (decide (V.int q0 = V.int 0)))))
      generalize upd H1 d (.dK (feedKV l n1 z1 (decide (V.int q0 = V.int 0)))) = H2 at F2 b2 ⊢
      refine ⟨_, rfl, _, rfl, d, l, ns, n1, _, rfl, F2, by omega, by decide, by decide, fun q n3 H3 q0' q1 hn3 F3 b3 => ⟨_, _, rfl, rfl, ?_⟩⟩
      refine ⟨d, l, ns, n3, (1 + q).toNat, by rw [Int.toNat_of_nonneg (by omega)]; rfl, F3, by omega, by omega, fun nm T1 n4 H4 L4 hT1 hall1 hn4 F4 _ b4 => ?_⟩
      have b24 := (b2.trans b3).trans b4
      obtain ⟨t0, T1', rfl⟩ : ∃ t0 T', T1 = t0 :: T' := by
        cases T1 with
        | nil => simp only [List.length_nil] at hT1; omega
        | cons t0 T' => exact ⟨t0, T', rfl⟩
      have h0 := hall1 t0 (List.mem_cons_self ..)
      refine ⟨_, rfl, nm, _, 0, .str t0, rfl, rfl, SqL.of L4, at_head _ _, (by show 1 ≤ sizeLine; decide), fun lt hlt => ?_⟩
      have sl := same_upd (o := .lst [.str t0]) hlt
      have nolt : ∀ {a : Addr} {o : HO}, H4 a = some o → lt ≠ a := fun {a o} e z => by rw [← z, hlt] at e; cases e
      have hltH : H lt = none := by
        cases e : H lt with
        | none => rfl
        | some o =>
          exfalso
          by_cases h1 : lt = d
          · obtain ⟨⟨z, sb, hd'⟩, _, _⟩ := F4
            rw [h1, hd'] at hlt
            cases hlt
          · rw [b24 lt o e h1] at hlt; cases hlt
      refine ⟨3, rfl, by decide, by decide, for_range (lo := 0) (n := 3) (fun i σ H' => ∃ (T2 : List Str) (n' : Nat) (o : Option V), σ = [some (.ref d), some (.int r), some (.ref nm), some (.ref lt), o, none] ∧ H' lt = some (.lst (T2.map V.str)) ∧ T2.length = i + 1 ∧ (∀ t ∈ T2, Nm t) ∧ H' nm = some (.lst ((t0 :: T1').map V.str)) ∧ n' ≤ n4 + 8 * i ∧ Feed H' d l ns n' ∧ But d H H')
        ⟨[t0], n4, none, rfl, upd_same, rfl, (fun t ht => by rw [List.mem_singleton] at ht; subst ht; exact h0), sl _ _ L4, by omega, F4.same sl, b24.trans (But.of sl)⟩ ?_ ?_⟩
      · rintro i σ H5 hi ⟨T2, n5, o, rfl, L5, hT2, hall2, M5, hn5, F5, b5⟩
        refine ⟨_, rfl, .inl ⟨rfl, _, SqL.of L5⟩, _, rfl, _, rfl, _, rfl, nm, lt, (t0 :: T1').map V.str, T2.map V.str, rfl, rfl, M5, L5, by rw [List.length_map, List.length_map]; omega, fun c hc => ?_⟩
        have sc := same_upd (o := .lst ((t0 :: T1').map V.str ++ T2.map V.str)) hc
        refine ⟨d, l, c, ns, n5, (t0 :: T1') ++ T2, rfl, F5.same sc, by omega, by rw [upd_same, List.map_append], by rw [List.length_append]; omega, fun t ht => ?_, fun t n6 H6 ht _ _ hn6 F6 b6 => ?_⟩
        · rcases List.mem_append.mp ht with z | z
          · exact hall1 t z
          · exact hall2 t z
        · have L6 := (F5.same sc).lst b6 (sc _ _ L5)
          have M6 := (F5.same sc).lst b6 (sc _ _ M5)
          refine ⟨lt, T2.map V.str, .str t, rfl, rfl, L6, by rw [List.length_map]; omega, ?_⟩
          refine ⟨T2 ++ [t], n6, _, rfl, by rw [upd_same, List.map_append]; rfl, by rw [List.length_append, hT2]; rfl, fun u hu => ?_, ?_, by omega, ?_, ?_⟩
          · rcases List.mem_append.mp hu with z | z
            · exact hall2 u z
            · rw [List.mem_singleton] at z; subst z; exact ht
          · rw [upd_ne (nolt L4).symm]; exact M6
          · obtain ⟨⟨z, sb, hd⟩, hls, hz⟩ := id F6
            exact ⟨⟨z, sb, by rw [upd_ne (ne_of L6 hd (by intro q; cases q)).symm]; exact hd⟩, by rw [upd_ne (nolt F4.ls).symm]; exact hls, hz⟩
          · intro b ob e hb
            rw [upd_ne (ne_of_none e hltH)]
            exact b6 b ob (sc _ _ (b5 b ob e hb)) hb
      · rintro σ H5 ⟨T2, n5, o, rfl, L5, hT2, hall2, M5, hn5, F5, b5⟩
        refine ⟨_, rfl, Nat.zero_le _, fun c hc => ?_⟩
        have sc := same_upd (o := .lst []) hc
        refine ⟨d, l, c, ns, n5, [], rfl, F5.same sc, by omega, upd_same, by decide, (fun t ht => by cases ht), fun x n6 H6 hx _ _ hn6 F6 b6 => ?_⟩
        have L6 := (F5.same sc).lst b6 (sc _ _ L5)
        have M6 := (F5.same sc).lst b6 (sc _ _ M5)
        refine ⟨_, rfl, _, rfl, d, l, nm, ns, n6, (t0 :: T1').map V.str, rfl, F6, by omega, M6, by rw [List.length_map, List.length_cons]; omega, by rw [List.length_map]; omega, fun v n7 H7 hv hn7 F7 b7 => ⟨(by show 2 ≤ sizeLine; decide), fun cl hcl => ?_⟩⟩
        obtain ⟨y, hy, rfl⟩ := List.mem_map.mp hv
        have L7 := F6.lst b7 L6
        have M7 := F6.lst b7 M6
        have sl2 := same_upd (o := .lst [.str x, .str y]) hcl
        intro wd hwd
        have sw := same_upd (o := .dK []) hwd
        refine ⟨_, rfl, _, rfl, _, rfl, _, rfl, ?_⟩
        refine ⟨upd_same, worldKV nm lt cl r, rfl, by show 4 ≤ 15; decide, ?_⟩
        have em : mergeK [] (worldKV nm lt cl r) = worldKV nm lt cl r := by with_unfolding_all rfl
        rw [em]
        have sE : Same (upd H7 cl (.lst [.str x, .str y])) (upd (upd (upd H7 cl (.lst [.str x, .str y])) wd (.dK [])) wd (.dK (worldKV nm lt cl r))) := fun b ob e => by
          rw [upd_ne (ne_of_none e hwd), upd_ne (ne_of_none e hwd)]
          exact e
        refine k wd nm lt cl (t0 :: T1') T2 [x, y] n7 _ upd_same ⟨sE _ _ (sl2 _ _ M7), sE _ _ (sl2 _ _ L7), sE _ _ upd_same, by rw [List.length_cons]; omega, by omega, by omega, by show 1 ≤ 2; decide, by show 2 ≤ 10; decide, hall1, hall2, fun t ht => ?_⟩ (by omega) ((F7.same sl2).same sE) (((b5.trans (But.of sc)).trans (b6.trans b7)).trans ((But.of sl2).trans (But.of sE)))
        simp only [List.mem_cons, List.not_mem_nil, or_false] at ht
        rcases ht with rfl | rfl
        · exact hx
        · exact hall1 _ hy
end
end K04

set_option Elab.async false
set_option linter.all false
set_option maxRecDepth 100000
set_option maxHeartbeats 4000000
namespace L2
open PySem PySem.Spec PyProof.Rows
open Sem (wp)
open AutoSeq1 (wpAny_loadPart')
section
variable {P : Program} {w : World} {A : Around} {E : Value → Shared → Prop} {s : Shared}
end
section
variable {X : Cx}
end
end L2

set_option Elab.async false
set_option linter.all false
set_option maxRecDepth 100000
set_option maxHeartbeats 4000000
namespace L2
open PySem PySem.Spec PyProof.Rows PySem.Builtin PySem.AutoSeq1
/-! ### a comprehension over zip(l, t): a list and a tuple -/
structure ZLt (h : Heap) (z TI TO i1 i2 l t : Addr) (i : Nat) (f0 : Value) : Prop where
  z : IsZip h z TI TO f0
  ti : IsPair h TI (.ref i1) (.ref i2)
  to : ∃ a b, IsPair h TO a b
  g1 : h.IsListIter i1 l i
  g2 : h.IsTupleIter i2 t i
section
variable {prog : Program} {w : World} {A : Around} {E : Value → Shared → Prop} {s : Shared}
end
abbrev yH1 (h : Heap) (l1 : Addr) : Heap := h.push { cls := .type "list_iterator", data := .fields #[.ref l1, .int 0 0] }
abbrev yH2 (h : Heap) (l1 l2 : Addr) : Heap := (yH1 h l1).push { cls := .type "tuple_iterator", data := .fields #[.ref l2, .int 0 0] }
abbrev yH3 (h : Heap) (l1 l2 : Addr) : Heap := (yH2 h l1 l2).push { cls := .type "tuple", data := .seq #[.ref h.objs.size, .ref (yH1 h l1).objs.size] }
abbrev yH4 (h : Heap) (l1 l2 : Addr) : Heap := (yH3 h l1 l2).push { cls := .type "tuple", data := .seq #[.none, .none] }
abbrev yH5 (h : Heap) (l1 l2 : Addr) : Heap := (yH4 h l1 l2).push { cls := .type "zip", data := .fields #[.none, .bool false, .bool false, .ref (yH2 h l1 l2).objs.size, .ref (yH3 h l1 l2).objs.size] }
theorem zipL_new (l1 l2 : Addr) (xs ys : Array Value) :
    Meets (Builtin.«zip.__new__» ⟨[.type "zip", .ref l1, .ref l2], []⟩) (fun _ R s => s.heap.IsList l1 xs ∧ s.heap.IsTuple l2 ys ∧
      R (.ok (.ret (.ref (yH4 s.heap l1 l2).objs.size))) { s with heap := yH5 s.heap l1 l2 }) :=
  .of_wp fun prog w A R s h => by
    obtain ⟨hp, g, d, tk, os⟩ := s; obtain ⟨hl1, hl2, h⟩ := h
    have hsub := sub_zip
    have hL1 : Heap.IsList (Shared.heap ⟨hp, g, d, tk, os⟩) l1 xs := hl1
    have hL2 : Heap.IsTuple (Shared.heap ⟨hp.push { cls := .type "list_iterator", data := .fields #[.ref l1, .int 0 0] }, g, d, tk, os⟩) l2 ys := tupPush hl2 _
    wp_walk using wpAny_pyIter_list hL1, wpAny_pyIter_tuple hL2
    exact ⟨_, rfl, h⟩
section
variable {prog : Program} {w : World} {A : Around} {E : Value → Shared → Prop} {s : Shared}
theorem call_zipL {l1 l2 : Addr} {xs ys : Array Value} {Q : Value → Shared → Prop} (hl1 : s.heap.IsList l1 xs) (hl2 : s.heap.IsTuple l2 ys)
    (h : ∀ h', ZLt h' (s.heap.objs.size + 4) (s.heap.objs.size + 2) (s.heap.objs.size + 3) s.heap.objs.size (s.heap.objs.size + 1) l1 l2 0 .none → ZipApart (s.heap.objs.size + 4) (s.heap.objs.size + 2) (s.heap.objs.size + 3) s.heap.objs.size (s.heap.objs.size + 1) l1 l2 →
      (∀ c o, s.heap.get? c = some o → h'.get? c = some o) → Q (.ref (s.heap.objs.size + 4)) { s with heap := h' }) :
    wpAny (model prog w) A (call (.type "zip") [.ref l1, .ref l2]) Q E s := by
  refine callType_new F.called_zip (by decide) (F.typeCall_zip_2 _ _) (F.newCall_zip_2 _ _) (fun obj => F.args_object_init_3 obj _ _) F.entry_zip_new
    (zipL_new l1 l2 xs ys) ⟨hl1, hl2, ?_⟩
  have z1 : (yH1 s.heap l1).objs.size = s.heap.objs.size + 1 := Heap.size_push ..
  have z2 : (yH2 s.heap l1 l2).objs.size = s.heap.objs.size + 2 := by rw [Heap.size_push, z1]
  have z3 : (yH3 s.heap l1 l2).objs.size = s.heap.objs.size + 3 := by rw [Heap.size_push, z2]
  have z4 : (yH4 s.heap l1 l2).objs.size = s.heap.objs.size + 4 := by rw [Heap.size_push, z3]
  have g5 : (yH5 s.heap l1 l2).get? (yH4 s.heap l1 l2).objs.size = some _ := Heap.get?_push_size _ rfl
  have g4 : (yH5 s.heap l1 l2).get? (yH3 s.heap l1 l2).objs.size = some _ := Heap.get?_push_of_some _ (Heap.get?_push_size _ rfl)
  have g3 : (yH5 s.heap l1 l2).get? (yH2 s.heap l1 l2).objs.size = some _ := Heap.get?_push_of_some _ (Heap.get?_push_of_some _ (Heap.get?_push_size _ rfl))
  have g2 : (yH5 s.heap l1 l2).get? (yH1 s.heap l1).objs.size = some _ := Heap.get?_push_of_some _ (Heap.get?_push_of_some _ (Heap.get?_push_of_some _ (Heap.get?_push_size _ rfl)))
  have g1 : (yH5 s.heap l1 l2).get? s.heap.objs.size = some _ := Heap.get?_push_of_some _ (Heap.get?_push_of_some _ (Heap.get?_push_of_some _ (Heap.get?_push_of_some _ (Heap.get?_push_size _ rfl))))
  show _ ∧ _
  rw [z2, z3, z4] at g5
  rw [z1, z2] at g3
  rw [z3] at g4
  rw [z1] at g2
  rw [z4]
  have kp : ∀ c o, s.heap.get? c = some o → (yH5 s.heap l1 l2).get? c = some o := fun c o x =>
    Heap.get?_push_of_some _ (Heap.get?_push_of_some _ (Heap.get?_push_of_some _ (Heap.get?_push_of_some _ (Heap.get?_push_of_some _ x))))
  have lt1 : l1 < s.heap.objs.size := let ⟨_, e, _⟩ := hl1; Heap.lt_size e
  have lt2 : l2 < s.heap.objs.size := let ⟨_, e, _⟩ := hl2; Heap.lt_size e
  exact ⟨⟨_, g5, rfl⟩, h _ ⟨g5, g3, ⟨_, _, g4⟩, ⟨_, g1, rfl, rfl⟩, ⟨_, g2, rfl, rfl⟩⟩ (zipApart_new lt1 lt2) kp⟩
end
end L2

set_option Elab.async false
set_option linter.all false
set_option maxRecDepth 100000
set_option maxHeartbeats 4000000
namespace L2
open PySem PySem.Spec PyProof.Rows
section
variable {X : Cx}
end
section
variable {K : PySem.W.Frag} {a b : Addr} {xs ys : List V} {σ0 : St} {H : Hp} {g : TG} {tt : TT} {te : TE} {Q : List V → Hp → Prop}
end
end L2

set_option Elab.async false
set_option linter.all false
set_option maxRecDepth 100000
set_option maxHeartbeats 4000000
namespace L2
open PySem PySem.Spec PyProof.Rows PySem.Builtin PySem.AutoSeq1
/-! ### reversed(l) of a list -/
theorem mro_reversed : mroOf (.type "reversed") = pure [.type "reversed", .type "object"] := by rw [mroOf_type]; kernel_rfl
theorem lookup_reversed_new : typeLookup (.type "reversed") "__new__" = pure (some (.builtin "reversed.__new__")) := by rw [typeLookup_type, builtinLookup_eq_fast]; kernel_rfl
theorem made_reversed : Bind.madeBy (.type "reversed") = pure (some "reversed.__new__") := madeBy_type mro_reversed lookup_reversed_new (by decide +kernel)
theorem sub_reversed : isSubtype (.type "reversed") (.type "reversed") = pure true := by rw [isSubtype_type]; kernel_rfl
theorem sub_rev_it : isSubtype (.type "list_reverseiterator") (.type "reversed") = pure false := by rw [isSubtype_type]; kernel_rfl
theorem entry_reversed_new : entryFor table "reversed.__new__" = some Builtin.«reversed.__new__» := entryFor_of_tree (by kernel_rfl)
theorem typeCall_reversed (a : Value) : checkTypeCall "reversed" ⟨[a], []⟩ = pure () := by kernel_rfl
theorem newCall_reversed (a : Value) : checkBuiltinCall "reversed.__new__" ⟨[.type "reversed", a], []⟩ = pure () := by kernel_rfl
section
variable {prog : Program} {w : World} {A : Around} {E : Value → Shared → Prop} {s : Shared}
theorem callType_other {T U newId : String} {Bn : Builtin} {args : List Value} {S : PySem.Spec} {Q : Value → Shared → Prop} {c : Value} {tl : List Value} (h1 : (Value.type T == Value.type "type") = false)
    (h2 : ((Manifest.find? T).bind (·.mro.findSome? fun t => (Manifest.find? t).bind fun b => if b.noNew then some true else if b.attrs.any (·.1 == "__new__") then some false else none)).getD false = false)
    (hmro : mroOf (.type T) = pure (c :: tl)) (hmade : Bind.madeBy (.type T) = pure (some newId)) (plain : plainId newId = true) (hsub : isSubtype (.type U) (.type T) = pure false)
    (hct : checkTypeCall T ⟨args, []⟩ = pure ()) (hcn : checkBuiltinCall newId ⟨.type T :: args, []⟩ = pure ())
    (entryN : entryFor table newId = some Bn) (g : Meets (Bn ⟨.type T :: args, []⟩) S)
    (h : S A.in1 (wants (fun obj s₁ => s₁.TypeIs obj U ∧ Q obj s₁) E) s) : wpAny (model prog w) A (call (.type T) args) Q E s := by
  refine wpAny_call (codeAny_of_tree ?_)
  show wpAny _ _ (callAny (.type T) _) _ _ _
  refine wpAny_pure ⟨Code.quiet_builtin _ (by decide +kernel), codeAny_builtin F.entry_type_call ?_⟩
  rw [Around.under_plain (weight_type_call_type T args []) (units_type_call_type T args [])]
  repeat (any_goals (first | assumption | wp_step))
  refine codeAny_mono (codeAny_call_builtin plain entryN (wpAny_of_eq hcn (g prog w A.in1 _ s h))) fun r s₁ hr => ?_
  cases r with
  | error e => exact hr
  | ok fl =>
    cases fl with
    | ret obj =>
      obtain ⟨hT, hq⟩ := hr
      repeat (any_goals (first | assumption | wp_step))
    | _ => exact hr.elim
end
theorem rev_code {prog : Program} {w : World} {A : Around} {s : Shared} {R : Result → Shared → Prop} {l : Addr} {items : Array Value} {n : Nat} (hl : s.heap.get? l = some { cls := .type "list", dict := none, data := .seq items n, slots := #[] })
    (h : R (.ok (.ret (Value.ref s.heap.objs.size))) { s with heap := s.heap.push { cls := Value.type "list_reverseiterator", data := .fields #[.ref l, rawInt ((items.size : Int) - 1)] } }) :
    codeAny (model prog w) A (.call (.builtin "list.__reversed__") ⟨[.ref l], []⟩) R s :=
  codeAny_call_builtin F.slot_list_reversed.plain F.entry_list_reversed (F.slot_list_reversed.check _ _ _ _ _ _ _ _ ⟨_, hl, rfl⟩ (F.args_list_reversed_1 _) (PySem.AutoListH.list___reversed___list_0 l items n prog w A R s ⟨hl, h⟩))
theorem meets_reversed_new (l : Addr) (items : Array Value) (n : Nat) :
    Meets (Builtin.«reversed.__new__» ⟨[.type "reversed", .ref l], []⟩) (fun _ R s => s.heap.get? l = some { cls := .type "list", dict := none, data := .seq items n, slots := #[] } ∧
      R (.ok (.ret (Value.ref s.heap.objs.size))) { s with heap := s.heap.push { cls := Value.type "list_reverseiterator", data := .fields #[.ref l, rawInt ((items.size : Int) - 1)] } }) :=
  .of_wp fun prog w A R s h => by
    obtain ⟨hp, g, d, tk, os⟩ := s; obtain ⟨hl, h⟩ := h
    have hsub := sub_reversed
    have hT : Shared.TypeIs ⟨hp, g, d, tk, os⟩ (.ref l) "list" := ⟨_, hl, rfl⟩
    have hlk := F.slot_list_reversed.lookup
    have hbd := F.slot_list_reversed.bind (.ref l)
    wp_walk
    refine rev_code hl ?_
    exact wpAny_pure ⟨_, rfl, h⟩
section
variable {prog : Program} {w : World} {A : Around} {E : Value → Shared → Prop} {s : Shared}
theorem call_reversed {l : Addr} {items : Array Value} {n : Nat} {Q : Value → Shared → Prop} (hl : s.heap.get? l = some { cls := .type "list", dict := none, data := .seq items n, slots := #[] })
    (h : Q (.ref s.heap.objs.size) { s with heap := s.heap.push { cls := Value.type "list_reverseiterator", data := .fields #[.ref l, rawInt ((items.size : Int) - 1)] } }) :
    wpAny (model prog w) A (call (.type "reversed") [.ref l]) Q E s :=
  callType_other (U := "list_reverseiterator") (by decide +kernel) (by decide +kernel) mro_reversed made_reversed (by decide +kernel) sub_rev_it (typeCall_reversed _) (newCall_reversed _) entry_reversed_new (meets_reversed_new l items n)
    ⟨hl, ⟨_, Heap.get?_push_size _ rfl, rfl⟩, h⟩
def IsRevIter (h : Heap) (it l : Addr) (k : Int) : Prop := ∃ o, h.get? it = some o ∧ o.cls = .type "list_reverseiterator" ∧ o.data = .fields #[.ref l, .int k 0]
theorem IsRevIter.typeIs {it l : Addr} {k : Int} (x : IsRevIter s.heap it l k) : s.TypeIs (.ref it) "list_reverseiterator" := let ⟨o, ho, hc, _⟩ := x; ⟨o, ho, hc⟩
theorem slot_rev_next : Slot "list_reverseiterator" "__next__" "list_reverseiterator.__next__" :=
  .of (owner := "list_reverseiterator") (n := "__next__") (by rw [typeLookup_type, builtinLookup_eq_fast]; kernel_rfl) (by decide +kernel) (by decide +kernel) (by decide +kernel)
    (by first | exact .inl (by decide +kernel) | exact .inr (by decide +kernel)) (by rw [isSubtype_type]; kernel_rfl)
theorem slot_rev_iter : Slot "list_reverseiterator" "__iter__" "list_reverseiterator.__iter__" :=
  .of (owner := "list_reverseiterator") (n := "__iter__") (by rw [typeLookup_type, builtinLookup_eq_fast]; kernel_rfl) (by decide +kernel) (by decide +kernel) (by decide +kernel)
    (by first | exact .inl (by decide +kernel) | exact .inr (by decide +kernel)) (by rw [isSubtype_type]; kernel_rfl)
theorem entry_rev_next : entryFor table "list_reverseiterator.__next__" = some Builtin.«list_reverseiterator.__next__» := entryFor_of_tree (by kernel_rfl)
theorem entry_rev_iter : entryFor table "list_reverseiterator.__iter__" = some Builtin.«dict_keyiterator.__iter__» :=
  entryFor_alias (id' := "dict_keyiterator.__iter__") (by kernel_rfl) (by first | rfl | decide +kernel | (unfold String.splitOn; simp +decide [String.splitOnAux])) (by decide +kernel) (by kernel_rfl)
theorem args_rev_next (a : Value) : argsOk "list_reverseiterator.__next__" ⟨[a], []⟩ := by unfold argsOk; kernel_rfl
theorem args_rev_iter (a : Value) : argsOk "list_reverseiterator.__iter__" ⟨[a], []⟩ := by unfold argsOk; kernel_rfl
theorem pyIter_rev {it l : Addr} {k : Int} {Q : Value → Shared → Prop} (hz : IsRevIter s.heap it l k) (h : Q (.ref it) s) : wpAny (model prog w) A (pyIter (.ref it)) Q E s := by
  refine wpAny_pyIter_slot hz.typeIs slot_rev_iter (wpAny_call_entry slot_rev_iter hz.typeIs entry_rev_iter ?_ (args_rev_iter _))
  show wpAny _ _ (ret (.ref it)) _ _ s
  exact wpAny_pure ⟨_, rfl, "list_reverseiterator", _, hz.typeIs, slot_rev_next.lookup, h⟩
theorem next_rev_item {it l : Addr} {k : Nat} {items : Array Value} {x : Value} {Q : Option Value → Shared → Prop} (hit : IsRevIter s.heap it l k) (hl : s.heap.IsList l items) (hx : items[k]? = some x)
    (hQ : ∀ h', IsRevIter h' it l ((k : Int) - 1) → Heap.SameBut it s.heap h' → Q (some x) { s with heap := h' }) : wpAny (model prog w) A (pyNext (.ref it)) Q E s := by
  obtain ⟨o, ho, hc, hd⟩ := id hit
  obtain ⟨ol, hol, _, nl, hdl⟩ := hl
  unfold pyNext
  refine wpAny_bind (wpAny_attempt (wpAny_callSpecial?_slot (name := Str.ofString "__next__") hit.typeIs slot_rev_next
    (wpAny_call_entry slot_rev_next hit.typeIs entry_rev_next ?_ (args_rev_next _))))
  show wpAny _ _ (field (.ref it) 1 >>= _) _ _ s
  refine wpAny_bind (wpAny_field ho hd (x := .int k 0) rfl ?_)
  show wpAny _ _ (if ((k : Int) < 0) then _ else _) _ _ s
  rw [if_neg (by omega)]
  show wpAny _ _ (field (.ref it) 0 >>= _) _ _ s
  refine wpAny_bind (wpAny_field ho hd (x := .ref l) rfl ?_)
  refine wpAny_bind (wpAny_seqItems hol hdl ?_)
  simp only [Int.toNat_natCast, hx]
  refine wpAny_bind (wpAny_setField ho hd (by simp) (wpAny_pure ⟨x, rfl, wpAny_pure (hQ _ ?_ (Heap.SameBut.update ..))⟩))
  exact ⟨_, Heap.get?_update_self _ ho (Obj.isFreed_of_fields (Obj.data_mapFields hd _)), (Obj.cls_mapFields ..).trans hc, by
    rw [Obj.data_mapFields hd]; simp [rawInt]⟩
theorem next_rev_end {it l : Addr} {Q : Option Value → Shared → Prop} (hh : A.handled = none) (hit : IsRevIter s.heap it l (-1))
    (hQ : ∀ h', (∀ b o, s.heap.get? b = some o → h'.get? b = some o) → Q none { s with heap := h' }) : wpAny (model prog w) A (pyNext (.ref it)) Q E s := by
  obtain ⟨o, ho, hc, hd⟩ := id hit
  unfold pyNext
  refine wpAny_bind (wpAny_attempt (wpAny_callSpecial?_slot (name := Str.ofString "__next__") hit.typeIs slot_rev_next
    (wpAny_call_entry slot_rev_next hit.typeIs entry_rev_next ?_ (args_rev_next _))))
  show wpAny _ _ (field (.ref it) 1 >>= _) _ _ s
  refine wpAny_bind (wpAny_field ho hd (x := .int (-1) 0) rfl ?_)
  show wpAny _ _ (if ((-1 : Int) < 0) then _ else _) _ _ s
  rw [if_pos (by decide)]
  refine wpAny_bind (wpAny_rule ?_)
  refine wpAny_bind ?_
  show wpAny _ _ (newExc (.type "StopIteration") [] >>= _) _ _ _
  refine wpAny_bind ?_
  simp only [newExc, newTuple]
  refine wpAny_bind (wpAny_newObj_type ?_ (by size_fits))
  refine wpAny_bind (m := firstArgMember _ _) (wpAny_of_eq (a := Value.none) (by first | rfl | (simp only [firstArgMember]; rfl)) ?_)
  refine wpAny_newObj_type ?_ (by size_fits)
  simp only [raiseNew]
  refine wpAny_bind (wpAny_handled ?_)
  rw [show A.in1.handled = none from hh]
  refine wpAny_bind (wpAny_pure (wpAny_throw ?_))
  refine wpAny_bind (wpAny_isInstance (T := "StopIteration") (b := true) ⟨_, Heap.get?_push_size _ rfl, rfl⟩ isSubtype_stop ?_)
  exact wpAny_pure (hQ _ fun b o e => Heap.get?_push_of_some _ (Heap.get?_push_of_some _ e))
end
/-- the list at a from its end, n items -/
def Itv (K : PySem.W.Frag) (a : Addr) (n : Nat) : It :=
  ⟨fun i H => i < n ∧ ∃ xs x, SqL K H a xs ∧ xs[n - 1 - i]? = some x, fun i H x H' => H' = H ∧ ∀ xs, SqL K H a xs → xs[n - 1 - i]? = some x, fun i H => i = n⟩
theorem turn_rev {P : Program} {w : World} {K : PySem.W.Frag} {tg : Expr} (a it : Addr) (n : Nat) : Turn P w K tg (Itv K a n) [it] it (fun i h => IsRevIter h it a ((n : Int) - 1 - i)) where
  mem := by simp
  obj := fun i h st b hb => by
    have e : b = it := by simpa using hb
    subst e
    obtain ⟨o, e, c, d⟩ := st
    exact ⟨o, e, fun v z => by rw [d] at z; cases z⟩
  keep := fun i h h' st k => by
    obtain ⟨o, e, c, d⟩ := st
    exact ⟨o, k it (by simp) o e, c, d⟩
  item := by
    intro X hP hw hK hc i pins s σ H E I hf st hg
    subst hP hw hK
    obtain ⟨hin, xs, x, hq, hx⟩ := hg
    obtain ⟨its, rv, p, hz⟩ := I.list hq
    obtain ⟨u, hu, ru⟩ := rv.get hx
    obtain ⟨f0, f1, f2, f3, f4, f5⟩ := hf it (by simp)
    have ek : (n : Int) - 1 - i = ((n - 1 - i : Nat) : Int) := by omega
    rw [ek] at st
    refine next_rev_item st p.isList (x := u) (by simpa using hu) fun h' st' sb => ?_
    have I1 : Inv X pins σ H { s with heap := h' } := I.turned (t' := s.toks) (fun b o hb e => (sb.2 b hb).trans e) f0 f1 f3 f4 f5
    have e2 : ((n - 1 - i : Nat) : Int) - 1 = (n : Int) - 1 - ((i + 1 : Nat) : Int) := by omega
    rw [e2] at st'
    obtain ⟨o, e, c, d⟩ := id st'
    exact ⟨u, rfl, go_of (s := { s with heap := h' }) e c d (by decide) ⟨x, H, I1, ru, ⟨rfl, fun ys hy => by rw [I.list_inj hy hq]; exact hx⟩, st', fun b hb => (hf b hb).1⟩⟩
  done := by
    intro X hP hw hK hc i pins s σ H E I hf st hg
    subst hP hw hK
    have e : i = n := hg
    subst e
    have ek : (i : Int) - 1 - i = -1 := by omega
    rw [ek] at st
    exact next_rev_end (I.ok.hd hc) st fun h' kk => ⟨rfl, I.kept (t' := s.toks) kk⟩
  self := fun _ _ _ _ _ st h => pyIter_rev st h
def iRev (K : PySem.W.Frag) (ta : TA) : TI := fun σ H R => ta σ H fun vs H1 => ∃ a xs, vs = [.ref a] ∧ H1 a = some (.lst xs) ∧ R (Itv K a xs.length) H1
section
variable {X : Cx}
/-- for .. in reversed(l) -/
theorem pi_rev {tg : Expr} {a : Expr} {ta : TA} {p pos : Pos} (hg : Gl X "reversed") (hm : X.mg "reversed" = none) (ha : PA X [a] ta) (hs : starEach [a] X.env = [(false, eval a X.env)] := by rfl) :
    PI X tg (.Call (.Name "reversed" p) [a] [] pos) (iRev X.K ta) := by
  intro pins s σ H R I h
  refine wpAny_Call_Name_kw (ld_blt I hg hm (by decide +kernel : bootBuiltins "reversed" = some (.type "reversed")) ?_)
  refine PyProof.Rows.callWith_type1 (thn (ha pos pins s σ H _ I h) fun us s1 ⟨vs, H1, I1, r1, q1⟩ => ?_) hs (by rfl)
  obtain ⟨l, xs, rfl, hl, hR⟩ := q1
  cases r1 with
  | cons r rr =>
    cases rr
    cases r
    obtain ⟨_, its, n, rv, h1⟩ := (show ObjOk X.prog X.w H1 s1.heap l (.lst xs) from I1.hok l _ hl)
    refine call_reversed h1 ?_
    have hlen := rv.length
    have st : IsRevIter (s1.heap.push { cls := Value.type "list_reverseiterator", data := .fields #[.ref l, rawInt ((its.toArray.size : Int) - 1)] }) s1.heap.objs.size l ((xs.length : Int) - 1 - ((0 : Nat) : Int)) := by
      refine ⟨_, Heap.get?_push_size _ rfl, rfl, ?_⟩
      rw [List.size_toArray, ← hlen]
      simp [rawInt]
    refine pyIter_rev st ?_
    refine ⟨s1.heap.objs.size, [s1.heap.objs.size], _, _, H1, rfl, I1.kept (t' := s1.toks) fun b o e => Heap.get?_push_of_some _ e, turn_rev l _ xs.length, st, fun b hb => ?_, hR⟩
    have e : b = s1.heap.objs.size := by simpa using hb
    subst e
    exact I1.fpOk (Nat.le_refl _) (I1.hok.fresh (Nat.le_refl _))
end
end L2

set_option Elab.async false
set_option linter.all false
set_option maxRecDepth 100000
set_option maxHeartbeats 4000000
namespace L2
open PySem PySem.Spec PyProof.Rows PySem.Builtin PySem.AutoSeq1
/-! ### list(zip(l, t)) of a list and a tuple of one length -/
structure ZBt (h : Heap) (z TI TO i1 i2 t1 t2 : Addr) (xs ys : Array Value) (i : Nat) : Prop where
  z : ∃ f0 f1, (f0 = .none ∨ ∃ a t, f0 = .int a t) ∧ ZipF h z TI TO f0 f1
  ti : IsPair h TI (.ref i1) (.ref i2)
  to : ∃ a b, IsPair h TO a b
  g1 : h.IsListIter i1 t1 i
  g2 : h.IsTupleIter i2 t2 i
  u1 : h.IsList t1 xs
  u2 : h.IsTuple t2 ys
theorem tupAt {h h' : Heap} {t : Addr} {xs : Array Value} (x : h.IsTuple t xs) (k : ∀ c o, h.get? c = some o → h'.get? c = some o) : h'.IsTuple t xs := by
  obtain ⟨o, q1, q2⟩ := x
  exact ⟨o, k _ _ q1, q2⟩
section
variable {prog : Program} {w : World} {A : Around} {E : Value → Shared → Prop} {s : Shared}
theorem zipB_draw {z TI TO i1 i2 t1 t2 : Addr} {i : Nat} {xs ys : Array Value} {x y : Value} {Q : Value → Shared → Prop} (D : ZipApart z TI TO i1 i2 t1 t2) (Z : ZBt s.heap z TI TO i1 i2 t1 t2 xs ys i) (hx : xs[i]? = some x) (hy : ys[i]? = some y)
    (hQ : ∀ h' T, s.heap.objs.size ≤ T → ZBt h' z TI TO i1 i2 t1 t2 xs ys (i + 1) → IsPair h' T x y → (∀ c o, c ≠ z → c ≠ TO → c ≠ i1 → c ≠ i2 → s.heap.get? c = some o → h'.get? c = some o) → Q (.ref T) { s with heap := h' }) :
    wpAny (model prog w) A (Builtin.«zip.__next__» ⟨[.ref z], []⟩) (fun fin s' => ∃ v, fin = .done (.ret v) ∧ Q v s') E s := by
  obtain ⟨⟨f0, f1, h0, hz⟩, hTI, ⟨a, b, hTO⟩, h1, h2, hl1, hl2⟩ := Z
  show wpAny _ _ (field (.ref z) 2 >>= _) _ _ _
  refine wpAny_bind (wpAny_field hz rfl (x := .bool false) rfl ?_)
  show wpAny _ _ (field (.ref z) 3 >>= _) _ _ _
  refine wpAny_bind (wpAny_field hz rfl (x := .ref TI) rfl ?_)
  refine wpAny_bind (wpAny_seqItems hTI rfl ?_)
  show wpAny _ _ (Builtin.SmallTypes.ownedTupleIsFree (.ref z) >>= _) _ _ _
  refine wpAny_bind (zip_free h0 hz ?_ fun h₁ f1' hz₁ sz₁ hs₁ => ?_)
  · simp only [if_true]
    refine wpAny_bind (wpAny_rule ?_)
    refine wpAny_bind (wpAny_field hz rfl (x := .ref TO) rfl ?_)
    refine wpAny_bind (wpAny_setField_rec hz (by simp) fun h₁ hz₁ hs₁ => ?_)
    replace hz₁ : ZipF h₁ z TI TO .ellipsis f1 := hz₁
    refine wpAny_bind ?_
    simp only [List.zipIdx_cons, List.zipIdx_nil, List.forIn_cons, List.forIn_nil]
    refine wpAny_bind (wpAny_bind (wpAny_onRaise ?_))
    show wpAny _ _ (Builtin.SmallTypes.nextOf (.ref i1) >>= _) _ _ _
    refine wpAny_bind (wpAny_nextOf_list_item (h1.extBut hs₁.extBut D.i1z) (hl1.extBut hs₁.extBut D.l1z) hx fun h₂ h1₂ hs₂ => wpAny_pure ?_)
    have hTO₂ : IsPair h₂ TO a b := hs₂.extBut _ _ D.TOi1 (hs₁.extBut _ _ D.TOz hTO)
    refine wpAny_bind (wpAny_seqItems hTO₂ rfl ?_)
    refine wpAny_bind (wpAny_updateSeq_pair hTO₂ fun h₃ hTO₃ hs₃ => ?_)
    replace hTO₃ : IsPair h₃ TO x b := hTO₃
    refine wpAny_bind (wpAny_letGo (wpAny_pure ?_))
    refine wpAny_bind (wpAny_bind (wpAny_onRaise ?_))
    show wpAny _ _ (Builtin.SmallTypes.nextOf (.ref i2) >>= _) _ _ _
    refine wpAny_bind (drawT_item (((h2.extBut hs₁.extBut D.i2z).extBut hs₂.extBut D.i12.symm).extBut hs₃.extBut D.TOi2.symm)
      (tupExt (tupExt (tupExt hl2 hs₁.extBut D.l2z) hs₂.extBut D.l2i1) hs₃.extBut D.l2TO) hy fun h₄ h2₄ hs₄ => wpAny_pure ?_)
    have hTO₄ : IsPair h₄ TO x b := hs₄.extBut _ _ D.TOi2 hTO₃
    refine wpAny_bind (wpAny_seqItems hTO₄ rfl ?_)
    refine wpAny_bind (wpAny_updateSeq_pair hTO₄ fun h₅ hTO₅ hs₅ => ?_)
    replace hTO₅ : IsPair h₅ TO x y := hTO₅
    refine wpAny_bind (wpAny_letGo (wpAny_pure (wpAny_pure ?_)))
    refine wpAny_bind (wpAny_seqItems hTO₅ rfl ?_)
    refine wpAny_bind (wpAny_newTuple ?_)
    have hsz : h₅.objs.size = s.heap.objs.size := by rw [hs₅.1, hs₄.1, hs₃.1, hs₂.1, hs₁.1]
    have hz₅ : ZipF h₅ z TI TO .ellipsis f1 := hs₅.extBut _ _ D.TOz.symm (hs₄.extBut _ _ D.i2z.symm (hs₃.extBut _ _ D.TOz.symm (hs₂.extBut _ _ D.i1z.symm hz₁)))
    have hk₅ : ∀ c o, c ≠ z → c ≠ TO → c ≠ i1 → c ≠ i2 → s.heap.get? c = some o → h₅.get? c = some o := fun c o c1 c2 c3 c4 e =>
      hs₅.extBut _ _ c2 (hs₄.extBut _ _ c4 (hs₃.extBut _ _ c2 (hs₂.extBut _ _ c3 (hs₁.extBut _ _ c1 e))))
    have h1₅ : h₅.IsListIter i1 t1 (i + 1) := ((h1₂.extBut hs₃.extBut D.TOi1.symm).extBut hs₄.extBut D.i12).extBut hs₅.extBut D.TOi1.symm
    have h2₅ : h₅.IsTupleIter i2 t2 (i + 1) := h2₄.extBut hs₅.extBut D.TOi2.symm
    have hzlt : z < h₅.objs.size := Heap.lt_size hz₅
    show wpAny _ _ (Builtin.SmallTypes.ownedTupleHandOut (.ref z) (.ref h₅.objs.size) >>= _) _ _ _
    refine wpAny_bind ?_
    unfold Builtin.SmallTypes.ownedTupleHandOut
    have hz₆ : ZipF (h₅.push { cls := .type "tuple", data := .seq #[x, y] }) z TI TO .ellipsis f1 := Heap.get?_push_of_some _ hz₅
    refine wpAny_bind (wpAny_setField_rec hz₆ (by simp) fun h₇ hz₇ hs₇ => ?_)
    replace hz₇ : ZipF h₇ z TI TO (rawInt h₅.objs.size) f1 := hz₇
    refine wpAny_setField_rec hz₇ (by simp) fun h₈ hz₈ hs₈ => ?_
    replace hz₈ : ZipF h₈ z TI TO (rawInt h₅.objs.size) (.bool false) := hz₈
    have up : ∀ c o, c ≠ z → h₅.get? c = some o → h₈.get? c = some o := fun c o c1 e => hs₈.extBut _ _ c1 (hs₇.extBut _ _ c1 (Heap.get?_push_of_some _ e))
    have hT₈ : IsPair h₈ h₅.objs.size x y := hs₈.extBut _ _ (Nat.ne_of_gt hzlt) (hs₇.extBut _ _ (Nat.ne_of_gt hzlt) (Heap.get?_push_size _ rfl))
    have al : ∀ c o, c ≠ z → c ≠ TO → c ≠ i1 → c ≠ i2 → s.heap.get? c = some o → h₈.get? c = some o := fun c o c1 c2 c3 c4 e => up c o c1 (hk₅ c o c1 c2 c3 c4 e)
    refine wpAny_pure ⟨_, rfl, hQ h₈ h₅.objs.size (Nat.le_of_eq hsz.symm) ⟨⟨_, _, .inr ⟨_, _, rfl⟩, hz₈⟩, al _ _ D.TIz D.TITO D.TIi1 D.TIi2 hTI, ⟨_, _, up _ _ D.TOz hTO₅⟩, h1₅.at fun o e => up _ o D.i1z e, h2₅.at fun o e => up _ o D.i2z e, ?_, ?_⟩ hT₈ al⟩
    · obtain ⟨o, e1, e2⟩ := hl1
      exact ⟨o, al _ _ D.l1z D.l1TO D.l1i1 D.l1i2 e1, e2⟩
    · obtain ⟨o, e1, e2⟩ := hl2
      exact ⟨o, al _ _ D.l2z D.l2TO D.l2i1 D.l2i2 e1, e2⟩
  · simp only [Bool.false_eq_true, if_false]
    refine wpAny_bind ?_
    simp only [List.forIn_toArray, List.forIn_cons, List.forIn_nil]
    refine wpAny_bind (wpAny_bind (wpAny_holding ?_))
    show wpAny _ _ (Builtin.SmallTypes.nextOf (.ref i1) >>= _) _ _ _
    refine wpAny_bind (wpAny_nextOf_list_item (s := { s with heap := h₁ }) (h1.extBut hs₁ D.i1z) (hl1.extBut hs₁ D.l1z) hx fun h₂ h1₂ hs₂ => wpAny_pure ?_)
    refine wpAny_pure ?_
    refine wpAny_bind (wpAny_bind (wpAny_holding ?_))
    show wpAny _ _ (Builtin.SmallTypes.nextOf (.ref i2) >>= _) _ _ _
    refine wpAny_bind (drawT_item (z := { s with heap := h₂ }) ((h2.extBut hs₁ D.i2z).extBut hs₂.extBut D.i12.symm) (tupExt (tupExt hl2 hs₁ D.l2z) hs₂.extBut D.l2i1) hy fun h₃ h2₃ hs₃ => wpAny_pure ?_)
    refine wpAny_pure (wpAny_pure ?_)
    refine wpAny_bind (wpAny_newTuple ?_ (by show 2 ≤ sizeLine; decide))
    have hsz : h₃.objs.size = s.heap.objs.size := by rw [hs₃.1, hs₂.1]; exact sz₁
    have al : ∀ c o, c ≠ z → c ≠ i1 → c ≠ i2 → s.heap.get? c = some o → (h₃.push { cls := .type "tuple", data := .seq #[x, y] }).get? c = some o := fun c o c1 c3 c4 e =>
      Heap.get?_push_of_some _ (hs₃.extBut _ _ c4 (hs₂.extBut _ _ c3 (hs₁ _ _ c1 e)))
    have u3 : ∀ c o, h₃.get? c = some o → (h₃.push { cls := .type "tuple", data := .seq #[x, y] }).get? c = some o := fun c o e => Heap.get?_push_of_some _ e
    refine wpAny_pure ⟨_, rfl, hQ _ h₃.objs.size (Nat.le_of_eq hsz.symm) ⟨⟨_, _, h0, u3 _ _ (hs₃.extBut _ _ D.i2z.symm (hs₂.extBut _ _ D.i1z.symm hz₁))⟩, al _ _ D.TIz D.TIi1 D.TIi2 hTI, ⟨_, _, al _ _ D.TOz D.TOi1 D.TOi2 hTO⟩, (h1₂.extBut hs₃.extBut D.i12).at fun o e => u3 _ o e, h2₃.at fun o e => u3 _ o e, ?_, ?_⟩ (Heap.get?_push_size _ rfl) fun c o c1 _ c3 c4 e => al c o c1 c3 c4 e⟩
    · obtain ⟨o, e1, e2⟩ := hl1
      exact ⟨o, al _ _ D.l1z D.l1i1 D.l1i2 e1, e2⟩
    · obtain ⟨o, e1, e2⟩ := hl2
      exact ⟨o, al _ _ D.l2z D.l2i1 D.l2i2 e1, e2⟩
theorem zipB_over {z TI TO i1 i2 t1 t2 : Addr} {i : Nat} {xs ys : Array Value} {Q : Fin → Shared → Prop} (hh : A.handled = none) (D : ZipApart z TI TO i1 i2 t1 t2) (Z : ZBt s.heap z TI TO i1 i2 t1 t2 xs ys i) (hx : xs[i]? = none)
    (hE : ∀ h' e, (∀ c o, c ≠ z → c ≠ TO → c ≠ i1 → c ≠ i2 → s.heap.get? c = some o → h'.get? c = some o) → (∃ o, h'.get? e = some o ∧ o.cls = .type "StopIteration") → E (.ref e) { s with heap := h' }) :
    wpAny (model prog w) A (Builtin.«zip.__next__» ⟨[.ref z], []⟩) Q E s := by
  obtain ⟨⟨f0, f1, h0, hz⟩, hTI, ⟨a, b, hTO⟩, h1, h2, hl1, hl2⟩ := Z
  show wpAny _ _ (field (.ref z) 2 >>= _) _ _ _
  refine wpAny_bind (wpAny_field hz rfl (x := .bool false) rfl ?_)
  show wpAny _ _ (field (.ref z) 3 >>= _) _ _ _
  refine wpAny_bind (wpAny_field hz rfl (x := .ref TI) rfl ?_)
  refine wpAny_bind (wpAny_seqItems hTI rfl ?_)
  show wpAny _ _ (Builtin.SmallTypes.ownedTupleIsFree (.ref z) >>= _) _ _ _
  refine wpAny_bind (zip_free h0 hz ?_ fun h₁ f1' hz₁ sz₁ hs₁ => ?_)
  · simp only [if_true]
    refine wpAny_bind (wpAny_rule ?_)
    refine wpAny_bind (wpAny_field hz rfl (x := .ref TO) rfl ?_)
    refine wpAny_bind (wpAny_setField_rec hz (by simp) fun h₁ hz₁ hs₁ => ?_)
    replace hz₁ : ZipF h₁ z TI TO .ellipsis f1 := hz₁
    refine wpAny_bind ?_
    simp only [List.zipIdx_cons, List.zipIdx_nil, List.forIn_cons, List.forIn_nil]
    refine wpAny_bind (wpAny_bind (wpAny_onRaise ?_))
    show wpAny _ _ (Builtin.SmallTypes.nextOf (.ref i1) >>= _) _ _ _
    refine wpAny_bind (wpAny_nextOf_list_end hh (h1.extBut hs₁.extBut D.i1z) (hl1.extBut hs₁.extBut D.l1z) hx fun h₂ e hs₂ he => ?_)
    obtain ⟨oe, hoe, hce⟩ := he
    have hz₂ : ZipF h₂ z TI TO .ellipsis f1 := hs₂ _ _ D.i1z.symm hz₁
    have hez : e ≠ z := fun x => by subst x; rw [hz₂] at hoe; cases hoe; simp at hce
    refine wpAny_setField_rec hz₂ (by simp) fun h₃ _ hs₃ => hE h₃ e (fun c o c1 _ c3 _ x => hs₃.extBut _ _ c1 (hs₂ _ _ c3 (hs₁.extBut _ _ c1 x))) ⟨oe, hs₃.extBut _ _ hez hoe, hce⟩
  · simp only [Bool.false_eq_true, if_false]
    refine wpAny_bind ?_
    simp only [List.forIn_toArray, List.forIn_cons, List.forIn_nil]
    refine wpAny_bind (wpAny_bind (wpAny_holding ?_))
    show wpAny _ _ (Builtin.SmallTypes.nextOf (.ref i1) >>= _) _ _ _
    refine wpAny_bind (wpAny_nextOf_list_end (s := { s with heap := h₁ }) hh (h1.extBut hs₁ D.i1z) (hl1.extBut hs₁ D.l1z) hx fun h₂ e hs₂ he => ?_)
    exact hE h₂ e (fun c o c1 _ c3 _ x => hs₂ _ _ c3 (hs₁ _ _ c1 x)) he
theorem nextB_zip {z TI TO i1 i2 t1 t2 : Addr} {i : Nat} {xs ys : Array Value} {x y : Value} {Q : Option Value → Shared → Prop} (D : ZipApart z TI TO i1 i2 t1 t2) (Z : ZBt s.heap z TI TO i1 i2 t1 t2 xs ys i) (hx : xs[i]? = some x) (hy : ys[i]? = some y)
    (hQ : ∀ h' T, s.heap.objs.size ≤ T → ZBt h' z TI TO i1 i2 t1 t2 xs ys (i + 1) → IsPair h' T x y → (∀ c o, c ≠ z → c ≠ TO → c ≠ i1 → c ≠ i2 → s.heap.get? c = some o → h'.get? c = some o) → Q (some (.ref T)) { s with heap := h' }) :
    wpAny (model prog w) A (pyNext (.ref z)) Q E s := by
  have hT : s.TypeIs (.ref z) "zip" := by obtain ⟨f0, f1, _, hz⟩ := Z.z; exact ⟨_, hz, rfl⟩
  unfold pyNext
  exact wpAny_bind (wpAny_attempt (wpAny_callSpecial?_slot (name := Str.ofString "__next__") hT F.slot_zip_next
    (wpAny_call_entry F.slot_zip_next hT F.entry_zip_next
      (zipB_draw D Z hx hy fun h' T a1 a2 a3 a4 => wpAny_pure (hQ h' T a1 a2 a3 a4)) (F.args_zip_next_1 _))))
theorem nextB_over {z TI TO i1 i2 t1 t2 : Addr} {i : Nat} {xs ys : Array Value} {Q : Option Value → Shared → Prop} (hh : A.handled = none) (D : ZipApart z TI TO i1 i2 t1 t2) (Z : ZBt s.heap z TI TO i1 i2 t1 t2 xs ys i) (hx : xs[i]? = none)
    (hQ : ∀ h', (∀ c o, c ≠ z → c ≠ TO → c ≠ i1 → c ≠ i2 → s.heap.get? c = some o → h'.get? c = some o) → Q none { s with heap := h' }) : wpAny (model prog w) A (pyNext (.ref z)) Q E s := by
  have hT : s.TypeIs (.ref z) "zip" := by obtain ⟨f0, f1, _, hz⟩ := Z.z; exact ⟨_, hz, rfl⟩
  unfold pyNext
  refine wpAny_bind (wpAny_attempt (wpAny_callSpecial?_slot (name := Str.ofString "__next__") hT F.slot_zip_next
    (wpAny_call_entry F.slot_zip_next hT F.entry_zip_next (zipB_over hh D Z hx fun h' e hk he => ?_) (F.args_zip_next_1 _))))
  obtain ⟨o, ho, hc⟩ := he
  refine wpAny_bind (wpAny_isInstance (T := "StopIteration") (b := true) ⟨o, ho, hc⟩ isSubtype_stop ?_)
  exact wpAny_pure (hQ _ hk)
end
section
variable {X : Cx} {pins : List (Addr × Obj)} {σ : St}
theorem zipB_loop {H0 : Hp} {S z TI TO i1 i2 t1 t2 : Addr} {xs ys : List V} {us ws : List Value} (hc : X.calm = true) {A : Around} (hA : A.handled = none) (D : ZipApart z TI TO i1 i2 t1 t2) (v1 : Vals xs us) (v2 : Vals ys ws) (hl : xs.length = ys.length) (hz : xs.length ≤ sizeLine)
    (nS : S ≠ z ∧ S ≠ TO ∧ S ≠ i1 ∧ S ≠ i2 ∧ S ≠ TI ∧ S ≠ t1 ∧ S ≠ t2) {R : Result → Shared → Prop} (hR : ∀ s' H', Inv X pins σ H' s' → Zipd H0 S xs ys xs.length H' → R (.ok (.ret .none)) s') :
    ∀ (k i : Nat) (s : Shared) (H : Hp), xs.length - i = k → i ≤ xs.length → Inv X pins σ H s → (∀ b ∈ [z, TO, i1, i2], FpOk X pins H b) → ZBt s.heap z TI TO i1 i2 t1 t2 us.toArray ws.toArray i → Zipd H0 S xs ys i H →
      codeAny (model X.prog X.w) A (.builtin "list.extend.loop" ⟨[.ref S, .ref z, .none], []⟩) R s := by
  have l1 := v1.length
  have l2 := v2.length
  intro k
  induction k with
  | zero =>
    intro i s H hk hi I hf Z zp
    have hin : i = xs.length := by omega
    subst hin
    refine codeAny_builtin F.entry_extend_loop ?_
    rw [Around.under_plainId F.plain_extend_loop _]
    show wpAny _ A.in1 (pyNext (.ref z) >>= _) _ _ s
    refine wpAny_bind (nextB_over (A := A.in1) hA D Z (by simp; omega) fun h' kk => ?_)
    refine wpAny_pure (hR _ H (I.turnedL (t' := s.toks) (ch := [z, TO, i1, i2]) (fun b o hb e => ?_) hf) zp)
    simp only [List.mem_cons, List.not_mem_nil, or_false, not_or] at hb
    exact kk b o hb.1 hb.2.1 hb.2.2.1 hb.2.2.2 e
  | succ k ih =>
    intro i s H hk hi I hf Z zp
    have hlt : i < xs.length := by omega
    have e1 : xs[i]? = some xs[i] := List.getElem?_eq_getElem hlt
    have e2 : ys[i]? = some (ys[i]'(by omega)) := List.getElem?_eq_getElem (by omega)
    obtain ⟨u1, f1, r1⟩ := v1.get e1
    obtain ⟨u2, f2, r2⟩ := v2.get e2
    refine codeAny_builtin F.entry_extend_loop ?_
    rw [Around.under_plainId F.plain_extend_loop _]
    show wpAny _ A.in1 (pyNext (.ref z) >>= _) _ _ s
    refine wpAny_bind (nextB_zip (A := A.in1) D Z (x := u1) (y := u2) (by simp [f1]) (by simp [f2]) fun h' T hT Z' hp kk => ?_)
    have nT : H T = none := I.hok.fresh hT
    have I1 : Inv X pins σ (upd H T (.tup [xs[i], ys[i]'(by omega)])) { s with heap := h', toks := s.toks } := by
      refine I.turnedLaid (a := T) (ch := [z, TO, i1, i2]) (fun b o hb e => ?_) hf hT ⟨by show 2 ≤ sizeLine; decide, [u1, u2], .cons r1 (.cons r2 .nil), ?_⟩
      · simp only [List.mem_cons, List.not_mem_nil, or_false, not_or] at hb
        exact kk b o hb.1 hb.2.1 hb.2.2.1 hb.2.2.2 e
      · exact ⟨_, hp, rfl, _, rfl⟩
    obtain ⟨sm, ps, pl, hS, pj⟩ := zp
    have hTS : S ≠ T := fun q => by rw [q, nT] at hS; cases hS
    have hS1 : upd H T (.tup [xs[i], ys[i]'(by omega)]) S = some (.lst (ps.map V.ref)) := by rw [upd_ne hTS]; exact hS
    obtain ⟨zz, its, n, rv, hll, hget⟩ := I1.lstM hS1
    have hl3 : its.length = i := by rw [← hll, List.length_map, pl]
    show wpAny _ A.in1 (updateSeq S (·.push (.ref T)) >>= _) _ _ _
    refine wpAny_bind ?_
    refine wpAny_updateSeq hget rfl (wpAny_pure ⟨plainId_quiet F.plain_extend_loop _, ?_⟩) (by rw [List.size_toArray]; omega) (by show (its.toArray.push (.ref T)).size ≤ sizeLine + 1; rw [Array.size_push, List.size_toArray]; omega)
    have I2 := I1.lset (ys := ps.map V.ref ++ [.ref T]) (t' := s.toks) (f := fun x => x.push (.ref T)) (its' := its ++ [.ref T]) hS1 hget (by simp) (rv.append (.cons (show RelV (.ref T) (Value.ref T) from rfl) .nil)) (by rw [List.length_append, List.length_map, pl]; show i + 1 ≤ sizeLine; omega)
    have kz : ∀ b o, b ≠ S → h'.get? b = some o → (h'.update S (Obj.mapSeq fun x => x.push (.ref T))).get? b = some o := fun b o hb e => (Heap.get?_update_other _ _ (Ne.symm hb)).trans e
    refine ih (i + 1) _ _ (by omega) hlt I2 (fun b hb => ?_) ?_ ?_
    · have q := hf b hb
      refine ⟨?_, q.2⟩
      have hbS : b ≠ S := fun z => by rw [z] at q; rw [q.1] at hS; cases hS
      have hbT : b ≠ T := fun y => by
        have lt : b < s.heap.objs.size := by
          simp only [List.mem_cons, List.not_mem_nil, or_false] at hb
          rcases hb with rfl | rfl | rfl | rfl
          · obtain ⟨_, _, _, e⟩ := Z.z; exact Heap.lt_size e
          · obtain ⟨_, _, e⟩ := Z.to; exact Heap.lt_size e
          · obtain ⟨_, e, _⟩ := Z.g1; exact Heap.lt_size e
          · obtain ⟨_, e, _⟩ := Z.g2; exact Heap.lt_size e
        exact absurd (Nat.lt_of_lt_of_le lt hT) (by rw [y]; exact Nat.lt_irrefl _)
      rw [upd_ne hbS, upd_ne hbT]
      exact q.1
    · obtain ⟨⟨f0, f1, h0, hz'⟩, hTI, ⟨a, b, hTO⟩, g1, g2, ul1, ul2⟩ := Z'
      refine ⟨⟨f0, f1, h0, kz _ _ nS.1.symm hz'⟩, kz _ _ nS.2.2.2.2.1.symm hTI, ⟨a, b, kz _ _ nS.2.1.symm hTO⟩, g1.at fun o e => kz _ o nS.2.2.1.symm e, g2.at fun o e => kz _ o nS.2.2.2.1.symm e, ?_, ?_⟩
      · obtain ⟨o, q1, q2⟩ := ul1; exact ⟨o, kz _ _ nS.2.2.2.2.2.1.symm q1, q2⟩
      · obtain ⟨o, q1, q2⟩ := ul2; exact ⟨o, kz _ _ nS.2.2.2.2.2.2.symm q1, q2⟩
    · refine ⟨fun b o hb e => ?_, ps ++ [T], by rw [List.length_append, pl]; rfl, by rw [upd_same, List.map_append]; rfl, fun j p hj => ?_⟩
      · have := sm b o hb e
        rw [upd_ne hb, upd_ne (ne_of_none this nT)]
        exact this
      · by_cases hji : j < ps.length
        · rw [List.getElem?_append_left hji] at hj
          obtain ⟨np, x, y, a1, a2, a3⟩ := pj j p hj
          refine ⟨np, x, y, a1, a2, ?_⟩
          rw [upd_ne np, upd_ne (ne_of_none a3 nT)]
          exact a3
        · rw [List.getElem?_append_right (by omega)] at hj
          have hj0 : j - ps.length = 0 := by
            cases q : j - ps.length with
            | zero => rfl
            | succ m => rw [q] at hj; simp at hj
          rw [hj0] at hj
          have hp' : T = p := by simpa using hj
          subst hp'
          have hji' : j = i := by omega
          subst hji'
          exact ⟨hTS.symm, _, _, e1, e2, by rw [upd_ne hTS.symm, upd_same]⟩
theorem listB_zip {H : Hp} {s : Shared} {z TI TO i1 i2 t1 t2 : Addr} {xs ys : List V} {us ws : List Value} {Q : VK} {E : Value → Shared → Prop} (hc : X.calm = true) (D : ZipApart z TI TO i1 i2 t1 t2) (v1 : Vals xs us) (v2 : Vals ys ws) (hl : xs.length = ys.length) (hz : xs.length ≤ sizeLine)
    (I : Inv X pins σ H s) (hf : ∀ b ∈ [z, TO, i1, i2], FpOk X pins H b) (Z : ZBt s.heap z TI TO i1 i2 t1 t2 us.toArray ws.toArray 0) (q : ∀ l H', H l = none → Zipd H l xs ys xs.length H' → Q (.ref l) H') :
    wpAny (model X.prog X.w) X.A (call (.type "list") [.ref z]) (EP X pins σ Q) E s := by
  refine callType_codes (Q₁ := fun obj s₁ => obj = .ref s.heap.objs.size ∧ s₁ = { s with heap := s.heap.push { cls := .type "list", data := .seq #[] } }) F.called_list (F.typeCall_list_1 _) F.entry_list_init
    (code_list_new _ ⟨rfl, rfl⟩) fun obj s₁ h₁ => ?_
  obtain ⟨rfl, rfl⟩ := h₁
  have hS : (s.heap.push { cls := .type "list", data := .seq #[] }).get? s.heap.objs.size = some { cls := .type "list", data := .seq #[] } := Heap.get?_push_size _ rfl
  have nH : H s.heap.objs.size = none := I.fresh
  obtain ⟨⟨f0, f1, h0, hz'⟩, hTI, ⟨a, b, hTO⟩, g1, g2, ul1, ul2⟩ := Z
  have ne : ∀ {c o}, s.heap.get? c = some o → s.heap.objs.size ≠ c := fun e => Nat.ne_of_gt (Heap.lt_size e)
  have nS : s.heap.objs.size ≠ z ∧ s.heap.objs.size ≠ TO ∧ s.heap.objs.size ≠ i1 ∧ s.heap.objs.size ≠ i2 ∧ s.heap.objs.size ≠ TI ∧ s.heap.objs.size ≠ t1 ∧ s.heap.objs.size ≠ t2 := by
    obtain ⟨o1, e1, _⟩ := g1
    obtain ⟨o2, e2, _⟩ := g2
    obtain ⟨o3, e3, _⟩ := ul1
    obtain ⟨o4, e4, _⟩ := ul2
    exact ⟨ne hz', ne hTO, ne e1, ne e2, ne hTI, ne e3, ne e4⟩
  have key : ∀ (h : Heap) (c : Nat), (∀ b o, b ≠ s.heap.objs.size → s.heap.get? b = some o → h.get? b = some o) → h.get? s.heap.objs.size = some { cls := .type "list", data := .seq #[] c } →
      codeAny (model X.prog X.w) X.A.in1 (.builtin "list.extend.loop" ⟨[.ref s.heap.objs.size, .ref z, .none], []⟩) (wants (fun r s₂ => r = .none ∧ EP X pins σ Q (.ref s.heap.objs.size) s₂) E) { s with heap := h } := by
    intro h c kp hg
    have kq : ∀ b o, s.heap.get? b = some o → h.get? b = some o := fun b o e => kp b o (ne e).symm e
    have I1 : Inv X pins σ (upd H s.heap.objs.size (.lst [])) { s with heap := h, toks := s.toks } := I.laid kq (Nat.le_refl _) ⟨Nat.zero_le _, [], c, .nil, hg⟩
    refine zipB_loop (H0 := H) hc (A := X.A.in1) (I.ok.hd hc) D v1 v2 hl hz nS (fun s' H' I' zp => ⟨rfl, .ref s.heap.objs.size, H', I', rfl, q _ _ nH zp⟩) _ 0 { s with heap := h } _ rfl (Nat.zero_le _) I1 (fun b hb => ?_) ?_ ?_
    · have y := hf b hb
      refine ⟨?_, y.2⟩
      rw [upd_ne (fun e => ?_)]
      · exact y.1
      · simp only [List.mem_cons, List.not_mem_nil, or_false] at hb
        rcases hb with rfl | rfl | rfl | rfl
        · exact nS.1 e.symm
        · exact nS.2.1 e.symm
        · exact nS.2.2.1 e.symm
        · exact nS.2.2.2.1 e.symm
    · refine ⟨⟨f0, f1, h0, kq _ _ hz'⟩, kq _ _ hTI, ⟨a, b, kq _ _ hTO⟩, g1.at fun o e => kq _ o e, g2.at fun o e => kq _ o e, ?_, ?_⟩
      · obtain ⟨o, q1, q2⟩ := ul1; exact ⟨o, kq _ _ q1, q2⟩
      · obtain ⟨o, q1, q2⟩ := ul2; exact ⟨o, kq _ _ q1, q2⟩
    · refine ⟨fun b o hb e => by rw [upd_ne hb]; exact e, [], rfl, by rw [upd_same]; rfl, fun j p hj => by simp at hj⟩
  have oth : ∀ (f : Array Value → Array Value) (h : Heap) b o, b ≠ s.heap.objs.size → h.get? b = some o → (h.update s.heap.objs.size (Obj.mapSeq f)).get? b = some o :=
    fun f h b o hb e => (Heap.get?_update_other _ _ (Ne.symm hb)).trans e
  refine ⟨⟨_, hS, rfl⟩, F.args_list_init_2 _ _, ?_⟩
  show wpAny _ X.A.in1.in1 (do let old ← Builtin.List.listItems (.ref s.heap.objs.size); Builtin.List.listUpdate (.ref s.heap.objs.size) (fun _ => #[]); letGo old.toList.reverse; Builtin.List.listExtendWith (.ref s.heap.objs.size) (.ref z) .none) _ _ _
  refine wpAny_bind ?_
  unfold Builtin.List.listItems
  refine wpAny_bind (wpAny_seqItems hS rfl (wpAny_pure ?_))
  show wpAny _ X.A.in1.in1 (updateSeq s.heap.objs.size (fun _ => #[]) >>= fun _ => letGo (#[] : Array Value).toList.reverse >>= fun _ => Builtin.List.listExtendWith (.ref s.heap.objs.size) (.ref z) .none) _ _ _
  refine wpAny_bind (wpAny_updateSeq hS rfl ?_)
  have hS₂ := Heap.get?_update_self (Obj.mapSeq (fun _ => (#[] : Array Value))) hS rfl
  refine wpAny_bind (wpAny_letGo ?_)
  have hzip : ((s.heap.push { cls := .type "list", data := .seq #[] }).update s.heap.objs.size (Obj.mapSeq (fun _ => (#[] : Array Value)))).get? z = some _ := oth _ _ _ _ nS.1.symm (Heap.get?_push_of_some _ hz')
  unfold Builtin.List.listExtendWith
  refine wpAny_bind (wpAny_typeOf (T := "zip") ⟨_, hzip, rfl⟩ ?_)
  have h1 : Builtin.List.listSameRef (.ref s.heap.objs.size) (.ref z) = false := by simp [Builtin.List.listSameRef, nS.1]
  rw [if_neg (by rw [h1]; decide)]
  refine wpAny_bind (PySem.wpAny_pyIter_slot (T := "zip") ⟨_, hzip, rfl⟩ F.slot_zip_iter (wpAny_call_entry F.slot_zip_iter ⟨_, hzip, rfl⟩ F.entry_zip_iter (wpAny_pure ⟨_, rfl, "zip", _, ⟨_, hzip, rfl⟩, F.slot_zip_next.lookup, ?_⟩) (F.args_zip_iter_1 _)))
  refine wpAny_bind (wpAny_holding (hint_zip ⟨_, hzip, rfl⟩ ?_))
  refine wpAny_ite_split (fun _ => ?_) (fun z => absurd rfl z)
  refine wpAny_bind (wpAny_rule ?_)
  refine wpAny_bind ?_
  show wpAny _ _ (updateSeq s.heap.objs.size (·.push .none) >>= fun _ => updateSeq s.heap.objs.size (·.pop)) _ _ _
  refine wpAny_bind (wpAny_updateSeq hS₂ rfl ?_)
  have hS₃ := Heap.get?_update_self (Obj.mapSeq (·.push Value.none)) hS₂ rfl
  refine wpAny_updateSeq (hz := by seq_fits) hS₃ rfl ?_
  have hS₄ := Heap.get?_update_self (Obj.mapSeq (·.pop)) hS₃ rfl
  exact wpAny_pure ⟨plainId_quiet PySem.F.plain_extend_loop _, key _ _ (fun b o hb e => oth _ _ _ _ hb (oth _ _ _ _ hb (oth _ _ _ _ hb (Heap.get?_push_of_some _ e)))) hS₄⟩
end
def tLZipB (K : PySem.W.Frag) (ta : TA) : TE := fun σ H Q => ta σ H fun vs H1 => ∃ a b xs ys, vs = [.ref a, .ref b] ∧ SqL K H1 a xs ∧ SqT K H1 b ys ∧ xs.length = ys.length ∧ ∀ l H', H1 l = none → Zipd H1 l xs ys xs.length H' → Q (.ref l) H'
section
variable {X : Cx}
theorem pe_lzipB {a b : Expr} {ta : TA} {p q pos pos2 : Pos} (hc : X.calm = true) (hg1 : Gl X "list") (hm1 : X.mg "list" = none) (hg2 : Gl X "zip") (hm2 : X.mg "zip" = none) (ha : PA X [a, b] ta) (he : starEach [a, b] X.env = (false, eval a X.env) :: starEach [b] X.env := by rfl)
    (hpl : (backTo pos2 (starEach [b] X.env)).any (·.1) = false := by rfl) (hs : starEach [.Call (.Name "zip" q) [a, b] [] pos2] X.env = [(false, eval (.Call (.Name "zip" q) [a, b] [] pos2) X.env)] := by rfl) :
    PE X (.Call (.Name "list" p) [.Call (.Name "zip" q) [a, b] [] pos2] [] pos) (tLZipB X.K ta) := by
  intro pins s σ H Q I h
  refine wpAny_Call_Name_kw (ld_blt I hg1 hm1 (by decide +kernel : bootBuiltins "list" = some (.type "list")) ?_)
  refine PyProof.Rows.callWith_type1 ?_ (by rw [hs]; rfl) rfl
  rw [hs]
  show wpAny _ _ (spliced [(false, eval (.Call (.Name "zip" q) [a, b] [] pos2) X.env)]) _ _ s
  refine Calls.spliced_cons ?_
  refine wpAny_Call_Name_kw (ld_blt I hg2 hm2 (by decide +kernel : bootBuiltins "zip" = some (.type "zip")) ?_)
  refine PyProof.Rows.callWith_type1 (thn (ha pos2 pins s σ H _ I h) fun us s1 ⟨vs, H1, I1, r1, q1⟩ => ?_) he hpl
  obtain ⟨x, y, xs, ys, rfl, hx, hy, hl, q1⟩ := q1
  cases r1 with
  | cons r rr =>
    cases rr with
    | cons r' rr =>
      cases rr
      cases r
      cases r'
      obtain ⟨its, v1, pl, hz⟩ := I1.list hx
      obtain ⟨its2, v2, pl2, hz2⟩ := I1.tuple hy
      refine call_zipL pl.isList (show s1.heap.IsTuple y its2.toArray from pl2) fun h' Z D kk => ?_
      refine Calls.spliced_nil ?_
      have I2 : Inv X pins σ H1 { s1 with heap := h', toks := s1.toks } := I1.kept (t' := s1.toks) kk
      refine listB_zip hc D v1 v2 hl hz I2 (fun b hb => ?_) ⟨⟨_, _, .inl rfl, Z.z⟩, Z.ti, Z.to, Z.g1, Z.g2, pl.isList.at fun o e => kk _ o e, tupAt (show s1.heap.IsTuple y its2.toArray from pl2) kk⟩ q1
      have fr : s1.heap.objs.size ≤ b := by
        simp only [List.mem_cons, List.not_mem_nil, or_false] at hb
        rcases hb with rfl | rfl | rfl | rfl
        · exact Nat.le_add_right _ _
        · exact Nat.le_add_right _ _
        · exact Nat.le_refl _
        · exact Nat.le_add_right _ _
      exact I1.fpOk fr (I1.hok.fresh fr)
end
end L2

set_option Elab.async false
set_option linter.all false
set_option maxRecDepth 100000
set_option maxHeartbeats 4000000
namespace L2
open PySem PySem.Spec PyProof.Rows
section
variable {A : Around} {E : Value → Shared → Prop} {nm q : Str} {C N : Addr} {bs bm : List Value} {hdct : Bool} {sn : List Str} {sub : List Value} {ab : Bool} {col : Option Bool} {dd : Option Addr} {k0 k1 k2 k3 k5 : Option Value} {newId : String} {s : Shared}
/-- the class of an exception, asked as an attribute -/
theorem class_exc? {prog : Program} {w : World} {K : PySem.W.Frag} {x : Addr} {ox od : Obj} {Q : Option Value → Shared → Prop} (KX : K.In s.heap) (hk : K.lookup C = some (excClassObj nm q C N bs bm hdct sn sub ab col dd k0 k1 k2 k3 k5 newId))
    (hB : (Value.ref C :: bm).contains (.type "BaseException") = true) (J : PySem.W.InstAt s.heap x ox C (some od)) (hg : PySem.W.findIn K (.ref C) "__getattribute__" = some (some (.builtin "BaseException.__getattribute__"))) (hn : PySem.W.findIn K (.ref C) "__getattr__" = some none)
    (hf : PySem.W.findObj K C (some od) "__class__" = some (.bind (.builtin "getset_descriptor.__get__") (.builtin "object.__class__"))) (hm : PySem.W.mroIn K C (.type "object") = some true) (h : Q (some (.ref C)) { s with toks := s.toks + 1 }) : wpAny (model prog w) A (getAttr? (.ref x) "__class__") Q E s := by
  have hC := KX _ _ hk
  obtain ⟨hx, hc, hno, _⟩ := id J
  have stay : ∀ b o, s.heap.get? b = some o → s.heap.get? b = some o := fun _ _ e => e
  unfold getAttr? getAttrBy? getAttrBy
  refine wpAny_bind (wpAny_mkText ?_)
  refine wpAny_bind (wpAny_attempt (wpAny_holding ?_))
  refine wpAny_bind (ty_ref hx ?_)
  rw [hc]
  refine wpAny_bind (PySem.W.looks_findIn KX hg _ _ _ _ stay ?_)
  refine wpAny_ite_false rfl ?_
  refine wpAny_bind (wpAny_ite_true rfl (PySem.W.looks_findIn KX hn _ _ _ _ stay ?_))
  refine wpAny_bind (wpAny_attempt (wpAny_holding ?_))
  refine wpAny_ite_false rfl ?_
  refine wpAny_bind (wpAny_of_eq (F.attr_ValueError.ga.bind _) ?_)
  refine wpAny_call (codeAny_call_builtin F.attr_ValueError.ga.plain F.entry_bexc_ga (check_ga hB hC hx hc ?_))
  refine wpAny_bind ?_
  unfold slotArgs
  refine wpAny_ite_false rfl (wpAny_ite_false rfl (wpAny_pure ?_))
  refine wpAny_bind (wpAny_pure ?_)
  refine wpAny_bind (ty_ref hx ?_)
  rw [hc]
  refine wpAny_bind (PySem.W.looks_find KX J hf _ _ _ _ stay ?_)
  show wpAny _ _ (Builtin.ObjectAttr.bindTo _ _ _ _) _ _ _
  show wpAny _ _ (holding [Value.builtin "object.__class__"] (call (.builtin "getset_descriptor.__get__") [.builtin "object.__class__", .ref x, .ref C]) >>= ret) _ _ _
  refine wpAny_bind (wpAny_holding (wpAny_call (PySem.W.class_get (s := { s with toks := s.toks + 1 }) (ox := ox) (od := some od) KX J hm ?_)))
  refine wpAny_pure ?_
  exact wpAny_of_eq (PySem.W.handedOut_of (v := .ref C) rfl) (wpAny_pure h)
/-- an exception that was caught, for isinstance -/
theorem kitx_exc {K : PySem.W.Frag} {x : Addr} (hk : K.lookup C = some (excClassObj nm q C N bs bm hdct sn sub ab col dd k0 k1 k2 k3 k5 newId))
    (hB : (Value.ref C :: bm).contains (.type "BaseException") = true) (hg : PySem.W.findIn K (.ref C) "__getattribute__" = some (some (.builtin "BaseException.__getattribute__"))) (hn : PySem.W.findIn K (.ref C) "__getattr__" = some none)
    (ha : PySem.W.findIn K (.ref C) "__class__" = some (some (.builtin "object.__class__")))
    (hs : PySem.W.specialIn K (.builtin "object.__class__") "__get__" = some (some (.builtin "getset_descriptor.__get__"))) (htk : PySem.W.takesIn K (.builtin "object.__class__") = some true) (hm : PySem.W.mroIn K C (.type "object") = some true) :
    PySem.W.KitX K (.ref x) (.ref C) (fun h => ∃ ox od, PySem.W.InstAt h x ox C (some od)) where
  ty := fun _ _ _ ⟨_, _, I⟩ => I.type
  it := fun _ _ X _ => by
    intro A' Q' E' s' k z
    exact class_is (k _ _ (X _ _ hk)) z
  ne := fun h tp dd its n sl X htp => by
    refine Bool.eq_false_iff.mpr fun z => ?_
    have e : C = tp := Value.ref.inj (beq_iff_eq.mp z)
    subst e
    have z := congrArg (Option.map Obj.data) ((X _ _ hk).symm.trans htp)
    cases z
  ca := fun X ⟨ox, od, I⟩ k => class_exc? X hk hB I hg hn (PySem.W.findObj_data (by unfold PySem.W.clsIn; rw [hk]; rfl) ha hs htk) hm k
end
/-- what isinstance asks of a class of exceptions -/
structure ExI (K : PySem.W.Frag) (C : Addr) : Prop where
  ca : PySem.W.findIn K (.ref C) "__class__" = some (some (.builtin "object.__class__"))
  sp : PySem.W.specialIn K (.builtin "object.__class__") "__get__" = some (some (.builtin "getset_descriptor.__get__"))
  tk : PySem.W.takesIn K (.builtin "object.__class__") = some true
  mr : PySem.W.mroIn K C (.type "object") = some true
section
variable {X : Cx} {C fI : Addr}
/-- isinstance(er, c): c one class -/
theorem call_isiX (c : ExC X.K C fI) (i : ExI X.K C) : CallR X (.builtin "isinstance") (fun xs H Q => ∃ (a d : Addr) (fs : List (Str × V)) (D : V) (cv : Value) (b : Bool), xs = [.ref a, D] ∧ H a = some (excO C a d) ∧ H d = some (.xd fs) ∧ (∀ u, RelV D u → u = cv) ∧ PySem.W.kitOne X.K (.ref C) cv = some b ∧ Q (.bl b) H) := by
  intro pins s σ H xs us Q I r h
  obtain ⟨a, d, fs, D, cv, b, rfl, Ha, Hd, hcv, e, z⟩ := h
  obtain ⟨u, w', rfl, ru, rw'⟩ := vals2 r
  cases ru
  cases hcv _ rw'
  obtain ⟨nm, q, N, bs, bm, sn, sub, ab, col, dd, k0, k1, k2, k3, k5, hk, hB, hB2, _, _, _, _⟩ := c.lk
  obtain ⟨⟨vs, ho⟩, _, _⟩ := I.hok a _ Ha
  obtain ⟨mA, n1, rl⟩ := I.hok d _ Hd
  obtain ⟨od, hod, look⟩ := lookIn_ns n1
  have J : PySem.W.InstAt s.heap a { cls := .ref C, dict := some d, data := .fields vs } C (some od) := ⟨ho, rfl, rfl, hod⟩
  exact PySem.W.kia_one (kitx_exc hk (by rw [List.contains_cons, hB2, Bool.or_true]) c.ga c.gn i.ca i.sp i.tk i.mr) I.kIn ⟨_, _, J⟩ e (fun z => nomatch z) fun tk => ⟨.bl b, H, I.tok _, rfl, z⟩
theorem valsR : ∀ {as : List Addr} {us : List Value}, Vals (as.map V.ref) us → us = as.map Value.ref
  | [], us, r => by cases r; rfl
  | a :: as, us, r => by
    cases r with
    | cons r1 r2 => cases r1; rw [valsR r2]; rfl
/-- isinstance(er, (c, ..)): own classes -/
theorem call_isiXT (c : ExC X.K C fI) (i : ExI X.K C) : CallR X (.builtin "isinstance") (fun xs H Q => ∃ (a d tp : Addr) (fs : List (Str × V)) (as : List Addr) (b : Bool), xs = [.ref a, .ref tp] ∧ H a = some (excO C a d) ∧ H d = some (.xd fs) ∧ H tp = some (.tup (as.map V.ref)) ∧ PySem.W.kitAny X.K (.ref C) (as.map Value.ref) = some b ∧ Q (.bl b) H) := by
  intro pins s σ H xs us Q I r h
  obtain ⟨a, d, tp, fs, as, b, rfl, Ha, Hd, Ht, e, z⟩ := h
  obtain ⟨u, w', rfl, ru, rw'⟩ := vals2 r
  cases ru
  cases rw'
  obtain ⟨nm, q, N, bs, bm, sn, sub, ab, col, dd, k0, k1, k2, k3, k5, hk, hB, hB2, _, _, _, _⟩ := c.lk
  obtain ⟨⟨vs, ho⟩, _, _⟩ := I.hok a _ Ha
  obtain ⟨mA, n1, rl⟩ := I.hok d _ Hd
  obtain ⟨od, hod, look⟩ := lookIn_ns n1
  have J : PySem.W.InstAt s.heap a { cls := .ref C, dict := some d, data := .fields vs } C (some od) := ⟨ho, rfl, rfl, hod⟩
  obtain ⟨_, its, rv, p⟩ := (show ObjOk X.prog X.w H s.heap tp (.tup (as.map V.ref)) from I.hok tp _ Ht)
  obtain ⟨o, h1, h2, n, h3⟩ := p
  cases valsR rv
  obtain ⟨oc, od', oda, osl⟩ := o
  cases h2
  cases h3
  exact PySem.W.kia_tup (kitx_exc hk (by rw [List.contains_cons, hB2, Bool.or_true]) c.ga c.gn i.ca i.sp i.tk i.mr) I.kIn ⟨_, _, J⟩ h1 e (fun z => nomatch z) fun tk => ⟨.bl b, H, I.tok _, rfl, z⟩
end
end L2

set_option Elab.async false
set_option linter.all false
set_option maxRecDepth 100000
set_option maxHeartbeats 4000000
namespace L2
open PySem PySem.Spec PyProof.Rows
section
variable {M : Model} {A : Around} {E : Value → Shared → Prop} {nm q nm' q' : Str} {C N B N' : Addr} {bs bm bs' bm' : List Value} {hdct hdct' : Bool} {sn sn' : List Str} {sub sub' : List Value} {ab ab' : Bool} {col col' : Option Bool} {dd dd' : Option Addr} {k0 k1 k2 k3 k5 k0' k1' k2' k3' k5' : Option Value} {newId newId' : String}
/-- an exception is met by a class above its own -/
theorem exc_sup {h : Heap} {g : Array GenState} {d : Drawn} {t : Nat} {os : OsState} {e : Addr} {oe : Obj} {Q : Bool → Shared → Prop}
    (hC : h.get? C = some (excClassObj nm q C N bs bm hdct sn sub ab col dd k0 k1 k2 k3 k5 newId)) (hBo : h.get? B = some (excClassObj nm' q' B N' bs' bm' hdct' sn' sub' ab' col' dd' k0' k1' k2' k3' k5' newId')) (he : h.get? e = some oe) (hcls : oe.cls = .ref C)
    (hbase : bm'.contains (.type "BaseException") = true) (hCB : bm.contains (.ref B) = true) (hq : Q true ⟨h, g, d, t, os⟩) : wpAny M A (excMatches (.ref e) (.ref B)) Q E ⟨h, g, d, t, os⟩ := by
  have hcB : (Value.ref B :: bm').contains (.type "BaseException") = true := by rw [List.contains_cons, hbase, Bool.or_true]
  have hcC : (Value.ref C :: bm).contains (.ref B) = true := by rw [List.contains_cons, hCB, Bool.or_true]
  have f := tc_notTuple
  unfold excMatches
  repeat (first | (with_reducible refine wpAny_loadPart_at he ?_; rw [hcls]) | with_reducible refine wpAny_loadPart_at hBo ?_ | (with_reducible refine wpAny_isSubtype_exc hBo ?_; rw [hcB]) | (with_reducible refine wpAny_isSubtype_exc hC ?_; rw [hcC]) | wp_step)
  exact hq
end
section
variable {prog : Program} {w : World} {A : Around} {E : Value → Shared → Prop} {env : Env} {nm q nm' q' : Str} {C N B N' : Addr} {bs bm bs' bm' : List Value} {hdct hdct' : Bool} {sn sn' : List Str} {sub sub' : List Value} {ab ab' : Bool} {col col' : Option Bool} {dd dd' : Option Addr} {k0 k1 k2 k3 k5 k0' k1' k2' k3' k5' : Option Value} {newId newId' : String} {s : Shared}
theorem handle_sup {e : Addr} {t : Expr} {n : Str} {b0 : Stmt} {suite : List Stmt} {pos : Pos} {rest : List ExceptHandler} {Q : Flow → Shared → Prop} (hCB : bm.contains (.ref B) = true) (hb : bm'.contains (Value.type "BaseException") = true)
    (h : wpAny (model prog w) (A.mark (some (.ref e))) (eval t env) (fun c s1 => c = .ref B ∧ s1.heap.get? C = some (excClassObj nm q C N bs bm hdct sn sub ab col dd k0 k1 k2 k3 k5 newId) ∧ s1.heap.get? B = some (excClassObj nm' q' B N' bs' bm' hdct' sn' sub' ab' col' dd' k0' k1' k2' k3' k5' newId') ∧ (∃ oe, s1.heap.get? e = some oe ∧ oe.cls = .ref C) ∧
      wpAny (model prog w) (A.mark (some (.ref e))) (setFlight (.ref e) none) (fun _ s2 => wpAny (model prog w) (A.mark (some (.ref e))) (storeName env n (.ref e)) (fun _ s3 => wpAny (model prog w) (A.mark (some (.ref e))) (execs (b0 :: suite) env)
        (fun f s4 => wpAny (model prog w) A (do bindName env n Value.none; unbindBehindTheSuite env n pos) (fun _ s5 => Q f s5) E s4) (fun _ _ => False) s3) (fun _ _ => False) s2) (fun _ _ => False) s1) (fun _ _ => False) s) :
    wpAny (model prog w) A (handleBy (.ref e) env (ExceptHandler.ExceptHandler (some t) (some n) (b0 :: suite) pos :: rest)) Q E s := by
  refine wpAny_handleBy_cons (codeAny_handlers_test (wpAny_mono h ?_ fun _ _ z => z.elim)) (by intro z; cases z)
  rintro c ⟨hp, g, d, tk, os⟩ ⟨rfl, hC, hBo, ⟨oe, he, hc⟩, z⟩
  refine exc_sup hC hBo he hc hb hCB ?_
  refine codeAny_handlers_suite_as (wpAny_mono z ?_ fun _ _ z => z.elim)
  intro _ s2 z2
  refine wpAny_mono z2 ?_ fun _ _ z => z.elim
  intro _ s3 z3
  exact wpAny_mono z3 (fun f s4 z4 => z4) fun _ _ z => z.elim
end
section
variable {X : Cx} {C : Addr}
/-- f(..) as a statement, where it raises -/
theorem call_up {pins : List (Addr × Obj)} {s : Shared} {σ : St} {H : Hp} {Q : Flow → Shared → Prop} {E : Value → Shared → Prop} {W : XK} {x : Str} {p cpos epos : Pos} {e0 : Expr} {es : List Expr} {t : TA} {k : Nat} {f : Addr} {fd : FuncData} {ps : List Str} {sp : Sp}
    (F : FnOk X.prog X.w X.K X.mg X.base (CXN X.prog X.w C) k f fd ps sp) (hr : Room k X.A) (hg : Gl X x) (hm : X.mg x = some (.ref f)) (hk : PySem.W.keepIn X.K (.ref f) = true) (hb : Binds X.K fd ps [])
    (ha : PA X.nox (e0 :: es) t) (I : Inv X pins σ H s) (h : t σ H fun vs H1 => sp (vs ++ []) H1 (fun _ _ => False) W)
    (hE : ∀ (s1 : Shared) (H1 : Hp) (e : Value) (s2 : Shared), Inv X pins σ H1 s1 → CXN X.prog X.w C X.stack H1 s1 W e s2 → E e s2)
    (hdb : (x == ("__debug__" : Str)) = false := by decide) (hse : starEach (e0 :: es) X.env = (false, eval e0 X.env) :: starEach es X.env := by rfl) (hpl : (backTo cpos (starEach es X.env)).any (·.1) = false := by rfl)
    (hsw : swapsWith (.Call (.Name x p) (e0 :: es) [] cpos) none epos.line X.env = pure false := by rfl) :
    wpAny (model X.prog X.w) X.A (exec (.Expr (.Call (.Name x p) (e0 :: es) [] cpos) epos) X.env) Q E s := by
  refine wpAny_Expr_any ?_ I.quiet hsw
  refine wpAny_Call_Name_kw (ld_glob I hg hm ?_ hdb)
  refine PySem.W.callWith_K (h₀ := X.base) I.ok.mod.kin hk (wpAny_mono (ha cpos pins s σ H _ (I.wish _) h) ?_ (fun _ _ z => z.elim)) hse hpl
  rintro us s1 ⟨vs, H1, I1, r, z⟩
  have I1 := I1.unwish
  refine ⟨I1.kIn, ?_⟩
  have hl : us.length = ps.length := by
    rw [← r.length]
    have := F.len _ _ _ _ z
    rwa [List.append_nil] at this
  rw [List.append_nil] at z
  refine wpAny_call (codeAny_mono (F.run X.A X.stack s1 H1 ⟨us, []⟩ us vs _ _ hr I1.env0 (by have := hb s1 us I1.kIn (by rw [List.append_nil]; exact hl); rwa [List.append_nil] at this) r z) fun rs s2 hq => ?_)
  cases rs with
  | ok fl =>
    cases fl with
    | ret u => obtain ⟨v, H', _, _, _, _, _, zz⟩ := hq; exact zz.elim
    | next => exact hq.elim
    | brk => exact hq.elim
    | cont => exact hq.elim
  | error e => exact hE s1 H1 e s2 I1 hq
end
section
variable {X : Cx} {nm q nm' q' : Str} {C N B N' : Addr} {bs bm bs' bm' : List Value} {hdct hdct' : Bool} {sn sn' : List Str} {sub sub' : List Value} {ab ab' : Bool} {col col' : Option Bool} {dd dd' : Option Addr} {k0 k1 k2 k3 k5 k0' k1' k2' k3' k5' : Option Value} {newId newId' : String}
/-- try: if c: f(..) else: g(..) except B as er: y = er, where either raises, B a class above -/
theorem ps_tryIf {c : Expr} {tc : TT} {x x' cls y er : Str} {p cpos epos p' cpos' epos' np yp ep ap hpos tp ip : Pos} {e0 e0' : Expr} {es es' : List Expr} {t t' : TA} {i j k k' : Nat} {f f' : Addr} {fd fd' : FuncData} {ps ps' : List Str} {sp sp' : Sp}
    (hc : PT X.nox c tc) (F : FnOk X.prog X.w X.K X.mg X.base (CXN X.prog X.w C) k f fd ps sp) (hr : Room k X.A) (hg : Gl X x) (hm : X.mg x = some (.ref f)) (hk : PySem.W.keepIn X.K (.ref f) = true) (hb : Binds X.K fd ps []) (ha : PA X.nox (e0 :: es) t)
    (F' : FnOk X.prog X.w X.K X.mg X.base (CXN X.prog X.w C) k' f' fd' ps' sp') (hr' : Room k' X.A) (hg' : Gl X x') (hm' : X.mg x' = some (.ref f')) (hk' : PySem.W.keepIn X.K (.ref f') = true) (hb' : Binds X.K fd' ps' []) (ha' : PA X.nox (e0' :: es') t')
    (hst : X.stack = X.env :: X.outer) (hfr : X.env.frame = some X.env.locals) (hN : X.N.Nodup) (hi : X.N[i]? = some y) (hy : Loc X.env.scope y) (hj : X.N[j]? = some er) (hij : i ≠ j) (he : X.env.scope.names.lookup er = some .local)
    (hgC : Gl X cls) (hmC : X.mg cls = some (.ref B)) (hkC : X.K.lookup C = some (excClassObj nm q C N bs bm hdct sn sub ab col dd k0 k1 k2 k3 k5 newId)) (hCB : bm.contains (.ref B) = true)
    (hkB : X.K.lookup B = some (excClassObj nm' q' B N' bs' bm' hdct' sn' sub' ab' col' dd' k0' k1' k2' k3' k5' newId')) (hB : bm'.contains (Value.type "BaseException") = true)
    (hdb : (x == ("__debug__" : Str)) = false := by decide) (hdb' : (x' == ("__debug__" : Str)) = false := by decide) (hdc : (cls == ("__debug__" : Str)) = false := by decide) (hde : (er == ("__debug__" : Str)) = false := by decide) (hdf : (er == ("__classdict__" : Str)) = false := by decide)
    (hse : starEach (e0 :: es) X.env = (false, eval e0 X.env) :: starEach es X.env := by rfl) (hpl : (backTo cpos (starEach es X.env)).any (·.1) = false := by rfl) (hse' : starEach (e0' :: es') X.env = (false, eval e0' X.env) :: starEach es' X.env := by rfl) (hpl' : (backTo cpos' (starEach es' X.env)).any (·.1) = false := by rfl)
    (hsw : swapsWith (.Call (.Name x p) (e0 :: es) [] cpos) none epos.line X.env = pure false := by rfl) (hsw' : swapsWith (.Call (.Name x' p') (e0' :: es') [] cpos') none epos'.line X.env = pure false := by rfl) (hsv : swapsWith (.Name er ep) (some (.Name y yp)) ap.line X.env = pure false := by rfl) (hfy : X.fn y = true ∨ X.env.scope.names.lookup y = some .local := by first | exact .inl rfl | exact .inr rfl | assumption) :
    PS X (.Try [.If c [.Expr (.Call (.Name x p) (e0 :: es) [] cpos) epos] [.Expr (.Call (.Name x' p') (e0' :: es') [] cpos') epos'] ip] [.ExceptHandler (some (.Name cls np)) (some er) [.Assign [.Name y yp] (.Name er ep) ap] hpos] [] [] tp)
      (fun D σ H => tc σ H fun d H0 =>
        let W : XK := fun c od H2 => ∀ a d, od = some d → H2 a = none → D.nx ((((σ.set j (some (.ref a))).set i (some (.ref a))).set j (some .non)).set j none) (upd H2 a (excO C a d))
        if d = true then t σ H0 fun vs H1 => sp (vs ++ []) H1 (fun _ _ => False) W else t' σ H0 fun vs H1 => sp' (vs ++ []) H1 (fun _ _ => False) W) := by
  intro pins s σ H D I h
  refine wpAny_Try_except (wpAny_execs_cons (wpAny_If (wpAny_mono (hc pins s σ H _ (I.wish _) h) ?_ (fun _ _ z => z.elim))))
  rintro dv s0 ⟨H0, I0, q0⟩
  have I0 := I0.unwish
  cases dv with
  | true =>
    refine wpAny_execs_cons (call_up F hr hg hm hk hb ha I0 q0 (fun s1 H1 e s2 I1 hq => ?_) hdb hse hpl hsw)
    obtain ⟨a, d, T, H', rfl, os, bare, un, hok, Fl, ha1, hT, Ha, HT, post⟩ := hq
    obtain ⟨hh, g, dr, tk, os'⟩ := s2
    obtain rfl : os' = s1.os := os
    have J := I1.call (h' := hh) (g' := g) (d' := dr) (t' := tk) (ch := []) un hok bare (fun b z => absurd z (by simp))
    have fr := J.env0.frames
    have ff := J.env0.funs
    rw [hst] at fr ff
    refine note_on fr ff hfr Fl fun h1 T1 hn F1 nt => ?_
    rw [← hst] at nt
    have hT1 : s1.heap.get? T1 = none := by
      cases z : s1.heap.get? T1 with
      | none => rfl
      | some o =>
        obtain ⟨o', q1⟩ := un.there T1 o z (by simp)
        have : hh.get? T1 = none := hn
        rw [q1] at this
        cases this
    have HT1 : H' T1 = none := hok.unk hn
    refine flight_none (s := ⟨h1, g, dr, tk, _⟩) F1 fun h2 F2 k2 => ?_
    have c1 : Ch (fun b => b = a ∨ b = T1 ∨ b = T) (frs X.stack) hh h2 := (nt.ch (.inl rfl) fun t z => by cases z; exact .inr (.inr rfl)).trans (Ch.one k2 (.inr (.inl rfl)))
    have fin : ∀ h3 (tk3 : Nat), Ch (fun b => b = a ∨ b = T1 ∨ b = T) (frs X.stack) hh h3 → (∃ vs, h3.get? a = some { cls := .ref C, dict := some d, data := .fields vs }) → Inv X pins σ (upd H' a (excO C a d)) ⟨h3, g, dr, tk3, s1.os⟩ := fun h3 tk3 c fo => by
      have u3 : Un (frs X.stack) [] H1 H' s1.heap h3 := c.un un (fun b z => by rcases z with rfl | rfl | rfl <;> assumption) fun b o _ z => z
      have k3 : HOk X.prog X.w H' h3 := c.hok hok (fun b z => by rcases z with rfl | rfl | rfl <;> assumption) J.env0.frf
      exact I1.call (h' := h3) (g' := g) (d' := dr) (t' := tk3) (ch := []) (un_track I1.hok u3 ha1) (hok_track k3 Ha fo) bare (fun b z => absurd z (by simp))
    have J2 := fin h2 tk c1 (let ⟨vs, q, _⟩ := F2.obj; ⟨vs, q⟩)
    refine handle_sup hCB hB (Calls.Name_function_global I.ok.kind hgC (Calls.loadGlobal_global (by rw [I.ok.glob]; exact I.mod.glob.keeps J2.bk) hmC ⟨rfl, J2.kIn _ _ hkC, J2.kIn _ _ hkB, let ⟨vs, q, _⟩ := F2.obj; ⟨_, q, rfl⟩, ?_⟩) hdc)
    refine flight_none (s := ⟨h2, g, dr, tk, _⟩) F2 fun h3 F3 k3 => ?_
    have J3 := fin h3 tk (c1.trans (Ch.one k3 (.inr (.inl rfl)))) (let ⟨vs, q, _⟩ := F3.obj; ⟨vs, q⟩)
    have hjσ : j < σ.length := by rw [I1.len]; exact (List.getElem?_eq_some_iff.mp hj).1
    refine store_ok J3 hN hj (.inl he) (v := .ref a) rfl (fun s4 J4 => ?_) (.inr he)
    refine wpAny_execs_cons (wpAny_Assign_Name (ld_var J4 hj (.inl he) (List.getElem?_set_self hjσ) (fun u ru => ?_) hde hdf) hsv)
    refine store_ok J4 hN hi hy ru (fun s5 J5 => ?_) hfy
    refine wpAny_execs_nil ?_
    refine wpAny_bind (wpAny_bindName (store_ok J5 hN hj (.inl he) (v := .non) (u := .none) rfl (fun s6 J6 => ?_) (.inr he)))
    refine wpAny_onRaise (unbind_ok J6 hN hj he (v := .non) (List.getElem?_set_self (by rw [List.length_set, List.length_set]; exact hjσ)) fun s7 J7 => ?_)
    exact ⟨_, _, J7, post a d rfl Ha⟩
  | false =>
    refine wpAny_execs_cons (call_up F' hr' hg' hm' hk' hb' ha' I0 q0 (fun s1 H1 e s2 I1 hq => ?_) hdb' hse' hpl' hsw')
    obtain ⟨a, d, T, H', rfl, os, bare, un, hok, Fl, ha1, hT, Ha, HT, post⟩ := hq
    obtain ⟨hh, g, dr, tk, os'⟩ := s2
    obtain rfl : os' = s1.os := os
    have J := I1.call (h' := hh) (g' := g) (d' := dr) (t' := tk) (ch := []) un hok bare (fun b z => absurd z (by simp))
    have fr := J.env0.frames
    have ff := J.env0.funs
    rw [hst] at fr ff
    refine note_on fr ff hfr Fl fun h1 T1 hn F1 nt => ?_
    rw [← hst] at nt
    have hT1 : s1.heap.get? T1 = none := by
      cases z : s1.heap.get? T1 with
      | none => rfl
      | some o =>
        obtain ⟨o', q1⟩ := un.there T1 o z (by simp)
        have : hh.get? T1 = none := hn
        rw [q1] at this
        cases this
    have HT1 : H' T1 = none := hok.unk hn
    refine flight_none (s := ⟨h1, g, dr, tk, _⟩) F1 fun h2 F2 k2 => ?_
    have c1 : Ch (fun b => b = a ∨ b = T1 ∨ b = T) (frs X.stack) hh h2 := (nt.ch (.inl rfl) fun t z => by cases z; exact .inr (.inr rfl)).trans (Ch.one k2 (.inr (.inl rfl)))
    have fin : ∀ h3 (tk3 : Nat), Ch (fun b => b = a ∨ b = T1 ∨ b = T) (frs X.stack) hh h3 → (∃ vs, h3.get? a = some { cls := .ref C, dict := some d, data := .fields vs }) → Inv X pins σ (upd H' a (excO C a d)) ⟨h3, g, dr, tk3, s1.os⟩ := fun h3 tk3 c fo => by
      have u3 : Un (frs X.stack) [] H1 H' s1.heap h3 := c.un un (fun b z => by rcases z with rfl | rfl | rfl <;> assumption) fun b o _ z => z
      have k3 : HOk X.prog X.w H' h3 := c.hok hok (fun b z => by rcases z with rfl | rfl | rfl <;> assumption) J.env0.frf
      exact I1.call (h' := h3) (g' := g) (d' := dr) (t' := tk3) (ch := []) (un_track I1.hok u3 ha1) (hok_track k3 Ha fo) bare (fun b z => absurd z (by simp))
    have J2 := fin h2 tk c1 (let ⟨vs, q, _⟩ := F2.obj; ⟨vs, q⟩)
    refine handle_sup hCB hB (Calls.Name_function_global I.ok.kind hgC (Calls.loadGlobal_global (by rw [I.ok.glob]; exact I.mod.glob.keeps J2.bk) hmC ⟨rfl, J2.kIn _ _ hkC, J2.kIn _ _ hkB, let ⟨vs, q, _⟩ := F2.obj; ⟨_, q, rfl⟩, ?_⟩) hdc)
    refine flight_none (s := ⟨h2, g, dr, tk, _⟩) F2 fun h3 F3 k3 => ?_
    have J3 := fin h3 tk (c1.trans (Ch.one k3 (.inr (.inl rfl)))) (let ⟨vs, q, _⟩ := F3.obj; ⟨vs, q⟩)
    have hjσ : j < σ.length := by rw [I1.len]; exact (List.getElem?_eq_some_iff.mp hj).1
    refine store_ok J3 hN hj (.inl he) (v := .ref a) rfl (fun s4 J4 => ?_) (.inr he)
    refine wpAny_execs_cons (wpAny_Assign_Name (ld_var J4 hj (.inl he) (List.getElem?_set_self hjσ) (fun u ru => ?_) hde hdf) hsv)
    refine store_ok J4 hN hi hy ru (fun s5 J5 => ?_) hfy
    refine wpAny_execs_nil ?_
    refine wpAny_bind (wpAny_bindName (store_ok J5 hN hj (.inl he) (v := .non) (u := .none) rfl (fun s6 J6 => ?_) (.inr he)))
    refine wpAny_onRaise (unbind_ok J6 hN hj he (v := .non) (List.getElem?_set_self (by rw [List.length_set, List.length_set]; exact hjσ)) fun s7 J7 => ?_)
    exact ⟨_, _, J7, post a d rfl Ha⟩
end
end L2

set_option Elab.async false
set_option linter.all false
set_option maxRecDepth 100000
set_option maxHeartbeats 4000000
namespace L2
open PySem PySem.Spec PyProof.Rows
/-- over a list from its end, which the body leaves as it is -/
theorem for_rev {K : PySem.W.Frag} {a : Addr} {xs : List V} {g : TG} {tb : TS} {D : Ends} {σ : St} {H : Hp} (Pv : Nat → St → Hp → Prop) (h0 : Pv 0 σ H) (hl : ∀ i σ H, i ≤ xs.length → Pv i σ H → SqL K H a xs)
    (hs : ∀ i x σ H, i < xs.length → xs[xs.length - 1 - i]? = some x → Pv i σ H → g x σ H fun σ2 H2 => tb { D with nx := Pv (i + 1), ct := Pv (i + 1), bk := D.nx } σ2 H2) (hd : ∀ σ H, Pv xs.length σ H → D.nx σ H) :
    ∃ W : Nat → Nat → St → Hp → Prop, (∃ m, W 0 m σ H) ∧ ∀ i m σ H, W i m σ H →
      ((Itv K a xs.length).stop i H ∧ D.nx σ H) ∨ ((Itv K a xs.length).go i H ∧ ∃ N : St → Hp → Prop, (∀ σ' H', N σ' H' → ∃ m', m' < m ∧ W (i + 1) m' σ' H') ∧ ∀ x H', (Itv K a xs.length).yld i H x H' → g x σ H' fun σ2 H2 => tb { D with nx := N, ct := N, bk := D.nx } σ2 H2) := by
  refine ⟨fun i m σ H => m = xs.length - i ∧ i ≤ xs.length ∧ Pv i σ H, ⟨xs.length, by simp, Nat.zero_le _, h0⟩, ?_⟩
  rintro i m σ H ⟨rfl, hi, p⟩
  have q := hl i σ H hi p
  by_cases hlt : i < xs.length
  · have hj : xs.length - 1 - i < xs.length := by omega
    refine .inr ⟨⟨hlt, xs, xs[xs.length - 1 - i], q, List.getElem?_eq_getElem hj⟩, Pv (i + 1), fun σ' H' p' => ⟨xs.length - (i + 1), by omega, rfl, hlt, p'⟩, fun x H' y => ?_⟩
    obtain ⟨e, y⟩ := y
    subst e
    exact hs i x σ _ hlt (y xs q) p
  · have e : i = xs.length := by omega
    subst e
    exact .inl ⟨rfl, hd σ H p⟩
/-! ### cuts -/
theorem cut_to {xs : List V} {z : Int} (h0 : 0 ≤ z) (h1 : z.toNat ≤ xs.length) : cutV xs none (some z) = xs.take z.toNat := by
  have e : HT.sIx xs.length xs.length (some z) = z.toNat := by
    show (if z < 0 then (z + (xs.length : Int)).toNat else min z.toNat xs.length) = _
    rw [if_neg (by omega)]
    omega
  unfold cutV
  rw [e]
  show (xs.drop 0).take (z.toNat - 0) = _
  rw [List.drop_zero, Nat.sub_zero]
theorem cut_behind {xs : List V} {z : Int} (h0 : 0 ≤ z) (h1 : z.toNat ≤ xs.length) : cutV xs (some z) none = xs.drop z.toNat := by
  have e : HT.sIx xs.length 0 (some z) = z.toNat := by
    show (if z < 0 then (z + (xs.length : Int)).toNat else min z.toNat xs.length) = _
    rw [if_neg (by omega)]
    omega
  unfold cutV
  rw [e]
  show (xs.drop z.toNat).take (xs.length - z.toNat) = _
  rw [List.take_of_length_le (by rw [List.length_drop]; omega)]
theorem ths_take {H : Hp} : ∀ (n : Nat) {vs : List V} {ts : List Th}, IsThs H vs ts → IsThs H (vs.take n) (ts.take n)
  | 0, _, _, _ => by simp only [List.take_zero]; exact .nil
  | _ + 1, _, _, .nil => .nil
  | n + 1, _, _, .cons h r => .cons h (ths_take n r)
theorem ths_drop {H : Hp} : ∀ (n : Nat) {vs : List V} {ts : List Th}, IsThs H vs ts → IsThs H (vs.drop n) (ts.drop n)
  | 0, _, _, h => h
  | _ + 1, _, _, .nil => .nil
  | n + 1, _, _, .cons h r => ths_drop n r
end L2

set_option Elab.async false
set_option linter.all false
set_option maxRecDepth 100000
set_option maxHeartbeats 4000000
namespace K04
open PySem L2
def notTup (t : Th) : Bool := !isTup t
def leadL (ts : List Th) : List Th := ts.filter notTup
def spHead : Sp := fun vs H Q _ => ∃ (H0 : Hp) (v : V) (ts : List Th), vs = [v] ∧ Same H0 H ∧ IsTh H0 v (.tup ts) ∧ ts.length ≤ 1000000 ∧
  ∀ (p : Addr) (ws : List V) H', Same H H' → H' p = some (.tup ws) → IsThs H0 ws (leadL ts) → Q (.ref p) H'
def spWith : Sp := fun vs H Q _ => ∃ (v : V) (la : Addr) (ts ks : List Th) (ws : List V), vs = [v, .ref la] ∧ IsTh H v (.tup ts) ∧ ts.length ≤ 1000 ∧ H la = some (.lst ws) ∧ IsThs H ws ks ∧ ks.length ≤ 1000 ∧
  ∀ (p : Addr) H', Same H H' → IsTh H' (.ref p) (.tup (leadL ts ++ ks)) → Q (.ref p) H'
section
variable {P : Program} {w : World} {K : PySem.W.Frag} {mg : Str → Option Value} {base : Heap}
theorem scHead : FnScope ["node"] ["node"] (defScope sHead) := ⟨rfl, rfl, rfl, by decide +kernel, rfl, by decide +kernel, by decide +kernel⟩
theorem ok_head {f : Addr} {fd : FuncData} (F : Fun K "head" "head" sHead f fd) (T : TxtT mg) (KI : Kits K) : FnOk P w K mg base CX0 1 f fd ["node"] spHead := by
  refine F.ok scHead (fun vs H Q E h => ?_) (fun cdv A outer s H vs Q E hr h => ?_)
  · obtain ⟨H0, v, ts, rfl, _⟩ := h
    rfl
  · obtain ⟨H0, v, ts, rfl, s0, hv, hz, k⟩ := h
    refine ⟨_, pss_one (ps_ret (pe_callTy call_tuple_of (by rfl) T.tup (by decide +kernel) (pa_cons (pe_comp (N' := ["field"]) (src := [none]) rfl (compScope_of (defScope sHead) rfl ["node"] rfl (by decide +kernel)) (pi_tup (pv 0))
      (fun cl C ex s0 H0 => ⟨pg_name (i := 0) (nd1 _) rfl (Or.inl rfl), pts_one (pt_not (pt_val (pe_callB (id := "isinstance") (call_isinstK (K := K) rfl) (by rfl) T.isi (by decide +kernel) (pa_n (pv 0) (pa_n (pe_bltn (v := .ty "tuple") (by rfl) T.tup (by decide +kernel) rfl) pa_nil))))), pv 0⟩)) pa_nil))), ?_⟩
    obtain ⟨a, xs, rfl, ha0, hts⟩ := th_tup hv
    have ha := s0 _ _ ha0
    have hl := IsThs.len _ hts
    refine ⟨_, rfl, a, rfl, ⟨_, SqT.of ha⟩, comp_tup (K := K) (a := a) (xs := xs) (fun i ys σc H' => ∃ o, σc = [o] ∧ IsThs H0 ys ((ts.take i).filter notTup) ∧ ys.length ≤ i ∧ H' = H) ⟨none, rfl, by rw [List.take_zero]; exact .nil, Nat.le_refl _, rfl⟩ (fun i ys σc H' ⟨_, _, _, _, e⟩ => by rw [e]; exact SqT.of ha) ?_ ?_⟩
    · rintro i x ys σc H' hx hi ⟨o, rfl, hys, hyl, rfl⟩
      obtain ⟨t, ht, h1⟩ := ths_get _ hts hx
      have hnext : (ts.take (i + 1)).filter notTup = (ts.take i).filter notTup ++ (if notTup t = true then [t] else []) := take_nextR _ ht
      refine ⟨by have : sizeLine = 16777216 := sizeLine_eq; omega, ?_⟩
      refine ⟨_, rfl, _, _, _, _, rfl, th_ty (IsTh.kp (Kp.of s0) h1), KI.tup h1, _, rfl, ite2 (fun g => ?_) (fun g => ?_)⟩
      · refine ⟨_, rfl, nx hi ⟨_, rfl, ?_, by rw [List.length_append]; show ys.length + 1 ≤ i + 1; omega, rfl⟩⟩
        rw [hnext, if_pos (show notTup t = true from g)]
        exact IsThs.app _ hys (.cons h1 .nil)
      · refine nx hi ⟨_, rfl, ?_, by omega, rfl⟩
        rw [hnext, if_neg (show ¬ notTup t = true from g), List.append_nil]
        exact hys
    · rintro ys σc H' ⟨o, rfl, hys, hyl, rfl⟩ l hl'
      refine ⟨l, _, rfl, .inl ⟨SqL.of upd_same, fun p hp => ?_⟩⟩
      rw [List.take_of_length_le (by omega)] at hys
      have s2 := (same_upd (o := .lst ys) hl').trans (same_upd (o := .tup ys) hp)
      exact k p ys _ s2 upd_same hys
theorem scLawWith : FnScope ["_law_e", "_law_some"] ["_law_e", "_law_some"] (defScope sLawWith) := ⟨rfl, rfl, rfl, by decide +kernel, rfl, by decide +kernel, by decide +kernel⟩
theorem ok_with {f : Addr} {fd : FuncData} (F : Fun K "_law_with" "_law_with" sLawWith f fd) (T : TxtT mg) (KI : Kits K) : FnOk P w K mg base CX0 1 f fd ["_law_e", "_law_some"] spWith := by
  refine F.ok scLawWith (fun vs H Q E h => ?_) (fun cdv A outer s H vs Q E hr h => ?_)
  · obtain ⟨v, la, ts, ks, ws, rfl, _⟩ := h
    rfl
  · obtain ⟨v, la, ts, ks, ws, rfl, hv, hz, hla, hws, hkz, k⟩ := h
    have hsz : sizeLine = 16777216 := sizeLine_eq
    refine' ⟨?tt, ?body, ?fin⟩
    case body =>
      refine' pss_one ?s1
      case s1 =>
        refine' ps_ret ?r
        case r =>
          refine' pe_callTy call_tuple_of (by rfl) T.tup (by decide +kernel) ?a
          case a =>
            refine' pa_cons ?c pa_nil
            case c =>
              refine' pe_op op_cat ?x (pv 1)
              case x =>
                refine' pe_comp (N' := ["_law_one_here"]) (src := [none]) ?k1 ?k5 ?k6 ?k7
                case k1 => rfl
                case k5 => exact compScope_of (defScope sLawWith) rfl ["_law_e", "_law_some"] rfl (by decide +kernel)
                case k6 => exact pi_tup (pv 0)
                case k7 => exact fun cl C ex s0 H0 => ⟨pg_name (i := 0) (nd1 _) rfl (Or.inl rfl), pts_one (pt_not (pt_val (pe_callB (id := "isinstance") (call_isinstK (K := K) rfl) (by rfl) T.isi (by decide +kernel) (pa_n (pv 0) (pa_n (pe_bltn (v := .ty "tuple") (by rfl) T.tup (by decide +kernel) rfl) pa_nil))))), pv 0⟩
    case fin =>
      obtain ⟨a, xs, rfl, ha, hts⟩ := th_tup hv
      have hl := IsThs.len _ hts
      refine ⟨_, rfl, a, rfl, ⟨_, SqT.of ha⟩, comp_tup (K := K) (a := a) (xs := xs) (fun i ys σc H' => ∃ o, σc = [o] ∧ IsThs H ys ((ts.take i).filter notTup) ∧ ys.length ≤ i ∧ H' = H) ⟨none, rfl, by rw [List.take_zero]; exact .nil, Nat.le_refl _, rfl⟩ (fun i ys σc H' ⟨_, _, _, _, e⟩ => by rw [e]; exact SqT.of ha) ?_ ?_⟩
      · rintro i x ys σc H' hx hi ⟨o, rfl, hys, hyl, rfl⟩
        obtain ⟨t, ht, h1⟩ := ths_get _ hts hx
        have hnext : (ts.take (i + 1)).filter notTup = (ts.take i).filter notTup ++ (if notTup t = true then [t] else []) := take_nextR _ ht
        refine ⟨by omega, ?_⟩
        refine ⟨_, rfl, _, _, _, _, rfl, th_ty h1, KI.tup h1, _, rfl, ite2 (fun g => ?_) (fun g => ?_)⟩
        · refine ⟨_, rfl, nx hi ⟨_, rfl, ?_, by rw [List.length_append]; show ys.length + 1 ≤ i + 1; omega, rfl⟩⟩
          rw [hnext, if_pos (show notTup t = true from g)]
          exact IsThs.app _ hys (.cons h1 .nil)
        · refine nx hi ⟨_, rfl, ?_, by omega, rfl⟩
          rw [hnext, if_neg (show ¬ notTup t = true from g), List.append_nil]
          exact hys
      · rintro ys σc H' ⟨o, rfl, hys, hyl, rfl⟩ l hl'
        rw [List.take_of_length_le (by omega)] at hys
        have s1 := same_upd (o := .lst ys) hl'
        have hwl := IsThs.len _ hws
        refine ⟨_, rfl, l, la, ys, ws, rfl, rfl, upd_same, s1 _ _ hla, by omega, fun l2 hl2 => ?_⟩
        have s2 := same_upd (o := .lst (ys ++ ws)) hl2
        refine ⟨l2, _, rfl, .inl ⟨SqL.of upd_same, fun p hp => ?_⟩⟩
        have s3 := same_upd (o := .tup (ys ++ ws)) hp
        have sA := (s1.trans s2).trans s3
        exact k p _ sA (.tup upd_same (IsThs.app _ (IsThs.kp (Kp.of sA) hys) (IsThs.kp (Kp.of sA) hws)))
end
end K04

set_option Elab.async false
set_option linter.all false
set_option maxRecDepth 100000
set_option maxHeartbeats 4000000
namespace K04
open PySem L2
theorem go_tup (xs : List Th) (z : Int) (zs : List Int) : goT (.tup xs) (z :: zs) = if 0 ≤ z then ((kidsL xs)[z.toNat]?).bind fun k => (goT k zs).map (Th.tup xs :: ·) else none := by rw [goT]
theorem go_at (v : V) (z : Int) (zs : List Int) : goT (.at v) (z :: zs) = none := by rw [goT]; intro _ q; cases q
theorem go_lst (v : List Th) (z : Int) (zs : List Int) : goT (.lst v) (z :: zs) = none := by rw [goT]; intro _ q; cases q
/-- one step of a way that leads on -/
theorem go_cons {t : Th} {z : Int} {zs : List Int} {ns : List Th} (h : goT t (z :: zs) = some ns) : ∃ xs k nk, t = .tup xs ∧ 0 ≤ z ∧ (kidsL xs)[z.toNat]? = some k ∧ goT k zs = some nk ∧ ns = .tup xs :: nk := by
  cases t with
  | «at» v => rw [go_at] at h; cases h
  | lst v => rw [go_lst] at h; cases h
  | tup xs =>
    rw [go_tup] at h
    split at h
    · next hz =>
      cases hk : (kidsL xs)[z.toNat]? with
      | none => rw [hk] at h; cases h
      | some k =>
        rw [hk] at h
        have h : (goT k zs).map (Th.tup xs :: ·) = some ns := h
        cases hg : goT k zs with
        | none => rw [hg] at h; cases h
        | some nk =>
          rw [hg] at h
          cases h
          exact ⟨xs, k, nk, rfl, hz, hk, hg, rfl⟩
    · cases h
theorem go_len : ∀ (zs : List Int) (t : Th) (ns : List Th), goT t zs = some ns → ns.length = zs.length + 1 := by
  intro zs
  induction zs with
  | nil => intro t ns h; rw [goT] at h; cases h; rfl
  | cons z zs ih =>
    intro t ns h
    obtain ⟨xs, k, nk, rfl, hz, hk, hg, rfl⟩ := go_cons h
    rw [List.length_cons, List.length_cons, ih k nk hg]
/-- a node with another part -/
def putN (n : Th) (z : Int) (u : Th) : Th := match n with
  | .tup xs => .tup (leadL xs ++ ((kidsL xs).take z.toNat ++ (u :: (kidsL xs).drop (z.toNat + 1))))
  | t => t
/-- nodes on a way, and what stands at its end -/
def putT : List Th → List Int → Th → Th
  | n :: ns, z :: zs, u => putN n z (putT ns zs u)
  | _, _, u => u
theorem put_nil (ns : List Th) (u : Th) : putT ns [] u = u := by cases ns <;> rfl
theorem lead_lead (xs : List Th) : kidsL (leadL xs) = [] := by
  unfold kidsL leadL
  rw [List.filter_filter]
  rw [List.filter_eq_nil_iff]
  intro x _ h
  rw [Bool.and_eq_true] at h
  have h2 : (!L2.isTup x) = true := h.2
  rw [h.1] at h2
  cases h2
theorem kids_kids {ks : List Th} (h : ∀ k ∈ ks, L2.isTup k = true) : kidsL ks = ks := by
  unfold kidsL
  exact List.filter_eq_self.mpr h
theorem kids_mem {xs : List Th} {k : Th} (h : k ∈ kidsL xs) : k ∈ xs ∧ L2.isTup k = true := List.mem_filter.mp h
theorem put_kids {xs : List Th} {z : Int} {u : Th} (hu : L2.isTup u = true) : kidsL (leadL xs ++ ((kidsL xs).take z.toNat ++ (u :: (kidsL xs).drop (z.toNat + 1)))) = (kidsL xs).take z.toNat ++ (u :: (kidsL xs).drop (z.toNat + 1)) := by
  have e : kidsL (leadL xs ++ ((kidsL xs).take z.toNat ++ (u :: (kidsL xs).drop (z.toNat + 1)))) = kidsL (leadL xs) ++ kidsL ((kidsL xs).take z.toNat ++ (u :: (kidsL xs).drop (z.toNat + 1))) := by
    unfold kidsL
    rw [List.filter_append]
  rw [e, lead_lead, List.nil_append]
  refine kids_kids fun k hk => ?_
  rcases List.mem_append.mp hk with h | h
  · exact (kids_mem (List.mem_of_mem_take h)).2
  · rcases List.mem_cons.mp h with h | h
    · rw [h]; exact hu
    · exact (kids_mem (List.mem_of_mem_drop h)).2
theorem putT_isTup : ∀ (zs : List Int) (t : Th) (ns : List Th) (u : Th), goT t zs = some ns → L2.isTup u = true → L2.isTup (putT ns zs u) = true := by
  intro zs
  cases zs with
  | nil => intro t ns u h hu; rw [put_nil]; exact hu
  | cons z zs =>
    intro t ns u h hu
    obtain ⟨xs, k, nk, rfl, hz, hk, hg, rfl⟩ := go_cons h
    rfl
/-- the way leads to what was put there -/
theorem put_go : ∀ (zs : List Int) (t : Th) (ns : List Th) (u : Th), goT t zs = some ns → L2.isTup u = true → ∃ ms, goT (putT ns zs u) zs = some ms ∧ ms.getLast? = some u := by
  intro zs
  induction zs with
  | nil => intro t ns u h hu; rw [put_nil, goT]; exact ⟨_, rfl, rfl⟩
  | cons z zs ih =>
    intro t ns u h hu
    obtain ⟨xs, k, nk, rfl, hz, hk, hg, rfl⟩ := go_cons h
    obtain ⟨ms, g1, g2⟩ := ih k nk u hg hu
    have hlt := (List.getElem?_eq_some_iff.mp hk).1
    have hi := putT_isTup zs k nk u hg hu
    show ∃ ms, goT (putN (.tup xs) z (putT nk zs u)) (z :: zs) = some ms ∧ _
    show ∃ ms, goT (.tup (leadL xs ++ ((kidsL xs).take z.toNat ++ (putT nk zs u :: (kidsL xs).drop (z.toNat + 1))))) (z :: zs) = some ms ∧ _
    rw [go_tup, if_pos hz, put_kids hi]
    have e : ((kidsL xs).take z.toNat ++ (putT nk zs u :: (kidsL xs).drop (z.toNat + 1)))[z.toNat]? = some (putT nk zs u) := by
      rw [List.getElem?_append_right (by rw [List.length_take]; omega)]
      have : z.toNat - ((kidsL xs).take z.toNat).length = 0 := by rw [List.length_take]; omega
      rw [this]
      rfl
    rw [e]
    show ∃ ms, (goT (putT nk zs u) zs).map _ = some ms ∧ _
    rw [g1]
    refine ⟨_, rfl, ?_⟩
    cases ms with
    | nil => cases g2
    | cons a ms => rw [List.getLast?_cons_cons]; exact g2
theorem lead_ok {w : Str} {ts : List Th} : leadL (.at (.str w) :: ts) = .at (.str w) :: leadL ts := rfl
/-- it is a node still -/
theorem put_ok : ∀ (zs : List Int) (n m : Nat) (t : Th) (ns : List Th) (u : Th), OkT n t → OkT m u → goT t zs = some ns → OkT (n + m) (putT ns zs u) := by
  intro zs
  induction zs with
  | nil =>
    intro n m t ns u ht hu h
    rw [put_nil]
    exact hu.le (by omega)
  | cons z zs ih =>
    intro n m t ns u ht hu h
    obtain ⟨xs, k, nk, rfl, hz, hk, hg, rfl⟩ := go_cons h
    cases n with
    | zero => exact ht.elim
    | succ n =>
      obtain ⟨w, ts, e, hlet, hkid⟩ := ht
      cases e
      have hkm := kids_mem (List.mem_of_getElem? hk)
      rw [kids_cons] at hk
      have hkm2 := kids_mem (List.mem_of_getElem? hk)
      have hu2 := ih n m k nk u (hkid k hkm2.1 hkm2.2) hu hg
      have hlt := (List.getElem?_eq_some_iff.mp hk).1
      have hi : L2.isTup (putT nk zs u) = true := by
        cases hnm : n + m with
        | zero => rw [hnm] at hu2; exact hu2.elim
        | succ q =>
          rw [hnm] at hu2
          obtain ⟨w', ts', e', _⟩ := hu2
          rw [e']
          rfl
      have hkids : kidsL (leadL ts ++ ((kidsL ts).take z.toNat ++ (putT nk zs u :: (kidsL ts).drop (z.toNat + 1)))) = (kidsL ts).take z.toNat ++ (putT nk zs u :: (kidsL ts).drop (z.toNat + 1)) := put_kids hi
      show OkT (n + 1 + m) (.tup (leadL (.at (.str w) :: ts) ++ _))
      have en : n + 1 + m = (n + m) + 1 := by omega
      rw [en, lead_ok, kids_cons]
      refine ⟨w, leadL ts ++ ((kidsL ts).take z.toNat ++ (putT nk zs u :: (kidsL ts).drop (z.toNat + 1))), rfl, fun hw => ?_, fun x hx hxt => ?_⟩
      · rw [hkids]
        have h2 := hlet hw
        rw [List.length_append, List.length_take, List.length_cons, List.length_drop]
        omega
      · rcases List.mem_append.mp hx with hx | hx
        · have : L2.isTup x = true → False := fun q => by
            have h2 : (!L2.isTup x) = true := (List.mem_filter.mp hx).2
            rw [q] at h2
            cases h2
          exact (this hxt).elim
        · rcases List.mem_append.mp hx with hx | hx
          · have hq := kids_mem (List.mem_of_mem_take hx)
            exact (hkid x hq.1 hq.2).le (by omega)
          · rcases List.mem_cons.mp hx with hx | hx
            · rw [hx]; exact hu2
            · have hq := kids_mem (List.mem_of_mem_drop hx)
              exact (hkid x hq.1 hq.2).le (by omega)
end K04

set_option Elab.async false
set_option linter.all false
set_option maxRecDepth 100000
set_option maxHeartbeats 4000000
namespace K04
open PySem L2
theorem cut_last (ws : List V) : cutV ws none (some (-1)) = ws.take (ws.length - 1) := by
  have e : HT.sIx ws.length ws.length (some (-1)) = ws.length - 1 := by
    show (if (-1 : Int) < 0 then ((-1 : Int) + (ws.length : Int)).toNat else min (-1 : Int).toNat ws.length) = _
    rw [if_pos (by decide)]
    omega
  unfold cutV
  rw [e]
  show (ws.drop 0).take (ws.length - 1 - 0) = _
  rw [List.drop_zero, Nat.sub_zero]
/-- piece: what stands at the way's end, or it is refused -/
def spPiece (C : Addr) (N : Nat) : Sp := fun vs H Q E => ∃ (v : V) (ap : Addr) (t : Th) (zs : List Int), vs = [v, .ref ap] ∧ IsTh H v t ∧ OkT N t ∧ Th.sz t ≤ 100000 ∧ IsTh H (.ref ap) (.tup (zsT zs)) ∧ zs.length ≤ 1000 ∧ ShowOk zs ∧
  (∀ ns u, goT t zs = some ns → ns.getLast? = some u → ∀ (v' : V) H', Same H H' → IsTh H' v' u → Q v' H') ∧
  (goT t zs = none → ∀ (d : Addr) H', Same H H' → H d = none → H' d = some (.xd [("place", .ref ap)]) → E (.ref C) (some d) H')
def spWithP (C : Addr) (N : Nat) : Sp := fun vs H Q E => ∃ (v : V) (ap : Addr) (ov : V) (t u : Th) (zs : List Int), vs = [v, .ref ap, ov] ∧ IsTh H v t ∧ OkT N t ∧ Th.sz t ≤ 100000 ∧ IsTh H (.ref ap) (.tup (zsT zs)) ∧ zs.length ≤ 1000 ∧ ShowOk zs ∧ IsTh H ov u ∧
  (∀ ns, goT t zs = some ns → ∀ (v' : V) H', Same H H' → IsTh H' v' (putT ns zs u) → Q v' H') ∧
  (goT t zs = none → ∀ (d : Addr) H', Same H H' → H d = none → H' d = some (.xd [("place", .ref ap)]) → E (.ref C) (some d) H')
theorem go_tups : ∀ (zs : List Int) (N : Nat) (t : Th) (ns : List Th), OkT N t → Th.sz t ≤ 100000 → goT t zs = some ns → ∀ n ∈ ns, ∃ xs, n = .tup xs ∧ xs.length ≤ 100000 := by
  intro zs
  induction zs with
  | nil =>
    intro N t ns h hz e n hn
    rw [goT] at e
    cases e
    rw [List.mem_singleton] at hn
    subst hn
    cases N with
    | zero => exact h.elim
    | succ N =>
      obtain ⟨w, ts, rfl, _⟩ := h
      have h2 := szs_len (.at (.str w) :: ts)
      rw [Th.sz] at hz
      exact ⟨_, rfl, by omega⟩
  | cons z zs ih =>
    intro N t ns h hz e n hn
    obtain ⟨xs, k, nk, rfl, hz0, hk, hg, rfl⟩ := go_cons e
    rcases List.mem_cons.mp hn with q | q
    · have h2 := szs_len xs
      rw [Th.sz] at hz
      exact ⟨xs, q, by omega⟩
    · cases N with
      | zero => exact h.elim
      | succ N =>
        obtain ⟨w, ts, e2, _, hkid⟩ := h
        cases e2
        rw [kids_cons] at hk
        have hm := kids_mem (List.mem_of_getElem? hk)
        have h3 := sz_mem ts k hm.1
        simp only [Th.sz, szs] at hz
        exact ih N k nk (hkid k hm.1 hm.2) (by omega) hg n q
theorem go_at_i : ∀ (zs : List Int) (t : Th) (ns : List Th), goT t zs = some ns → ∀ (i : Nat) (z : Int), zs[i]? = some z → ∃ xs, ns[i]? = some (.tup xs) ∧ 0 ≤ z ∧ z.toNat < (kidsL xs).length := by
  intro zs
  induction zs with
  | nil => intro t ns e i z h; simp at h
  | cons y zs ih =>
    intro t ns e i z h
    obtain ⟨xs, k, nk, rfl, hz0, hk, hg, rfl⟩ := go_cons e
    cases i with
    | zero =>
      simp only [List.getElem?_cons_zero, Option.some.injEq] at h
      subst h
      exact ⟨xs, rfl, hz0, (List.getElem?_eq_some_iff.mp hk).1⟩
    | succ i => exact ih k nk hg i z (by simpa using h)
section
variable {P : Program} {w : World} {K : PySem.W.Frag} {mg : Str → Option Value} {base : Heap}
theorem scPiece : FnScope ["e", "path"] ["e", "path"] (defScope sPiece) := ⟨rfl, rfl, rfl, by decide +kernel, rfl, by decide +kernel, by decide +kernel⟩
theorem ok_piece {f fY C : Addr} {fd dY : FuncData} (F : Fun K "piece" "piece" sPiece f fd) (FY : Fun K "way" "way" sWay fY dY) (bY : Binds K dY ["e", "path"] []) (mY : mg "way" = some (.ref fY))
    (N : Nat) (GY : FnOk P w K mg base (CXN P w C) 4 fY dY ["e", "path"] (spWay C N)) : FnOk P w K mg base (CXN P w C) 5 f fd ["e", "path"] (spPiece C N) := by
  refine F.d.okX scPiece (fun vs H Q E h => ?_) (fun cdv A outer s H vs Q E hr h => ?_)
  · obtain ⟨v, ap, t, zs, rfl, _⟩ := h
    rfl
  · obtain ⟨v, ap, t, zs, rfl, hv, hok, hz, hp, hzl, so, kQ, kE⟩ := h
    refine' ⟨?tt, ?body, ?fin⟩
    case body =>
      refine' pss_one ?s1
      case s1 => exact ps_ret (pe_ix ix_list (pe_call GY hr (by rfl) mY FY.kp bY .nil (pass_on (E := E) (E' := E) rfl rfl rfl rfl (fun _ _ _ h => h)) (pa_n (pv 0) (pa_n (pv 1) pa_nil))) (pe_un un_neg pe_int) (fun _ _ => rfl))
    case fin =>
      refine ⟨_, rfl, _, rfl, v, ap, t, zs, rfl, hv, hok, hz, hp, hzl, so, fun ns hgo q ws H1 s1 hq hws => ?_, kE⟩
      have hnl := go_len zs t ns hgo
      have hwl := IsThs.len _ hws
      have hne : ns ≠ [] := fun z => by rw [z] at hnl; cases hnl
      have hla : ns.getLast? = some (ns.getLast hne) := List.getLast?_eq_getLast hne
      have hi : ns[zs.length]? = some (ns.getLast hne) := by
        rw [← hla, List.getLast?_eq_getElem?, hnl]
        rfl
      obtain ⟨vk, hvk, hvt⟩ := ths_at _ hws hi
      have ewl : ws = ws.dropLast ++ [vk] := by
        have hwne : ws ≠ [] := fun z => by rw [z] at hwl; rw [hnl] at hwl; cases hwl
        have h1 : ws.getLast? = some vk := by
          rw [List.getLast?_eq_getElem?, hwl, hnl]
          exact hvk
        have h2 := List.getLast?_eq_getLast hwne
        rw [h2] at h1
        cases h1
        exact (List.dropLast_concat_getLast hwne).symm
      refine ⟨1, rfl, q, ws, -1, vk, rfl, rfl, SqL.of hq, ?_, kQ ns _ hgo hla vk H1 s1 hvt⟩
      rw [ewl]
      exact atI_last _ _
theorem scWithP : FnScope ["e", "path", "other", "around", "told", "node", "at", "inner"] ["e", "path", "other"] (defScope sWithPiece) := ⟨rfl, rfl, rfl, by decide +kernel, rfl, by decide +kernel, by decide +kernel⟩
theorem ok_withp {f fY fP fH C : Addr} {fd dY dP dH : FuncData} (F : Fun K "with_piece" "with_piece" sWithPiece f fd) (T : TxtT mg) (KI : Kits K) (hlist : mg "list" = none) (hzip : mg "zip" = none) (hrev : mg "reversed" = none)
    (FP : Fun K "parts" "parts" sParts fP dP) (bP : Binds K dP ["e"] []) (mP : mg "parts" = some (.ref fP)) (FH : Fun K "head" "head" sHead fH dH) (bH : Binds K dH ["node"] []) (mH : mg "head" = some (.ref fH))
    (FY : Fun K "way" "way" sWay fY dY) (bY : Binds K dY ["e", "path"] []) (mY : mg "way" = some (.ref fY))
    (N : Nat) (GY : FnOk P w K mg base (CXN P w C) 4 fY dY ["e", "path"] (spWay C N)) : FnOk P w K mg base (CXN P w C) 5 f fd ["e", "path", "other"] (spWithP C N) := by
  have GP : FnOk P w K mg base CX0 1 fP dP ["e"] spParts := ok_parts FP T KI
  have GH : FnOk P w K mg base CX0 1 fH dH ["node"] spHead := ok_head FH T KI
  refine F.d.okX scWithP (fun vs H Q E h => ?_) (fun cdv A outer s H vs Q E hr h => ?_)
  · obtain ⟨v, ap, ov, t, u, zs, rfl, _⟩ := h
    rfl
  · obtain ⟨v, ap, ov, t, u, zs, rfl, hv, hok, hz, hp, hzl, so, hov, kQ, kE⟩ := h
    have hsz : sizeLine = 16777216 := sizeLine_eq
    have hr1 : Room 1 _ := hr.mono (by decide)
    refine' ⟨?tt, ?body, ?fin⟩
    case body =>
      refine' pss_cons ?s1 ?r1
      case s1 => exact ps_set (i := 3) scWithP.nd rfl (Or.inl rfl) (pe_slice sl_list (pe_call GY hr (by rfl) mY FY.kp bY .nil (pass_on (E := E) (E' := E) rfl rfl rfl rfl (fun _ _ _ h => h)) (pa_n (pv 0) (pa_n (pv 1) pa_nil))) po_none (po_some (pe_un un_neg pe_int)))
      case r1 =>
        refine' pss_cons ?s2 ?r2
        case s2 => exact ps_set (i := 4) scWithP.nd rfl (Or.inl rfl) (pv 2)
        case r2 =>
          refine' pss_cons ?s3 (pss_one ?s4)
          case s3 =>
            refine' ps_for PassesOwn.leaving rfl (pi_rev (by rfl) hrev (pa_c ?zz pa_nil)) (pg_tup rfl (pgs_cons (pg_name (i := 5) scWithP.nd rfl (Or.inl rfl)) (pgs_cons (pg_name (i := 6) scWithP.nd rfl (Or.inl rfl)) pgs_nil))) ?blk
            case zz => exact pe_lzipB rfl (by rfl) hlist (by rfl) hzip (pa_n (pv 3) (pa_n (pv 1) pa_nil))
            case blk =>
              refine' pss_cons ?b1 (pss_one ?b2)
              case b1 => exact ps_set (i := 7) scWithP.nd rfl (Or.inl rfl) (pe_call GP hr1 (by rfl) mP FP.kp bP .nil pass0 (pa_n (pv 5) pa_nil))
              case b2 =>
                refine' ps_set (i := 4) scWithP.nd rfl (Or.inl rfl) ?v
                case v =>
                  refine' pe_op op_catP ?v1 ?v2
                  case v2 => exact pe_slice sl_tupP (pv 7) (po_some (pe_op op_add (pv 6) pe_int)) po_none
                  case v1 =>
                    refine' pe_op op_catP ?v3 ?v4
                    case v4 => exact pe_tup (pa_n (pv 4) pa_nil)
                    case v3 =>
                      refine' pe_op op_catP ?v5 ?v6
                      case v5 => exact pe_call GH hr1 (by rfl) mH FH.kp bH .nil pass0 (pa_n (pv 5) pa_nil)
                      case v6 => exact pe_slice sl_tupP (pv 7) po_none (po_some (pv 6))
          case s4 => exact ps_ret (pv 4)
    case fin =>
      obtain ⟨ap', pvs, e1, hap, hpv⟩ := th_tup hp
      cases e1
      have hpl := IsThs.len _ hpv
      rw [List.length_map] at hpl
      refine ⟨_, rfl, _, rfl, v, ap, t, zs, rfl, hv, hok, hz, hp, hzl, so, fun ns hgo q ws H1 s1 hq hws => ?_, kE⟩
      have hnl := go_len zs t ns hgo
      have hwl := IsThs.len _ hws
      refine ⟨1, rfl, (-1), rfl, q, ws, rfl, SqL.of hq, fun ar har => ?_⟩
      rw [cut_last]
      have s2 := same_upd (o := .lst (ws.take (ws.length - 1))) har
      have s12 := s1.trans s2
      have hxl : (ws.take (ws.length - 1)).length = pvs.length := by
        rw [List.length_take]
        omega
      have AR : upd H1 ar (.lst (ws.take (ws.length - 1))) ar = some (.lst (ws.take (ws.length - 1))) := upd_same
      have hws2 := IsThs.kp (Kp.of s2) hws
      have hap2 := s12 _ _ hap
      have hov2 := IsTh.kp (Kp.of s12) hov
      generalize upd H1 ar (.lst (ws.take (ws.length - 1))) = H2 at s2 s12 AR hws2 hap2 hov2
      refine ⟨_, rfl, _, rfl, _, rfl, ar, ap, ws.take (ws.length - 1), pvs, rfl, SqL.of AR, SqT.of hap2, hxl, fun lz H3 hlz zp => ?_⟩
      obtain ⟨zsame, ps, hps, hlzz, hpj⟩ := zp
      have s3 : Same H2 H3 := fun b o e => zsame b o (fun q => by rw [q, hlz] at e; cases e) e
      have hpm : ps.length = zs.length := by omega
      refine ⟨lz, ps.map V.ref, rfl, hlzz, for_rev (K := K) (a := lz) (xs := ps.map V.ref) (fun i σ H' => ∃ (tv : V) (o5 o6 o7 : Option V), σ = [some v, some (.ref ap), some ov, some (.ref ar), some tv, o5, o6, o7] ∧ Same H3 H' ∧ IsTh H' tv (putT ((ns.take zs.length).drop (zs.length - i)) (zs.drop (zs.length - i)) u))
        ⟨ov, none, none, none, rfl, Same.refl _, ?_⟩ (fun i σ H' _ ⟨_, _, _, _, _, e, _⟩ => SqL.of (e _ _ hlzz)) ?_ ?_⟩
      · rw [Nat.sub_zero, List.drop_of_length_le (l := zs) (Nat.le_refl _), put_nil]
        exact IsTh.kp (Kp.of s3) hov2
      · rintro i x σ H4 hi hx ⟨tv, o5, o6, o7, rfl, s4, htv⟩
        rw [List.length_map] at hi hx
        rw [List.getElem?_map] at hx
        obtain ⟨p, hp1, rfl⟩ : ∃ p, ps[ps.length - 1 - i]? = some p ∧ V.ref p = x := by
          cases e : ps[ps.length - 1 - i]? with
          | none => rw [e] at hx; cases hx
          | some p => rw [e] at hx; exact ⟨p, rfl, by simpa using hx⟩
        obtain ⟨_, x1, y1, hx1, hy1, hpp⟩ := hpj _ p hp1
        have hk : ps.length - 1 - i = zs.length - (i + 1) := by omega
        rw [hk] at hx1 hy1
        obtain ⟨tz, htz, hyt⟩ := ths_get _ hpv hy1
        rw [List.getElem?_map] at htz
        obtain ⟨z, hzi, rfl⟩ : ∃ z, zs[zs.length - (i + 1)]? = some z ∧ Th.at (.int z) = tz := by
          cases e : zs[zs.length - (i + 1)]? with
          | none => rw [e] at htz; cases htz
          | some z => rw [e] at htz; exact ⟨z, rfl, by simpa using htz⟩
        obtain ⟨rfl, _⟩ := th_at hyt
        obtain ⟨xs, hnx, hz0, hzk⟩ := go_at_i zs t ns hgo _ z hzi
        rw [List.getElem?_take, if_pos (by omega)] at hx1
        obtain ⟨tn, htn, hxn⟩ := ths_get _ hws2 hx1
        rw [hnx] at htn
        cases htn
        obtain ⟨xs', ex, hxlen⟩ := go_tups zs N t ns hok hz hgo _ (List.mem_of_getElem? hnx)
        cases ex
        have hpp4 := s4 _ _ hpp
        have hx4 := IsTh.kp (Kp.of (s3.trans s4)) hxn
        refine ⟨p, _, rfl, SqT.of hpp4, rfl, _, _, rfl, _, _, rfl, rfl, ?_⟩
        refine ⟨_, rfl, H4, x1, xs, rfl, Same.refl _, hx4, by omega, fun pi wi H5 s5 hpi hwi => ?_⟩
        have hwil := IsThs.len _ hwi
        have hkl : (kidsL xs).length ≤ 100000 := Nat.le_trans (List.length_filter_le isTup xs) hxlen
        refine ⟨_, rfl, H4, x1, xs, rfl, s5, hx4, by omega, fun ph wh H6 s6 hph hwh => ?_⟩
        have hwhl := IsThs.len _ hwh
        have hll : (leadL xs).length ≤ 100000 := Nat.le_trans (List.length_filter_le notTup xs) hxlen
        refine ⟨_, rfl, _, rfl, z, rfl, pi, wi, rfl, s6 _ _ hpi, fun pa H7 s7 hpa => ?_⟩
        rw [cut_to hz0 (by omega)] at hpa
        refine ⟨ph, pa, wh, _, rfl, rfl, s7 _ _ hph, hpa, by rw [List.length_take]; omega, fun pb H8 s8 hpb => ?_⟩
        refine ⟨_, rfl, (by show 1 ≤ sizeLine; decide), fun pc hpc => ?_⟩
        have s9 := same_upd (o := .tup [tv]) hpc
        refine ⟨pb, pc, _, [tv], rfl, rfl, s9 _ _ hpb, upd_same, by rw [List.length_append, List.length_take]; show _ + 1 ≤ _; omega, fun pd H10 s10 hpd => ?_⟩
        refine ⟨_, rfl, _, rfl, z, 1, rfl, rfl, z + 1, rfl, pi, wi, rfl, s10 _ _ (s9 _ _ (s8 _ _ (s7 _ _ (s6 _ _ hpi)))), fun pe' H11 s11 hpe => ?_⟩
        have hz1 : (z + 1).toNat = z.toNat + 1 := by omega
        rw [cut_behind (by omega) (by omega), hz1] at hpe
        refine ⟨pd, pe', _, _, rfl, rfl, s11 _ _ hpd, hpe, by rw [List.length_append, List.length_append, List.length_take, List.length_drop]; show _ + 1 + _ ≤ _; omega, fun pf H12 s12' hpf => ?_⟩
        have sA : Same H4 H12 := ((((((s5.trans s6).trans s7).trans s8).trans s9).trans s10).trans s11).trans s12'
        refine ⟨.ref pf, _, _, _, rfl, s4.trans sA, ?_⟩
        have hjz : zs.length - (i + 1) < zs.length := by omega
        have e1 : zs.drop (zs.length - (i + 1)) = z :: zs.drop (zs.length - i) := by
          rw [List.drop_eq_getElem_cons hjz]
          congr 1
          · exact (List.getElem?_eq_some_iff.mp hzi).2
          · congr 1; omega
        have hjn : zs.length - (i + 1) < (ns.take zs.length).length := by rw [List.length_take]; omega
        have e2 : (ns.take zs.length).drop (zs.length - (i + 1)) = .tup xs :: (ns.take zs.length).drop (zs.length - i) := by
          rw [List.drop_eq_getElem_cons hjn]
          congr 1
          · rw [List.getElem_take]
            exact (List.getElem?_eq_some_iff.mp hnx).2
          · congr 1; omega
        rw [e1, e2]
        show IsTh H12 (.ref pf) (.tup (leadL xs ++ ((kidsL xs).take z.toNat ++ (putT ((ns.take zs.length).drop (zs.length - i)) (zs.drop (zs.length - i)) u :: (kidsL xs).drop (z.toNat + 1)))))
        refine .tup hpf ?_
        have k1 := IsThs.kp (Kp.of sA) hwh
        have k2 := ths_take z.toNat (IsThs.kp (Kp.of sA) hwi)
        have k3 := ths_drop (z.toNat + 1) (IsThs.kp (Kp.of sA) hwi)
        have k4 := IsTh.kp (Kp.of sA) htv
        have k5 := IsThs.app _ (IsThs.app _ (IsThs.app _ k1 k2) (.cons k4 .nil)) k3
        simpa only [List.append_assoc, List.cons_append, List.nil_append] using k5
      · rintro σ H4 ⟨tv, o5, o6, o7, rfl, s4, htv⟩
        rw [List.length_map, hpm, Nat.sub_self, List.drop_zero, List.drop_zero] at htv
        refine ⟨_, rfl, kQ ns hgo tv H4 ((s12.trans s3).trans s4) ?_⟩
        have e : ∀ (zs : List Int) (ns : List Th) (u : Th), putT (ns.take zs.length) zs u = putT ns zs u := by
          intro zs
          induction zs with
          | nil => intro ns u; rw [put_nil, put_nil]
          | cons z zs ih =>
            intro ns u
            cases ns with
            | nil => rfl
            | cons n ns =>
              rw [List.length_cons, List.take_succ_cons]
              show putN n z (putT _ zs u) = putN n z (putT ns zs u)
              rw [ih]
        rw [e] at htv
        exact htv
end
end K04

set_option Elab.async false
set_option linter.all false
set_option maxRecDepth 100000
set_option maxHeartbeats 4000000
namespace K04
open PySem L2
mutual
theorem th_but {H H' : Hp} {a : Addr} {xs : List V} (h : H a = some (.lst xs)) (b : But a H H') : ∀ {v : V} {t : Th}, IsTh H v t → lf t = true → IsTh H' v t
  | _, _, .at f, _ => .at f
  | _, _, .tup e r, p => by
    rw [lf] at p
    exact .tup (b _ _ e (ne_of e h (by intro q; cases q))) (ths_but h b r p)
  | _, _, .lst e r, p => by rw [lf] at p; cases p
theorem ths_but {H H' : Hp} {a : Addr} {xs : List V} (h : H a = some (.lst xs)) (b : But a H H') : ∀ {vs : List V} {ts : List Th}, IsThs H vs ts → lfs ts = true → IsThs H' vs ts
  | _, _, .nil, _ => .nil
  | _, _, .cons e r, p => by
    rw [lfs, Bool.and_eq_true] at p
    exact .cons (th_but h b e p.1) (ths_but h b r p.2)
end
theorem ths_set {H : Hp} : ∀ (vs : List V) {us : List Th} (i : Nat) {v : V} {t : Th}, IsThs H vs us → IsTh H v t → IsThs H (vs.set i v) (us.set i t) := by
  intro vs
  induction vs with
  | nil => intro us i v t h _; cases h; exact .nil
  | cons w vs ih =>
    intro us i v t h hv
    cases h with
    | cons a b =>
      cases i with
      | zero => exact .cons hv b
      | succ i => exact .cons a (ih i b hv)
theorem ix_int {n : Nat} {z : Int} (h0 : 0 ≤ z) (h : z.toNat < n) : ixN n z = some z.toNat := by
  unfold ixN
  rw [if_pos (by omega), if_pos (by omega)]
theorem atI_int {vs : List V} {z : Int} {x : V} (h0 : 0 ≤ z) (h : vs[z.toNat]? = some x) : atI vs z = some x := by
  have e : z = ((z.toNat : Nat) : Int) := by omega
  rw [e]
  exact atI_nat h
theorem lfs_lead {xs : List Th} (h : lfs xs = true) : lfs (leadL xs) = true := by
  rw [lfs_all] at h ⊢
  exact fun t ht => h t (List.mem_filter.mp ht).1
theorem put_lf : ∀ (zs : List Int) (t : Th) (ns : List Th) (u : Th), goT t zs = some ns → lf t = true → lf u = true → lf (putT ns zs u) = true := by
  intro zs
  induction zs with
  | nil => intro t ns u h _ hu; rw [put_nil]; exact hu
  | cons z zs ih =>
    intro t ns u h ht hu
    obtain ⟨xs, k, nk, rfl, hz, hk, hg, rfl⟩ := go_cons h
    rw [lf] at ht
    have hkl := lf_kids ht
    have hkk : lf k = true := (lfs_all _).mp hkl k (List.mem_of_getElem? hk)
    have h2 := ih k nk u hg hkk hu
    show lf (.tup (leadL xs ++ ((kidsL xs).take z.toNat ++ (putT nk zs u :: (kidsL xs).drop (z.toNat + 1))))) = true
    rw [lf, lfs_all]
    intro x hx
    rcases List.mem_append.mp hx with q | q
    · exact (lfs_all _).mp (lfs_lead ht) x q
    · rcases List.mem_append.mp q with q | q
      · exact (lfs_all _).mp hkl x (List.mem_of_mem_take q)
      · rcases List.mem_cons.mp q with q | q
        · rw [q]; exact h2
        · exact (lfs_all _).mp hkl x (List.mem_of_mem_drop q)
theorem szs_app : ∀ (a b : List Th), szs (a ++ b) = szs a + szs b := by
  intro a
  induction a with
  | nil => intro b; simp [szs]
  | cons x a ih => intro b; rw [List.cons_append, szs, szs, ih]; omega
theorem szs_split : ∀ (xs : List Th), szs (leadL xs) + szs (kidsL xs) = szs xs := by
  intro xs
  induction xs with
  | nil => simp [leadL, kidsL, szs]
  | cons x xs ih =>
    unfold leadL kidsL at ih ⊢
    rw [List.filter_cons, List.filter_cons, szs]
    have e : notTup x = !L2.isTup x := rfl
    cases hx : L2.isTup x with
    | true =>
      rw [e, hx]
      simp only [Bool.not_true, Bool.false_eq_true, if_false, if_true, szs]
      omega
    | false =>
      rw [e, hx]
      simp only [Bool.not_false, Bool.false_eq_true, if_false, if_true, szs]
      omega
theorem put_sz : ∀ (zs : List Int) (t : Th) (ns : List Th) (u : Th), goT t zs = some ns → Th.sz (putT ns zs u) ≤ Th.sz t + Th.sz u := by
  intro zs
  induction zs with
  | nil => intro t ns u h; rw [put_nil]; omega
  | cons z zs ih =>
    intro t ns u h
    obtain ⟨xs, k, nk, rfl, hz, hk, hg, rfl⟩ := go_cons h
    have h2 := ih k nk u hg
    have h3 := szs_split xs
    have hlt := (List.getElem?_eq_some_iff.mp hk).1
    have e : kidsL xs = (kidsL xs).take z.toNat ++ (k :: (kidsL xs).drop (z.toNat + 1)) := by
      have := List.take_append_drop z.toNat (kidsL xs)
      rw [List.drop_eq_getElem_cons hlt] at this
      rw [(List.getElem?_eq_some_iff.mp hk).2] at this
      exact this.symm
    have h4 : szs (kidsL xs) = szs ((kidsL xs).take z.toNat) + (Th.sz k + szs ((kidsL xs).drop (z.toNat + 1))) := by
      conv => lhs; rw [e]
      rw [szs_app, szs]
    show Th.sz (.tup (leadL xs ++ ((kidsL xs).take z.toNat ++ (putT nk zs u :: (kidsL xs).drop (z.toNat + 1))))) ≤ Th.sz (.tup xs) + Th.sz u
    rw [Th.sz, Th.sz, szs_app, szs_app, szs]
    omega
theorem zs_pl : ∀ zs : List Int, plTs (zsT zs) = true ∧ dps (zsT zs) = 0 := by
  intro zs
  induction zs with
  | nil => exact ⟨rfl, rfl⟩
  | cons z zs ih =>
    show plTs (Th.at (.int z) :: zsT zs) = true ∧ dps (Th.at (.int z) :: zsT zs) = 0
    rw [plTs, dps, ih.1, ih.2]
    exact ⟨rfl, rfl⟩
def spSwapped (N : Nat) : Sp := fun vs H Q _ => ∃ (v : V) (ap : Addr) (ov : V) (t u : Th) (zs : List Int) (ns : List Th), vs = [v, .ref ap, ov] ∧ IsTh H v t ∧ OkT N t ∧ Th.sz t ≤ 1000 ∧ lf t = true ∧ IsTh H (.ref ap) (.tup (zsT zs)) ∧ zs.length ≤ 1000 ∧ goT t zs = some ns ∧ IsTh H ov u ∧ lf u = true ∧
  ∀ (v' : V) H', Same H H' → IsTh H' v' (putT ns zs u) → Q v' H'
section
variable {P : Program} {w : World} {K : PySem.W.Frag} {mg : Str → Option Value} {base : Heap}
theorem scSwapped : FnScope ["_law_e", "_law_path", "_law_other", "_law_some"] ["_law_e", "_law_path", "_law_other"] (defScope sSwapped) := ⟨rfl, rfl, rfl, by decide +kernel, rfl, by decide +kernel, by decide +kernel⟩
theorem ok_swapped {f fP fW : Addr} {fd dP dW : FuncData} (F : Fun K "_law_swapped" "_law_swapped" sSwapped f fd) (b : Binds K fd ["_law_e", "_law_path", "_law_other"] []) (m : mg "_law_swapped" = some (.ref f)) (T : TxtT mg) (KI : Kits K)
    (FP : Fun K "_law_parts" "_law_parts" sLawParts fP dP) (bP : Binds K dP ["_law_e"] []) (mP : mg "_law_parts" = some (.ref fP)) (FW : Fun K "_law_with" "_law_with" sLawWith fW dW) (bW : Binds K dW ["_law_e", "_law_some"] []) (mW : mg "_law_with" = some (.ref fW)) :
    ∀ N, FnOk P w K mg base CX0 (N + 2) f fd ["_law_e", "_law_path", "_law_other"] (spSwapped N) := by
  have GP : FnOk P w K mg base CX0 1 fP dP ["_law_e"] spLawParts := ok_lawparts FP T KI
  have GW : FnOk P w K mg base CX0 1 fW dW ["_law_e", "_law_some"] spWith := ok_with FW T KI
  intro N
  induction N with
  | zero =>
    refine F.ok scSwapped (fun vs H Q E h => ?_) (fun cdv A outer s H vs Q E hr h => ?_)
    · obtain ⟨v, ap, ov, t, u, zs, ns, rfl, _⟩ := h
      rfl
    · obtain ⟨v, ap, ov, t, u, zs, ns, rfl, _, hok, _⟩ := h
      exact hok.elim
  | succ N ih =>
    refine F.ok scSwapped (fun vs H Q E h => ?_) (fun cdv A outer s H vs Q E hr h => ?_)
    · obtain ⟨v, ap, ov, t, u, zs, ns, rfl, _⟩ := h
      rfl
    · obtain ⟨v, ap, ov, t, u, zs, ns, rfl, hv, hok, hz, hlf, hp, hzl, hgo, hov, hlu, k⟩ := h
      have hsz : sizeLine = 16777216 := sizeLine_eq
      have hr1 : Room 1 _ := hr.mono (by omega)
      have hu : (A.deeper (PyProof.Rows.envOfC "_law_swapped" (defScope sSwapped) s.heap.objs.size f cdv)).units + (1 + 1) < cLine := by have := hr.un; omega
      refine' ⟨?tt, ?body, ?fin⟩
      case body =>
        refine' pss_cons ?s1 ?r1
        case s1 => exact ps_if (pt_cmpR (op_eqTh (K := K) rfl 1 hu) (pv 1) (pe_tup pa_nil) (nomark _)) (pss_one (ps_ret (pv 2))) pss_nil
        case r1 =>
          refine' pss_cons ?s2 ?r2
          case s2 => exact ps_set (i := 3) scSwapped.nd rfl (Or.inl rfl) (pe_call GP hr1 (by rfl) mP FP.kp bP .nil pass0 (pa_n (pv 0) pa_nil))
          case r2 =>
            refine' pss_cons ?s3 (pss_one ?s4)
            case s3 =>
              refine' ps_asg (pe_call ih hr (by rfl) m F.kp b .nil pass0 ?args) (pg_sub (pv 3) (pe_ix ix_tup (pv 1) pe_int (fun _ _ => rfl)) set_list)
              case args =>
                refine' pa_cons ?g1 (pa_cons ?g2 (pa_n (pv 2) pa_nil))
                case g1 => exact pe_ix ix_list (pv 3) (pe_ix ix_tup (pv 1) pe_int (fun _ _ => rfl)) (fun _ _ => rfl)
                case g2 => exact pe_slice sl_tupP (pv 1) (po_some pe_int) po_none
            case s4 => exact ps_ret (pe_call GW hr1 (by rfl) mW FW.kp bW .nil pass0 (pa_n (pv 0) (pa_n (pv 3) pa_nil)))
      case fin =>
        obtain ⟨ap', pvs, e1, hap, hpv⟩ := th_tup hp
        cases e1
        refine ⟨_, rfl, Nat.zero_le _, fun e0 he0 => ?_⟩
        have s0 := same_upd (o := .tup []) he0
        refine ⟨zsT zs, [], IsTh.kp (Kp.of s0) hp, .tup upd_same .nil, (zs_pl zs).1, rfl, by rw [(zs_pl zs).2]; decide, by decide, fun eq => ?_, fun ne => ?_⟩
        · have hz0 : zs = [] := by
            cases zs with
            | nil => rfl
            | cons z zs => cases eq
          subst hz0
          refine ⟨_, rfl, iteT ⟨_, rfl, k ov _ s0 ?_⟩⟩
          rw [put_nil]
          exact IsTh.kp (Kp.of s0) hov
        · refine ⟨_, rfl, iteF ?_⟩
          cases zs with
          | nil => exact absurd rfl ne
          | cons z zs =>
            obtain ⟨xs, kd, nk, rfl, hz0, hk, hg, rfl⟩ := go_cons hgo
            obtain ⟨w0, ts, e2, hlet, hkid⟩ := hok
            cases e2
            rw [kids_cons] at hk
            have hkm := kids_mem (List.mem_of_getElem? hk)
            have hkz := sz_mem ts kd hkm.1
            have htl := szs_len ts
            have hts : Th.sz (.tup (.at (.str w0) :: ts)) = 1 + (1 + szs ts) := by simp only [Th.sz, szs]
            have hlt := (List.getElem?_eq_some_iff.mp hk).1
            have hkl : (kidsL ts).length ≤ ts.length := List.length_filter_le L2.isTup ts
            have hlts : lfs ts = true := by
              rw [lf, lfs, Bool.and_eq_true] at hlf
              exact hlf.2
            have hlk := lf_kids hlts
            have hlkd : lf kd = true := (lfs_all _).mp hlk kd (List.mem_of_getElem? hk)
            cases hpv with
            | @cons x1 pr _ _ c1 c2 =>
              obtain ⟨rfl, _⟩ := th_at c1
              refine ⟨_, rfl, v, w0, ts, rfl, IsTh.kp (Kp.of s0) hv, by omega, fun p ws H1 s1 hpn hp1 hws => ?_⟩
              have s01 := s0.trans s1
              have hwl := IsThs.len _ hws
              obtain ⟨vk, hvk, hvkt⟩ := ths_at _ hws hk
              have hap1 := s01 _ _ hap
              refine ⟨_, rfl, _, rfl, ap, _, 0, .int z, rfl, rfl, SqT.of hap1, at_head _ _, p, ws, z, vk, rfl, rfl, SqL.of hp1, atI_int hz0 hvk, _, rfl, 1, rfl, ap, _, rfl, hap1, fun p2 H2 s2 hp2 => ?_⟩
              rw [cut_behind (by decide) (by show 1 ≤ _ + 1; omega)] at hp2
              have s12 := s01.trans s2
              refine ⟨_, rfl, vk, p2, ov, kd, u, zs, nk, rfl, IsTh.kp (Kp.of s2) hvkt, hkid kd hkm.1 hkm.2, by omega, hlkd, .tup hp2 (IsThs.kp (Kp.of s12) c2), by rw [List.length_cons] at hzl; omega, hg, IsTh.kp (Kp.of s12) hov, hlu, fun v' H3 s3 hv' => ?_⟩
              have s13 := s12.trans s3
              have hp3 := s3 _ _ (s2 _ _ hp1)
              refine ⟨_, rfl, _, rfl, ap, _, 0, .int z, rfl, rfl, SqT.of (s13 _ _ hap), at_head _ _, p, ws, z, z.toNat, rfl, rfl, hp3, ix_int hz0 (by omega), ?_⟩
              have bu : But p H3 (upd H3 p (.lst (ws.set z.toNat v'))) := But.upd
              have hlp := put_lf zs kd nk u hg hlkd hlu
              have hset := ths_set _ z.toNat (ths_but hp3 bu (IsThs.kp (Kp.of (s2.trans s3)) hws) hlk) (th_but hp3 bu hv' hlp)
              have hv3 := th_but hp3 bu (IsTh.kp (Kp.of s13) hv) hlf
              have sm : Same H (upd H3 p (.lst (ws.set z.toNat v'))) := fun c o e => bu c o (s13 _ _ e) (ne_of_none (s0 _ _ e) hpn)
              refine ⟨_, rfl, _, rfl, v, p, _, (kidsL ts).set z.toNat (putT nk zs u), ws.set z.toNat v', rfl, hv3, by rw [List.length_cons]; omega, upd_same, hset, by rw [List.length_set]; omega, fun r H4 s4 hr4 => ?_⟩
              refine k _ _ (sm.trans s4) ?_
              rw [List.set_eq_take_append_cons_drop, if_pos hlt] at hr4
              exact hr4
end
end K04

set_option Elab.async false
set_option linter.all false
set_option maxRecDepth 100000
set_option maxHeartbeats 4000000
namespace K04
open PySem L2
/-- what of the text the classes must have -/
structure CL (K : PySem.W.Frag) (mg : Str → Option Value) (C B : Addr) (o1 o2 o3 o4 o5 o6 o7 o8 o9 o10 : Addr) : Prop where
  lkC : ∃ nm q N bs bm sn sub ab col dd k0 k1 k2 k3 k5, K.lookup C = some (excClassObj nm q C N bs (.ref B :: bm) true sn sub ab col dd k0 k1 k2 k3 k5 "ValueError.__new__")
  lkB : ∃ nm q N bs bm hd sn sub ab col dd k0 k1 k2 k3 k5 nid, K.lookup B = some (excClassObj nm q B N bs bm hd sn sub ab col dd k0 k1 k2 k3 k5 nid) ∧ bm.contains (.type "BaseException") = true
  mB : mg "LikeError" = some (.ref B)
  m1 : mg "NoBare" = some (.ref o1)
  m2 : mg "NoExchange" = some (.ref o2)
  m3 : mg "NoFill" = some (.ref o3)
  m4 : mg "NoFunction" = some (.ref o4)
  m5 : mg "NoLine" = some (.ref o5)
  m6 : mg "NoPlaces" = some (.ref o6)
  m7 : mg "NoPut" = some (.ref o7)
  m8 : mg "NoRow" = some (.ref o8)
  m9 : mg "NoTable" = some (.ref o9)
  m10 : mg "NoText" = some (.ref o10)
  ve : mg "ValueError" = none
  i : ExI K C
  k1 : PySem.W.kitOne K (.ref C) (.ref C) = some true
  k2 : PySem.W.kitOne K (.ref C) (.type "ValueError") = some true
  k3 : PySem.W.kitAny K (.ref C) ([o1, o2, o3, o4, o5, o6, o7, o8, o9, o10].map Value.ref) = some false
def spRefused (N : Nat) : Sp := fun vs H Q _ => ∃ (v : V) (ap : Addr) (ov : V) (t : Th) (zs : List Int), vs = [v, .ref ap, ov] ∧ IsTh H v t ∧ OkT N t ∧ Th.sz t ≤ 100000 ∧ IsTh H (.ref ap) (.tup (zsT zs)) ∧ zs.length ≤ 1000 ∧ ShowOk zs ∧ (ov = .non ∨ ∃ a u, ov = .ref a ∧ IsTh H ov u) ∧ goT t zs = none ∧
  ∀ H', Same H H' → Q (.ref ap) H'
section
variable {P : Program} {w : World} {K : PySem.W.Frag} {mg : Str → Option Value} {base : Heap}
theorem scRefused : FnScope ["_law_e", "_law_path", "_law_other", "_law_caught", "error"] ["_law_e", "_law_path", "_law_other"] (defScope sRefused) := ⟨rfl, rfl, rfl, by decide +kernel, rfl, by decide +kernel, by decide +kernel⟩
theorem ok_refused {f fI fA fB C B o1 o2 o3 o4 o5 o6 o7 o8 o9 o10 : Addr} {fd dI dA dB : FuncData} (F : Fun K "_law_refused" "_law_refused" sRefused f fd) (T : TxtT mg) (Z : NoP K mg C fI dI) (hn : PySem.W.findIn K (.ref C) "place" = some none) (L : CL K mg C B o1 o2 o3 o4 o5 o6 o7 o8 o9 o10)
    (FA : Fun K "piece" "piece" sPiece fA dA) (bA : Binds K dA ["e", "path"] []) (mA : mg "piece" = some (.ref fA)) (FB : Fun K "with_piece" "with_piece" sWithPiece fB dB) (bB : Binds K dB ["e", "path", "other"] []) (mB : mg "with_piece" = some (.ref fB)) (N : Nat)
    (GA : FnOk P w K mg base (CXN P w C) 5 fA dA ["e", "path"] (spPiece C N)) (GB : FnOk P w K mg base (CXN P w C) 5 fB dB ["e", "path", "other"] (spWithP C N)) :
    FnOk P w K mg base CX0 6 f fd ["_law_e", "_law_path", "_law_other"] (spRefused N) := by
  obtain ⟨nm, q, Nn, bs, bm, sn, sub, ab, col, dd, k0, k1, k2, k3, k5, hkC⟩ := L.lkC
  obtain ⟨nm', q', Nn', bs', bm', hd', sn', sub', ab', col', dd', k0', k1', k2', k3', k5', nid', hkB, hBE⟩ := L.lkB
  have hCB : (Value.ref B :: bm).contains (.ref B) = true := by rw [List.contains_cons, beq_self_eq_true, Bool.true_or]
  refine F.ok scRefused (fun vs H Q E h => ?_) (fun cdv A outer s H vs Q E hr h => ?_)
  · obtain ⟨v, ap, ov, t, zs, rfl, _⟩ := h
    rfl
  · obtain ⟨v, ap, ov, t, zs, rfl, hv, hok, hz, hp, hzl, so, hov, hgo, k⟩ := h
    refine' ⟨?tt, ?body, ?fin⟩
    case body =>
      refine' pss_cons ?s1 ?r1
      case s1 => exact ps_set (i := 3) scRefused.nd rfl (Or.inl rfl) pe_non
      case r1 =>
        refine' pss_cons ?s2 ?r2
        case s2 => exact ps_tryIf (C := C) (B := B) (i := 3) (j := 4) (pt_cmpR op_isN (pv 2) pe_non (nomark _)) GA hr (by rfl) mA FA.kp bA (pa_n (pv 0) (pa_n (pv 1) pa_nil)) GB hr (by rfl) mB FB.kp bB (pa_n (pv 0) (pa_n (pv 1) (pa_n (pv 2) pa_nil))) rfl rfl scRefused.nd rfl (Or.inl rfl) rfl (by decide) rfl (by rfl) L.mB hkC hCB hkB hBE
        case r2 =>
          refine' pss_cons ?s3 ?r3
          case s3 =>
            refine' ps_if ?c (pss_one (ps_ret pe_str)) pss_nil
            case c =>
              refine' (pw_or ?c1 (pw_or ?c2 (pw_or1 ?c3))).pt
              case c1 => exact pt_cmpR op_isN (pv 3) pe_non (nomark _)
              case c2 => exact pt_not (pt_val (pe_callB (id := "isinstance") (call_isiX Z.c L.i) (by rfl) T.isi (by decide +kernel) (pa_n (pv 3) (pa_n (pe_glob (v := .ref C) (by rfl) Z.m rfl) pa_nil))))
              case c3 => exact pt_not (pt_val (pe_callB (id := "isinstance") (call_isiX Z.c L.i) (by rfl) T.isi (by decide +kernel) (pa_n (pv 3) (pa_n (pe_bltn (v := .ty "ValueError") (by rfl) L.ve (by decide +kernel) rfl) pa_nil))))
          case r3 =>
            refine' pss_cons ?s4 (pss_one ?s5)
            case s4 =>
              refine' ps_if ?d (pss_one (ps_ret pe_str)) pss_nil
              case d =>
                refine' pt_val (pe_callB (id := "isinstance") (call_isiXT Z.c L.i) (by rfl) T.isi (by decide +kernel) (pa_n (pv 3) (pa_t (pe_tup ?q1) pa_nil)))
                case q1 =>
                  refine' pa_n (pe_glob (v := .ref o1) (by rfl) L.m1 rfl) ?q2
                  case q2 =>
                    refine' pa_n (pe_glob (v := .ref o2) (by rfl) L.m2 rfl) ?q3
                    case q3 =>
                      refine' pa_n (pe_glob (v := .ref o3) (by rfl) L.m3 rfl) ?q4
                      case q4 =>
                        refine' pa_n (pe_glob (v := .ref o4) (by rfl) L.m4 rfl) ?q5
                        case q5 =>
                          refine' pa_n (pe_glob (v := .ref o5) (by rfl) L.m5 rfl) ?q6
                          case q6 =>
                            refine' pa_n (pe_glob (v := .ref o6) (by rfl) L.m6 rfl) ?q7
                            case q7 =>
                              refine' pa_n (pe_glob (v := .ref o7) (by rfl) L.m7 rfl) ?q8
                              case q8 =>
                                refine' pa_n (pe_glob (v := .ref o8) (by rfl) L.m8 rfl) ?q9
                                case q9 =>
                                  refine' pa_n (pe_glob (v := .ref o9) (by rfl) L.m9 rfl) ?q10
                                  case q10 => exact pa_n (pe_glob (v := .ref o10) (by rfl) L.m10 rfl) pa_nil
            case s5 => exact ps_ret (pe_fldX Z.c hn (pv 3) rfl)
    case fin =>
      rcases hov with rfl | ⟨a0, u, rfl, hou⟩
      · refine ⟨_, rfl, rfl, _, rfl, iteT ?_⟩
        refine ⟨_, rfl, _, rfl, v, ap, t, zs, rfl, hv, hok, hz, hp, hzl, so, (fun ns u e => by rw [hgo] at e; cases e), fun _ d H1 s1 hd hd1 a d' e ha => ?_⟩
        cases e
        have s2 := same_upd (o := excO C a d) ha
        have ha2 : upd H1 a (excO C a d) a = some (excO C a d) := upd_same
        refine ⟨_, rfl, rfl, _, rfl, ?_⟩
        refine iteF ?_
        refine ⟨_, rfl, a, d, _, .ref C, .ref C, true, rfl, ha2, s2 _ _ hd1, (fun u h => h), L.k1, _, rfl, iteF ?_⟩
        refine ⟨_, rfl, a, d, _, .ty "ValueError", .type "ValueError", true, rfl, ha2, s2 _ _ hd1, (fun u h => h), L.k2, _, rfl, iteF ?_⟩
        refine ⟨_, rfl, (by show 10 ≤ sizeLine; decide), fun tp htp => ?_⟩
        have s3 := same_upd (o := .tup [.ref o1, .ref o2, .ref o3, .ref o4, .ref o5, .ref o6, .ref o7, .ref o8, .ref o9, .ref o10]) htp
        refine ⟨a, d, tp, _, [o1, o2, o3, o4, o5, o6, o7, o8, o9, o10], false, rfl, s3 _ _ ha2, s3 _ _ (s2 _ _ hd1), upd_same, L.k3, _, rfl, iteF ?_⟩
        exact ⟨_, rfl, a, d, _, _, rfl, s3 _ _ ha2, s3 _ _ (s2 _ _ hd1), rfl, k _ ((s1.trans s2).trans s3)⟩
      · refine ⟨_, rfl, rfl, _, rfl, iteF ?_⟩
        refine ⟨_, rfl, _, rfl, _, rfl, v, ap, .ref a0, t, u, zs, rfl, hv, hok, hz, hp, hzl, so, hou, (fun ns e => by rw [hgo] at e; cases e), fun _ d H1 s1 hd hd1 a d' e ha => ?_⟩
        cases e
        have s2 := same_upd (o := excO C a d) ha
        have ha2 : upd H1 a (excO C a d) a = some (excO C a d) := upd_same
        refine ⟨_, rfl, rfl, _, rfl, ?_⟩
        refine iteF ?_
        refine ⟨_, rfl, a, d, _, .ref C, .ref C, true, rfl, ha2, s2 _ _ hd1, (fun u h => h), L.k1, _, rfl, iteF ?_⟩
        refine ⟨_, rfl, a, d, _, .ty "ValueError", .type "ValueError", true, rfl, ha2, s2 _ _ hd1, (fun u h => h), L.k2, _, rfl, iteF ?_⟩
        refine ⟨_, rfl, (by show 10 ≤ sizeLine; decide), fun tp htp => ?_⟩
        have s3 := same_upd (o := .tup [.ref o1, .ref o2, .ref o3, .ref o4, .ref o5, .ref o6, .ref o7, .ref o8, .ref o9, .ref o10]) htp
        refine ⟨a, d, tp, _, [o1, o2, o3, o4, o5, o6, o7, o8, o9, o10], false, rfl, s3 _ _ ha2, s3 _ _ (s2 _ _ hd1), upd_same, L.k3, _, rfl, iteF ?_⟩
        exact ⟨_, rfl, a, d, _, _, rfl, s3 _ _ ha2, s3 _ _ (s2 _ _ hd1), rfl, k _ ((s1.trans s2).trans s3)⟩
end
end K04

set_option Elab.async false
set_option linter.all false
set_option maxRecDepth 100000
set_option maxHeartbeats 4000000
namespace K04
open PySem L2
theorem kid_okN {N : Nat} {w : Str} {ts : List Th} (h : ∀ x ∈ ts, isTup x = true → OkN N x) {k : Th} (hk : k ∈ kidsL (.at (.str w) :: ts)) : OkN N k := by
  unfold kidsL at hk
  rw [List.mem_filter] at hk
  rcases List.mem_cons.mp hk.1 with z | z
  · subst z; cases hk.2
  · exact h k z hk.2
def intP (p : List Nat) : List Int := p.map fun (i : Nat) => (i : Int)
theorem go_ne : ∀ (zs : List Int) (k : Th), goT k zs ≠ some [] := by
  intro zs k e
  cases zs with
  | nil => rw [goT] at e; cases e
  | cons a zs =>
    cases k with
    | «at» v => rw [go_at] at e; cases e
    | lst v => rw [go_lst] at e; cases e
    | tup ks =>
      rw [go_tup] at e
      split at e
      · cases h1 : (kidsL ks)[a.toNat]? with
        | none => rw [h1] at e; cases e
        | some k1 =>
          rw [h1] at e
          have e : (goT k1 zs).map (Th.tup ks :: ·) = some [] := e
          cases h2 : goT k1 zs with
          | none => rw [h2] at e; cases e
          | some n2 => rw [h2] at e; cases e
      · cases e
/-- a way of all_paths: its nodes, and what stands at its end -/
theorem all_go : ∀ (n : Nat) (t : Th), OkN n t → ∀ q ∈ allp t, OkN n q.2 ∧ ∃ ns, goT t (intP q.1) = some ns ∧ ns.getLast? = some q.2 := by
  intro n
  induction n with
  | zero => intro t h; exact h.elim
  | succ n ih =>
    intro t h q hq
    have hme := h
    obtain ⟨w, ts, rfl, _, _, _, hk⟩ := h
    rw [allp, allps_kids] at hq
    rcases List.mem_cons.mp hq with z | z
    · subst z
      refine ⟨hme, [_], ?_, rfl⟩
      show goT _ [] = _
      rw [goT]
    · obtain ⟨i, p, k, e1, e2, e3⟩ := allK_get _ 0 q z
      have hm := List.mem_of_getElem? e2
      obtain ⟨o, ns, g1, g2⟩ := ih k (kid_okN hk hm) (p, q.2) e3
      refine ⟨o.up, Th.tup (.at (.str w) :: ts) :: ns, ?_, ?_⟩
      · rw [e1, Nat.zero_add]
        show goT _ ((i : Int) :: intP p) = _
        rw [go_tup, if_pos (Int.natCast_nonneg i), Int.toNat_natCast, e2]
        show (goT k (intP p)).map _ = _
        rw [g1]
        rfl
      · cases ns with
        | nil => cases g2
        | cons a ns => rw [List.getLast?_cons_cons]; exact g2
/-- a step that no part has -/
def NoKid (u : Th) (z : Int) : Prop := ∀ xs, u = .tup xs → z < 0 ∨ ((kidsL xs).length : Int) ≤ z
theorem go_wrong : ∀ (zs : List Int) (t : Th) (ns : List Th) (u : Th) (z : Int), goT t zs = some ns → ns.getLast? = some u → NoKid u z → goT t (zs ++ [z]) = none := by
  intro zs
  induction zs with
  | nil =>
    intro t ns u z e l h
    rw [goT] at e
    cases e
    have l : t = u := by simpa using l
    subst l
    show goT t [z] = none
    cases t with
    | «at» v => rw [go_at]
    | lst v => rw [go_lst]
    | tup xs =>
      rw [go_tup]
      split
      · have : (kidsL xs)[z.toNat]? = none := by
          rw [List.getElem?_eq_none_iff]
          rcases h xs rfl with q | q <;> omega
        rw [this]
        rfl
      · rfl
  | cons y zs ih =>
    intro t ns u z e l h
    rw [List.cons_append]
    cases t with
    | «at» v => rw [go_at]
    | lst v => rw [go_lst]
    | tup xs =>
      rw [go_tup] at e ⊢
      split
      · next hy =>
        rw [if_pos hy] at e
        cases hk : (kidsL xs)[y.toNat]? with
        | none => rfl
        | some k =>
          rw [hk] at e
          have e : (goT k zs).map (Th.tup xs :: ·) = some ns := e
          show (goT k (zs ++ [z])).map _ = none
          cases hg : goT k zs with
          | none => rw [hg] at e; cases e
          | some nk =>
            rw [hg] at e
            cases e
            have hl : nk.getLast? = some u := by
              cases nk with
              | nil => exact absurd hg (go_ne zs k)
              | cons b nk => rw [List.getLast?_cons_cons] at l; exact l
            rw [ih k nk u z hg hl h]
            rfl
      · rfl
theorem go_none : ∀ (zs ys : List Int) (t : Th), goT t zs = none → goT t (zs ++ ys) = none := by
  intro zs
  induction zs with
  | nil => intro ys t h; rw [goT] at h; cases h
  | cons z zs ih =>
    intro ys t h
    rw [List.cons_append]
    cases t with
    | «at» v => rw [go_at]
    | lst v => rw [go_lst]
    | tup xs =>
      rw [go_tup] at h ⊢
      split
      · next hz =>
        rw [if_pos hz] at h
        cases hk : (kidsL xs)[z.toNat]? with
        | none => rfl
        | some k =>
          rw [hk] at h
          have h : (goT k zs).map (Th.tup xs :: ·) = none := h
          show (goT k (zs ++ ys)).map _ = none
          cases hg : goT k zs with
          | none => rw [ih ys k hg]; rfl
          | some nk => rw [hg] at h; cases h
      · rfl
/-! a path's numbers -/
def shZ (z : Int) : Prop := z.natAbs < 10 ^ 12 ∨ z = 10 ^ 40 ∨ z = -10 ^ 40 - 1
theorem sh_int {z : Int} (h : shZ z) : (PyData.int z).showable = true ∧ (PyData.int z).leavesShort 50 = true := by
  rcases h with h | rfl | rfl
  · refine ⟨?_, ?_⟩
    · simp only [PyData.showable]
      exact decide_eq_true (log_small h)
    · simp only [PyData.leavesShort]
      exact decide_eq_true (Nat.le_trans (PyData.shown_int_le h) (by decide))
  · exact ⟨by decide +kernel, by decide +kernel⟩
  · exact ⟨by decide +kernel, by decide +kernel⟩
theorem sh_zs : ∀ zs : List Int, (∀ z ∈ zs, shZ z) → PyData.showableAll (dats (zsT zs)) = true ∧ PyData.leavesShortAll 50 (dats (zsT zs)) = true ∧ PyData.bulkAll (dats (zsT zs)) = zs.length ∧ PyData.depthAll (dats (zsT zs)) = 0 := by
  intro zs
  induction zs with
  | nil => intro _; simp [zsT, dats, PyData.showableAll, PyData.leavesShortAll, PyData.bulkAll, PyData.depthAll]
  | cons z zs ih =>
    intro h
    obtain ⟨a1, a2⟩ := sh_int (h z (List.mem_cons_self ..))
    obtain ⟨b1, b2, b3, b4⟩ := ih fun y hy => h y (List.mem_cons_of_mem _ hy)
    have e : dats (zsT (z :: zs)) = PyData.int z :: dats (zsT zs) := rfl
    rw [e]
    refine ⟨by simp only [PyData.showableAll, a1, b1, Bool.and_self], by simp only [PyData.leavesShortAll, a2, b2, Bool.and_self], ?_, ?_⟩
    · simp only [PyData.bulkAll, PyData.bulk, b3, List.length_cons]
      omega
    · simp only [PyData.depthAll, PyData.depth, b4]
      rfl
theorem show_ok {zs : List Int} (h : ∀ z ∈ zs, shZ z) (hl : zs.length ≤ 1000) : ShowOk zs := by
  obtain ⟨a1, a2, a3, a4⟩ := sh_zs zs h
  have e : dat (.tup (zsT zs)) = .tuple (dats (zsT zs)) := rfl
  refine ⟨?_, ?_, ?_⟩
  · rw [e]; simpa only [PyData.showable] using a1
  · rw [e]; simp only [PyData.depth, a4]; decide
  · have h5 := PyData.shown_le_bulk 50 (by decide) (dat (.tup (zsT zs))) (by rw [e]; simpa only [PyData.leavesShort] using a2)
    have h6 : (dat (.tup (zsT zs))).bulk = zs.length := by rw [e]; simpa only [PyData.bulk] using a3
    rw [h6] at h5
    omega
theorem show_rep {A : Around} {zs : List Int} (s : ShowOk zs) (hu : A.units + 200 < cLine) : (dat (.tup (zsT zs))).showable = true ∧ A.units + ((dat (.tup (zsT zs))).depth + 1) < cLine ∧ (dat (.tup (zsT zs))).shown.length ≤ sizeLine := by
  have h1 := s.dp
  have h2 := s.ln
  have : sizeLine = 16777216 := sizeLine_eq
  exact ⟨s.sh, by omega, by omega⟩
theorem path_zs (p : List Nat) : pathT p = .tup (zsT (intP p)) := by
  unfold pathT zsT intP
  rw [List.map_map]
  rfl
theorem path_sh {p : List Nat} (h : ∀ i ∈ p, i < 10000) : ∀ z ∈ intP p, shZ z := by
  intro z hz
  obtain ⟨i, hi, rfl⟩ := List.mem_map.mp hz
  refine .inl ?_
  have := h i hi
  have e : (10 : Nat) ^ 12 = 1000000000000 := by decide
  rw [e]
  omega
/-- the six last steps that no part has -/
theorem pick6 {x : V} {m : Nat} {z : Int} {u : Th} (hm : m ≤ 900) (z0 : 0 ≤ z) (z1 : z < 9) (hu : ∀ xs, u = .tup xs → (kidsL xs).length = m)
    (hx : x ∈ [V.int (m : Nat), .int ((m : Nat) + z), .int (-1), .int (-1 - (m : Nat)), .int (10 ^ (40 : Int).toNat), .int (-(10 ^ (40 : Int).toNat) - 1)]) : ∃ y : Int, x = .int y ∧ shZ y ∧ NoKid u y := by
  have e : (10 : Nat) ^ 12 = 1000000000000 := by decide
  have e4 : ((10 : Int) ^ (40 : Int).toNat) = 10000000000000000000000000000000000000000 := by decide
  simp only [List.mem_cons, List.not_mem_nil, or_false] at hx
  rcases hx with rfl | rfl | rfl | rfl | rfl | rfl
  · exact ⟨_, rfl, .inl (by rw [e]; omega), fun xs h => .inr (by rw [hu xs h]; omega)⟩
  · exact ⟨_, rfl, .inl (by rw [e]; omega), fun xs h => .inr (by rw [hu xs h]; omega)⟩
  · exact ⟨_, rfl, .inl (by rw [e]; omega), fun xs h => .inl (by omega)⟩
  · exact ⟨_, rfl, .inl (by rw [e]; omega), fun xs h => .inl (by omega)⟩
  · exact ⟨_, rfl, .inr (.inl rfl), fun xs h => .inr (by
      rw [hu xs h, e4]
      omega)⟩
  · exact ⟨_, rfl, .inr (.inr rfl), fun xs h => .inl (by
      rw [e4]
      omega)⟩
def spNowhere : Sp := fun vs H Q _ => ∃ (d l : Addr) (v : V) (ap : Addr) (v2 : V) (ns : List Int) (n : Nat) (zs : List Int) (w0 : Str) (ts : List Th), vs = [.ref d, v, .ref ap, v2] ∧ Feed H d l ns n ∧ n ≤ 800000000000 ∧ IsTh H v2 (.tup (.at (.str w0) :: ts)) ∧ ts.length ≤ 900 ∧
  IsTh H (.ref ap) (.tup (zsT zs)) ∧ zs.length ≤ 100 ∧
  ∀ (p : Addr) (z : Int) (ys : List Int) n' H', NoKid (.tup (.at (.str w0) :: ts)) z → (∀ y ∈ z :: ys, shZ y) → ys.length ≤ 1 → n' ≤ n + 4 → Feed H' d l ns n' → But d H H' → IsTh H' (.ref p) (.tup (zsT (zs ++ (z :: ys)))) → Q (.ref p) H'
section
variable {P : Program} {w : World} {K : PySem.W.Frag} {mg : Str → Option Value} {base : Heap}
theorem scNowhere : FnScope ["_law_feed_here", "_law_e", "_law_path", "_law_here", "_law_many", "_law_last", "_law_more"] ["_law_feed_here", "_law_e", "_law_path", "_law_here"] (defScope sNowhere) := ⟨rfl, rfl, rfl, by decide +kernel, rfl, by decide +kernel, by decide +kernel⟩
theorem ok_nowhere {f fP fD fS fO fW : Addr} {fd dP dD dS dO dW : FuncData} (F : Fun K "_law_nowhere" "_law_nowhere" sNowhere f fd) (U : Dr K mg fD fS fO fW dD dS dO dW) (T : TxtT mg) (KI : Kits K)
    (FP : Fun K "_law_parts" "_law_parts" sLawParts fP dP) (bP : Binds K dP ["_law_e"] []) (mP : mg "_law_parts" = some (.ref fP)) :
    FnOk P w K mg base CX0 3 f fd ["_law_feed_here", "_law_e", "_law_path", "_law_here"] spNowhere := by
  have GP : FnOk P w K mg base CX0 1 fP dP ["_law_e"] spLawParts := ok_lawparts FP T KI
  have GD : FnOk P w K mg base CX0 1 fD dD ["_law_feed_here", "_law_many"] spDraw := ok_draw U.D U.T
  have GO : FnOk P w K mg base CX0 2 fO dO ["_law_feed_here", "_law_some"] spOne := ok_one U.O U
  refine F.ok scNowhere (fun vs H Q E h => ?_) (fun cdv A outer s H vs Q E hr h => ?_)
  · obtain ⟨d, l, v, ap, v2, ns, n, zs, w0, ts, rfl, _⟩ := h
    rfl
  · obtain ⟨d, l, v, ap, v2, ns, n, zs, w0, ts, rfl, F0, hn, hv2, htl, hp, hzl, k⟩ := h
    have hsz : sizeLine = 16777216 := sizeLine_eq
    have hr1 : Room 1 _ := hr.mono (by omega)
    refine' ⟨?tt, ?body, ?fin⟩
    case body =>
      refine' pss_cons ?s1 ?r1
      case s1 => exact ps_set (i := 4) scNowhere.nd rfl (Or.inl rfl) (pe_callB call_len_seq (by rfl) T.len PySem.boot_len (pa_c (pe_call GP hr1 (by rfl) mP FP.kp bP .nil pass0 (pa_n (pv 3) pa_nil)) pa_nil))
      case r1 =>
        refine' pss_cons ?s2 ?r2
        case s2 =>
          refine' ps_set (i := 5) scNowhere.nd rfl (Or.inl rfl) (pe_call GO hr (by rfl) U.mO U.O.kp U.bO .nil pass0 (pa_n (pv 0) (pa_l ?l pa_nil)))
          case l =>
            refine' pe_lst (pa_n (pv 4) ?l1)
            case l1 =>
              refine' pa_cons (pe_op op_add (pv 4) (pe_call GD hr1 (by rfl) U.mD U.D.kp U.bD .nil pass0 (pa_n (pv 0) (pa_k pe_int pa_nil)))) ?l2
              case l2 =>
                refine' pa_cons (pe_un un_neg pe_int) ?l3
                case l3 =>
                  refine' pa_cons (pe_op op_sub (pe_un un_neg pe_int) (pv 4)) ?l4
                  case l4 =>
                    refine' pa_cons (pe_op op_pow pe_int pe_int) ?l5
                    case l5 => exact pa_cons (pe_op op_sub (pe_un un_neg (pe_op op_pow pe_int pe_int)) pe_int) pa_nil
        case r2 =>
          refine' pss_cons ?s3 ?r3
          case s3 => exact ps_set (i := 6) scNowhere.nd rfl (Or.inl rfl) (pe_op op_catP (pv 2) (pe_tup (pa_n (pv 5) pa_nil)))
          case r3 =>
            refine' pss_cons ?s4 (pss_one ?s5)
            case s4 =>
              refine' ps_if ?c (pss_one ?b) pss_nil
              case c => exact pt_cmpR op_eq (pe_call GD hr1 (by rfl) U.mD U.D.kp U.bD .nil pass0 (pa_n (pv 0) (pa_k pe_int pa_nil))) pe_int (nomark _)
              case b => exact ps_set (i := 6) scNowhere.nd rfl (Or.inl rfl) (pe_op op_catP (pv 6) (pe_tup (pa_c (pe_call GD hr1 (by rfl) U.mD U.D.kp U.bD .nil pass0 (pa_n (pv 0) (pa_k pe_int pa_nil))) pa_nil)))
            case s5 => exact ps_ret (pv 6)
    case fin =>
      obtain ⟨ap', pvs, e1, hap, hpv⟩ := th_tup hp
      cases e1
      have hpl := IsThs.len _ hpv
      rw [List.length_map] at hpl
      have hkl : (kidsL ts).length ≤ 900 := Nat.le_trans (List.length_filter_le L2.isTup ts) htl
      refine ⟨_, rfl, v2, w0, ts, rfl, hv2, by omega, fun p3 ws3 H1 s1 _ hp3 hws3 => ⟨p3, ws3, rfl, .inl (SqL.of hp3), ?_⟩⟩
      rw [IsThs.len _ hws3]
      have F1 := F0.same s1
      refine ⟨_, rfl, _, rfl, _, rfl, _, rfl, d, l, ns, n, _, rfl, F1, by omega, by decide, by decide, fun z n2 H2 z0 z1 hn2 F2 b2 => ⟨_, _, rfl, rfl, ?_⟩⟩
      refine ⟨1, rfl, 1, rfl, _, rfl, _, _, rfl, rfl, ?_⟩
      refine ⟨10, 40, rfl, rfl, ⟨by decide, by decide, by decide⟩, ?_⟩
      refine ⟨10, 40, rfl, rfl, ⟨by decide, by decide, by decide⟩, _, rfl, _, _, rfl, rfl, ?_⟩
      refine ⟨(by show 6 ≤ sizeLine; decide), fun c hc => ?_⟩
      have sc := same_upd (o := .lst [.int ((kidsL ts).length : Nat), .int (((kidsL ts).length : Nat) + z), .int (-1), .int (-1 - ((kidsL ts).length : Nat)), .int (10 ^ (40 : Int).toNat), .int (-(10 ^ (40 : Int).toNat) - 1)]) hc
      have F2' := F2.same sc
      refine ⟨d, l, c, ns, n2, _, rfl, F2', by omega, upd_same, (by show 0 < 6; decide), (by show 6 ≤ 1000000; decide), fun x n3 H3 hx hn3 F3 b3 => ?_⟩
      obtain ⟨y, rfl, hy1, hy2⟩ := pick6 (u := .tup (.at (.str w0) :: ts)) hkl z0 z1 (fun xs e => by cases e; rfl) hx
      have bA : But d H H3 := (((But.of s1).trans b2).trans (But.of sc)).trans b3
      have hap3 : H3 ap = some (.tup pvs) := b3.kp F2' _ _ (sc _ _ (b2.kp F1 _ _ (s1 _ _ hap) (fun _ q => by cases q))) (fun _ q => by cases q)
      have hpv3 : IsThs H3 pvs (zsT zs) := IsThs.kp (b3.kp F2') (IsThs.kp (Kp.of sc) (IsThs.kp (b2.kp F1) (IsThs.kp (Kp.of s1) hpv)))
      refine ⟨_, rfl, _, rfl, (by show 1 ≤ sizeLine; decide), fun c4 hc4 => ?_⟩
      have s4 := same_upd (o := .tup [.int y]) hc4
      refine ⟨ap, c4, pvs, [.int y], rfl, rfl, s4 _ _ hap3, upd_same, (by show pvs.length + 1 ≤ sizeLine; omega), fun p5 H5 s5 hp5 => ?_⟩
      have s45 := s4.trans s5
      have F5 := F3.same s45
      have hwr : IsTh H5 (.ref p5) (.tup (zsT (zs ++ [y]))) := by
        have e : zsT (zs ++ [y]) = zsT zs ++ [.at (.int y)] := List.map_append ..
        rw [e]
        exact .tup hp5 (IsThs.app _ (IsThs.kp (Kp.of s45) hpv3) (.cons (.at rfl) .nil))
      refine ⟨_, rfl, d, l, ns, n3, _, rfl, F5, by omega, by decide, by decide, fun z6 n6 H6 _ _ hn6 F6 b6 => ⟨rfl, _, rfl, ?_⟩⟩
      have bB := (bA.trans (But.of s45)).trans b6
      have hwr6 := IsTh.kp (b6.kp F5) hwr
      refine ite2 (fun _ => ?_) (fun _ => ?_)
      · refine ⟨_, rfl, _, rfl, d, l, ns, n6, _, rfl, F6, by omega, by decide, by decide, fun z7 n7 H7 z70 z71 hn7 F7 b7 => ?_⟩
        refine ⟨(by show 1 ≤ sizeLine; decide), fun c8 hc8 => ?_⟩
        have s8 := same_upd (o := .tup [.int z7]) hc8
        have hwr7 := IsTh.kp (Kp.of s8) (IsTh.kp (b7.kp F6) hwr6)
        obtain ⟨p5', vs5, e5, hp7, hv7⟩ := th_tup hwr7
        cases e5
        have hl7 := IsThs.len _ hv7
        rw [List.length_map, List.length_append] at hl7
        refine ⟨p5, c8, vs5, [.int z7], rfl, rfl, hp7, upd_same, (by show vs5.length + 1 ≤ sizeLine; rw [hl7]; show _ + 1 + 1 ≤ _; omega), fun p9 H9 s9 hp9 => ?_⟩
        have F9 := (F7.same s8).same s9
        refine ⟨_, rfl, k p9 y [z7] n7 H9 hy2 ?_ (Nat.le_refl _) (by omega) F9 (((bB.trans b7).trans (But.of s8)).trans (But.of s9)) ?_⟩
        · intro q hq
          simp only [List.mem_cons, List.not_mem_nil, or_false] at hq
          rcases hq with rfl | rfl
          · exact hy1
          · refine .inl ?_
            have e : (10 : Nat) ^ 12 = 1000000000000 := by decide
            rw [e]
            omega
        · have e : zsT (zs ++ [y, z7]) = zsT (zs ++ [y]) ++ [.at (.int z7)] := by
            have : zs ++ [y, z7] = (zs ++ [y]) ++ [z7] := by simp
            rw [this]
            exact List.map_append ..
          rw [e]
          exact .tup hp9 (IsThs.app _ (IsThs.kp (Kp.of s9) hv7) (.cons (.at rfl) .nil))
      · refine ⟨_, rfl, k p5 y [] n6 H6 hy2 ?_ (Nat.zero_le _) (by omega) F6 bB hwr6⟩
        intro q hq
        rw [List.mem_singleton] at hq
        rw [hq]
        exact hy1
end
end K04

set_option Elab.async false
set_option linter.all false
set_option maxRecDepth 100000
set_option maxHeartbeats 4000000
namespace K04
open PySem L2
def spLaw (K : PySem.W.Frag) : Sp := fun vs H Q _ => ∃ (a : Addr) (ns : List Int), vs = [.ref a] ∧ SqL K H a (ns.map V.int) ∧ ns.length ≤ 63 ∧ ∀ H', Q (.bl true) H'
/-- a call that does not raise here -/
theorem pass_none {X : Cx} {C : Addr} : Passes (CXN X.prog X.w C) X E0 := by
  intro pins σ H s e s' I h
  obtain ⟨a, d, T, H', rfl, os, bare, un, hok, F, ha, hT, Ha, HT, z⟩ := h
  exact z.elim
theorem noTest {σ : St} {H : Hp} {A B : Hp → Prop} (h : A H) : tNoTest σ H (fun b H3 => if b = true then A H3 else B H3) := by
  show if true = true then A H else B H
  rw [if_pos rfl]
  exact h
theorem nd_po : (["_law_path", "_law_one_here"] : List Str).Nodup := by decide +kernel
theorem th_ref {H : Hp} {v : V} {t : Th} (h : IsTh H v t) (ht : L2.isTup t = true) : ∃ a, v = .ref a := by
  cases t with
  | tup xs => obtain ⟨a, vs, e, _⟩ := th_tup h; exact ⟨a, e⟩
  | «at» v => cases ht
  | lst v => cases ht
theorem ok_isTup {n : Nat} {t : Th} (h : OkT n t) : L2.isTup t = true := by
  cases n with
  | zero => exact h.elim
  | succ n => obtain ⟨w, ts, rfl, _⟩ := h; rfl
section
variable {P : Program} {w : World} {K : PySem.W.Frag} {mg : Str → Option Value} {base : Heap}
theorem scLaw : FnScope ["_law_script", "_law_feed_here", "_law_world_here", "_law_e", "_law_others", "_law_some", "_law_turn", "_law_path", "_law_here", "_law_other", "_law_found", "_law_wrong", "_law_one_here"] ["_law_script"] (defScope sLaw) := ⟨rfl, rfl, rfl, by decide +kernel, rfl, by decide +kernel, by decide +kernel⟩
/-- what the law calls -/
structure LW (P : Program) (w : World) (K : PySem.W.Frag) (mg : Str → Option Value) (base : Heap) (C : Addr) (fF fWo fX fA fI fY fS fN fR : Addr) (dF dWo dX dA dI dY dS dN dR : FuncData) : Prop where
  F : Fun K "_law_feed" "_law_feed" sFeed fF dF
  bF : Binds K dF ["_law_script"] []
  mF : mg "_law_feed" = some (.ref fF)
  Wo : FnOk P w K mg base CX0 5 fWo dWo ["_law_feed_here", "_law_room"] spWorld
  kWo : PySem.W.keepIn K (.ref fWo) = true
  bWo : Binds K dWo ["_law_feed_here", "_law_room"] []
  mWo : mg "_law_world" = some (.ref fWo)
  X : FnOk P w K mg base CX0 14 fX dX ["_law_feed_here", "_law_world_here", "_law_bound", "_law_depth"] (spExpr 10)
  kX : PySem.W.keepIn K (.ref fX) = true
  bX : Binds K dX ["_law_feed_here", "_law_world_here", "_law_bound", "_law_depth"] []
  mX : mg "_law_expr" = some (.ref fX)
  A : FnOk P w K mg base CX0 12 fA dA ["_law_e"] (spAllPaths 10)
  kA : PySem.W.keepIn K (.ref fA) = true
  bA : Binds K dA ["_law_e"] []
  mA : mg "_law_all_paths" = some (.ref fA)
  I : FnOk P w K mg base (CXN P w C) 5 fI dI ["e", "path"] (spPiece C 20)
  kI : PySem.W.keepIn K (.ref fI) = true
  bI : Binds K dI ["e", "path"] []
  mI : mg "piece" = some (.ref fI)
  Y : FnOk P w K mg base (CXN P w C) 5 fY dY ["e", "path", "other"] (spWithP C 10)
  kY : PySem.W.keepIn K (.ref fY) = true
  bY : Binds K dY ["e", "path", "other"] []
  mY : mg "with_piece" = some (.ref fY)
  S : FnOk P w K mg base CX0 12 fS dS ["_law_e", "_law_path", "_law_other"] (spSwapped 10)
  kS : PySem.W.keepIn K (.ref fS) = true
  bS : Binds K dS ["_law_e", "_law_path", "_law_other"] []
  mS : mg "_law_swapped" = some (.ref fS)
  N : FnOk P w K mg base CX0 3 fN dN ["_law_feed_here", "_law_e", "_law_path", "_law_here"] spNowhere
  kN : PySem.W.keepIn K (.ref fN) = true
  bN : Binds K dN ["_law_feed_here", "_law_e", "_law_path", "_law_here"] []
  mN : mg "_law_nowhere" = some (.ref fN)
  R : FnOk P w K mg base CX0 6 fR dR ["_law_e", "_law_path", "_law_other"] (spRefused 10)
  kR : PySem.W.keepIn K (.ref fR) = true
  bR : Binds K dR ["_law_e", "_law_path", "_law_other"] []
  mR : mg "_law_refused" = some (.ref fR)
  repr : mg "repr" = none
theorem ok_law {f C fF fWo fX fA fI fY fS fN fR fD fSp fO fW : Addr} {fd dF dWo dX dA dI dY dS dN dR dD dSp dO dW : FuncData} (F : Fun K "law" "law" sLaw f fd) (U : Dr K mg fD fSp fO fW dD dSp dO dW)
    (Y : LW P w K mg base C fF fWo fX fA fI fY fS fN fR dF dWo dX dA dI dY dS dN dR) : FnOk P w K mg base CX0 15 f fd ["_law_script"] (spLaw K) := by
  have GF : FnOk P w K mg base CX0 1 fF dF ["_law_script"] (spFeed K) := ok_feed Y.F U.T
  have GD : FnOk P w K mg base CX0 1 fD dD ["_law_feed_here", "_law_many"] spDraw := ok_draw U.D U.T
  have GO : FnOk P w K mg base CX0 2 fO dO ["_law_feed_here", "_law_some"] spOne := ok_one U.O U
  refine F.ok scLaw (fun vs H Q E h => ?_) (fun cdv A outer s H vs Q E hr h => ?_)
  · obtain ⟨a, ns, rfl, _⟩ := h
    rfl
  · obtain ⟨a, ns, rfl, hS, hlen, k⟩ := h
    have hsz : sizeLine = 16777216 := sizeLine_eq
    have hg := hr.gd
    have hu : (A.deeper (PyProof.Rows.envOfC "law" (defScope sLaw) s.heap.objs.size f cdv)).units + 200 < cLine := by have := hr.un; omega
    have hu1 := hu_of hr
    have hr1 : Room 1 _ := hr.mono (by decide)
    have hr2 : Room 2 _ := hr.mono (by decide)
    have hr3 : Room 3 _ := hr.mono (by decide)
    have hr5 : Room 5 _ := hr.mono (by decide)
    have hr6 : Room 6 _ := hr.mono (by decide)
    have hr12 : Room 12 _ := hr.mono (by decide)
    have hr14 : Room 14 _ := hr.mono (by decide)
    refine' ⟨?tt, ?body, ?fin⟩
    case body =>
      refine' pss_cons ?s1 ?r1
      case s1 => exact ps_set (i := 1) scLaw.nd rfl (Or.inl rfl) (pe_call GF hr1 (by rfl) Y.mF Y.F.kp Y.bF .nil pass0 (pa_n (pv 0) pa_nil))
      case r1 =>
        refine' pss_cut ?s2 ?r2
        case s2 => exact ps_set (i := 2) scLaw.nd rfl (Or.inl rfl) (pe_call Y.Wo hr5 (by rfl) Y.mWo Y.kWo Y.bWo .nil pass0 (pa_n (pv 1) (pa_k pe_int pa_nil)))
        case r2 =>
          refine' pss_cut ?s3 ?r3
          case s3 => exact ps_set (i := 3) scLaw.nd rfl (Or.inl rfl) (pe_call Y.X hr14 (by rfl) Y.mX Y.kX Y.bX .nil pass0 (pa_n (pv 1) (pa_n (pv 2) (pa_l (pe_lst pa_nil) (pa_k pe_int pa_nil)))))
          case r3 =>
            refine' pss_cut ?s4 ?r4
            case s4 =>
              refine' ps_dput hu1 (pv 2) pe_str ?x rfl
              case x => exact pe_ix ix_list (pe_lst (pa_k pe_int (pa_k pe_int pa_nil))) (pe_call GD hr1 (by rfl) U.mD U.D.kp U.bD .nil pass0 (pa_n (pv 1) (pa_k pe_int pa_nil))) (fun _ _ => rfl)
            case r4 =>
              refine' pss_cut ?s5 ?r5
              case s5 =>
                refine' ps_setComp (i := 4) (N' := ["_law_path", "_law_one_here"]) (src := [none, none]) ?k1 ?k2 ?k3 ?k4 ?k5 ?k6 ?k7
                case k1 => rfl
                case k2 => exact scLaw.nd
                case k3 => rfl
                case k4 => exact Or.inl rfl
                case k5 => exact compScope_of (defScope sLaw) rfl ["_law_script", "_law_feed_here", "_law_world_here", "_law_e", "_law_others", "_law_some", "_law_turn", "_law_path", "_law_here", "_law_other", "_law_found", "_law_wrong", "_law_one_here"] rfl (by decide +kernel)
                case k6 => exact pi_list (pe_call Y.A hr12 (by rfl) Y.mA Y.kA Y.bA .nil pass0 (pa_c (pe_call Y.X hr14 (by rfl) Y.mX Y.kX Y.bX .nil pass0 (pa_n (pv 1) (pa_n (pv 2) (pa_l (pe_lst pa_nil) (pa_k pe_int pa_nil))))) pa_nil))
                case k7 =>
                  intro cl C ex s0 H0
                  refine' ⟨?g1, ?g2, ?g3⟩
                  case g1 => exact pg_pairK (K := K) (i := 0) (j := 1) rfl rfl nd_po rfl (Or.inl rfl) rfl (Or.inl rfl) (Or.inr rfl) (Or.inr rfl)
                  case g2 => exact pts_nil
                  case g3 => exact pv 1
              case r5 =>
                refine' pss_cut ?s6 ?r6
                case s6 => exact ps_set (i := 5) scLaw.nd rfl (Or.inl rfl) (pe_call Y.A hr12 (by rfl) Y.mA Y.kA Y.bA .nil pass0 (pa_n (pv 3) pa_nil))
                case r6 =>
                  refine' pss_cons ?s7 (pss_one ?s8)
                  case s7 =>
                    refine' ps_for PassesOwn.never rfl (pi_range1 (by rfl) U.T.range (pa_k pe_int pa_nil)) (pg_name (i := 6) scLaw.nd rfl (Or.inl rfl)) ?blk
                    case blk =>
                      refine' pss_cons ?c1 ?q1
                      case c1 => exact ps_asg (pe_call GO hr2 (by rfl) U.mO U.O.kp U.bO .nil pass0 (pa_n (pv 1) (pa_n (pv 5) pa_nil))) (pg_tup rfl (pgs_cons (pg_name (i := 7) scLaw.nd rfl (Or.inl rfl)) (pgs_cons (pg_name (i := 8) scLaw.nd rfl (Or.inl rfl)) pgs_nil)))
                      case q1 =>
                        refine' pss_cut ?c2 ?q2
                        case c2 => exact ps_set (i := 9) scLaw.nd rfl (Or.inl rfl) (pe_call GO hr2 (by rfl) U.mO U.O.kp U.bO .nil pass0 (pa_n (pv 1) (pa_n (pv 4) pa_nil)))
                        case q2 =>
                          refine' pss_cut ?c3 ?q3
                          case c3 => exact ps_set (i := 10) scLaw.nd rfl (Or.inl rfl) (pe_call Y.Y hr5 (by rfl) Y.mY Y.kY Y.bY .nil pass_none (pa_n (pv 3) (pa_n (pv 7) (pa_n (pv 9) pa_nil))))
                          case q3 =>
                            refine' pss_cut ?c4 ?q4
                            case c4 =>
                              refine' ps_if ?t4 (pss_one (ps_ret pe_bl)) pss_nil
                              case t4 =>
                                refine' (pw_or (pt_cmpR op_ne ?a1 ?b1 (nomark _)) (pw_or1 (pt_cmpR op_ne ?a2 ?b2 (nomark _)))).pt
                                case a1 => exact pe_callB (id := "repr") (call_reprA rfl hg) (by rfl) Y.repr (by decide +kernel) (pa_n (pv 10) pa_nil)
                                case b1 => exact pe_callB (id := "repr") (call_reprA rfl hg) (by rfl) Y.repr (by decide +kernel) (pa_c (pe_call Y.S hr12 (by rfl) Y.mS Y.kS Y.bS .nil pass0 (pa_n (pv 3) (pa_n (pv 7) (pa_n (pv 9) pa_nil)))) pa_nil)
                                case a2 => exact pe_callB (id := "repr") (call_reprA rfl hg) (by rfl) Y.repr (by decide +kernel) (pa_c (pe_call Y.I hr5 (by rfl) Y.mI Y.kI Y.bI .nil pass_none (pa_n (pv 10) (pa_n (pv 7) pa_nil))) pa_nil)
                                case b2 => exact pe_callB (id := "repr") (call_reprA rfl hg) (by rfl) Y.repr (by decide +kernel) (pa_n (pv 9) pa_nil)
                            case q4 =>
                              refine' pss_cut ?c5 (pss_one ?c6)
                              case c5 => exact ps_set (i := 11) scLaw.nd rfl (Or.inl rfl) (pe_call Y.N hr3 (by rfl) Y.mN Y.kN Y.bN .nil pass0 (pa_n (pv 1) (pa_n (pv 3) (pa_n (pv 7) (pa_n (pv 8) pa_nil)))))
                              case c6 =>
                                refine' ps_for PassesOwn.never rfl (pi_tup (pe_tup (pa_k pe_non (pa_n (pv 9) pa_nil)))) (pg_name (i := 12) scLaw.nd rfl (Or.inl rfl)) (pss_one ?b6)
                                case b6 =>
                                  refine' ps_if (pt_cmpR op_ne ?a3 ?b3 (nomark _)) (pss_one (ps_ret pe_bl)) pss_nil
                                  case a3 => exact pe_callB (id := "repr") (call_reprA rfl hg) (by rfl) Y.repr (by decide +kernel) (pa_c (pe_call Y.R hr6 (by rfl) Y.mR Y.kR Y.bR .nil pass0 (pa_n (pv 3) (pa_n (pv 11) (pa_n (pv 12) pa_nil)))) pa_nil)
                                  case b3 => exact pe_callB (id := "repr") (call_reprA rfl hg) (by rfl) Y.repr (by decide +kernel) (pa_n (pv 11) pa_nil)
                  case s8 => exact ps_ret pe_bl
    case fin =>
      have hc10 : cD 10 ≤ 8707129340 := by decide
      refine ⟨_, rfl, a, ns, rfl, hS, hlen, fun d l H1 F1 _ s1 => ?_⟩
      refine ⟨fun σ' H' => ∃ (wd nm lt cl : Addr) (T1 T2 T3 : List Str) (n' : Nat), σ' = [some (.ref a), some (.ref d), some (.ref wd), none, none, none, none, none, none, none, none, none, none] ∧ H' wd = some (.dK (worldKV nm lt cl 50)) ∧ Nms H' nm lt cl T1 T2 T3 ∧ n' ≤ 200 ∧ Feed H' d l ns n', ?_, ?_⟩
      · exact ⟨_, rfl, d, l, ns, 0, 50, rfl, F1, by decide, fun wd nm lt cl T1 T2 T3 n3 H3 W3 N3 hn3 F3 b3 => ⟨wd, nm, lt, cl, T1, T2, T3, n3, rfl, W3, N3, by omega, F3⟩⟩
      clear F1 s1
      rintro σ2 H2 ⟨wd, nm, lt, cl, T1, T2, T3, n2, rfl, W2, N2, hn2, F2⟩
      refine ⟨fun σ' H' => ∃ (v : V) (t : Th) (n' : Nat) (r : Int), σ' = [some (.ref a), some (.ref d), some (.ref wd), some v, none, none, none, none, none, none, none, none, none] ∧ IsTh H' v t ∧ OkN 10 t ∧ lf t = true ∧ Th.sz t ≤ 450 ∧ n' ≤ 10000000000 ∧ Feed H' d l ns n' ∧ H' wd = some (.dK (worldKV nm lt cl r)) ∧ Nms H' nm lt cl T1 T2 T3, ?_, ?_⟩
      · refine ⟨_, rfl, _, rfl, Nat.zero_le _, fun e he => ?_⟩
        have se := same_upd (o := .lst []) he
        have F2' := F2.same se
        have W2' := se _ _ W2
        refine ⟨d, l, wd, nm, lt, cl, e, ns, n2, 50, 10, T1, T2, T3, [], rfl, by decide, by decide, by decide, F2', by omega, W2', by decide, by decide, N2.kp (Kp.of se), upd_same, by decide, (fun t ht => by cases ht), fun v t n4 r4 H4 h1 o1 f1 z1 y1 y2 y3 F4 W4 b4 => ?_⟩
        exact ⟨v, t, n4, r4, rfl, h1, o1, f1, by omega, by omega, F4, W4, (N2.kp (Kp.of se)).kp (b4.kp F2' W2')⟩
      clear W2 N2 F2
      rintro σ3 H3 ⟨v, t, n3, r3, rfl, hv3, hok, hlf, hz, hn3, F3, W3, N3⟩
      refine ⟨fun σ' H' => ∃ (n' : Nat) (r : Int), σ' = [some (.ref a), some (.ref d), some (.ref wd), some v, none, none, none, none, none, none, none, none, none] ∧ IsTh H' v t ∧ n' ≤ n3 + 1 ∧ Feed H' d l ns n' ∧ H' wd = some (.dK (worldKV nm lt cl r)) ∧ 0 ≤ r ∧ r ≤ 100 ∧ Nms H' nm lt cl T1 T2 T3, ?_, ?_⟩
      · refine ⟨(by show 2 ≤ sizeLine; decide), fun c hc => ?_⟩
        have sc := same_upd (o := .lst [.int 50, .int 4]) hc
        have F3' := F3.same sc
        have W3' := sc _ _ W3
        refine ⟨_, rfl, d, l, ns, n3, _, rfl, F3', by omega, by decide, by decide, fun q n4 H4 q0 q1 hn4 F4 b4 => ?_⟩
        obtain ⟨x, hx, hat⟩ := at_in (xs := [V.int 50, .int 4]) (i := q) q0 q1
        obtain ⟨r, rfl, hr0, hr100⟩ : ∃ y : Int, x = .int y ∧ 0 ≤ y ∧ y ≤ 100 := by
          simp only [List.mem_cons, List.not_mem_nil, or_false] at hx
          rcases hx with rfl | rfl
          · exact ⟨_, rfl, by decide, by decide⟩
          · exact ⟨_, rfl, by decide, by decide⟩
        have W4 : H4 wd = some (.dK (worldKV nm lt cl r3)) := b4 wd _ W3' (world_ne F3' W3')
        have k4 := b4.kp F3'
        have bu : But2 d wd H4 (upd H4 wd (.dK (worldKV nm lt cl r))) := But2.upd
        have k5 := bu.kp F4 W4
        refine ⟨c, _, q, .int r, rfl, rfl, SqL.of (F3'.lst b4 upd_same), hat, _, rfl, wd, _, rfl, wset_room W4, ?_⟩
        exact ⟨n4, r, rfl, IsTh.kp k5 (IsTh.kp k4 (IsTh.kp (Kp.of sc) hv3)), by omega, F4.world W4, upd_same, hr0, hr100, ((N3.kp (Kp.of sc)).kp k4).kp k5⟩
      clear hv3 F3 W3 N3
      rintro σ4 H4 ⟨n4, r, rfl, hv4, hn4, F4, W4, hr0, hr100, N4⟩
      refine ⟨fun σ' H' => ∃ (n' : Nat) (ol : Addr) (ys : List V) (t2 : Th), σ' = [some (.ref a), some (.ref d), some (.ref wd), some v, some (.ref ol), none, none, none, none, none, none, none, none] ∧ IsTh H' v t ∧ H' ol = some (.lst ys) ∧ IsThs H' ys ((allp t2).map (·.2)) ∧ OkN 10 t2 ∧ lf t2 = true ∧ Th.sz t2 ≤ 900 ∧ n' ≤ 20000000000 ∧ Feed H' d l ns n', ?_, ?_⟩
      · refine ⟨_, rfl, _, rfl, Nat.zero_le _, fun e he => ?_⟩
        have se := same_upd (o := .lst []) he
        have F4' := F4.same se
        have W4' := se _ _ W4
        refine ⟨d, l, wd, nm, lt, cl, e, ns, n4, r, 10, T1, T2, T3, [], rfl, by decide, by decide, by decide, F4', by omega, W4', hr0, by omega, N4.kp (Kp.of se), upd_same, by decide, (fun t ht => by cases ht), fun v2 t2 n5 r5 H5 h1 o1 f1 z1 y1 y2 y3 F5 W5 b5 => ?_⟩
        have hv5 := IsTh.kp (b5.kp F4' W4') (IsTh.kp (Kp.of se) hv4)
        have hz2 : Th.sz t2 ≤ 900 := by omega
        refine ⟨v2, t2, rfl, h1, o1.ok, by decide, by omega, fun p ws H6 s6 hp hws => ?_⟩
        have hwl := IsThs.len _ hws
        rw [List.length_map, cnt_len] at hwl
        have hcs := cnt_sz t2
        refine ⟨p, rfl, ⟨_, SqL.of hp⟩, comp_list (K := K) (a := p) (xs := ws) (fun i ys σc H' => ∃ o o', σc = [o, o'] ∧ H' = H6 ∧ ys.length = i ∧ IsThs H6 ys (((allp t2).take i).map (·.2)))
          ⟨none, none, rfl, rfl, rfl, by rw [List.take_zero]; exact .nil⟩ (fun i ys σc H' ⟨_, _, _, e, _⟩ => by rw [e]; exact SqL.of hp) ?_ ?_⟩
        · rintro i x ys σc H' hx hi ⟨o, o', rfl, rfl, hyl, hys⟩
          obtain ⟨u, hu', h5⟩ := ths_get _ hws hx
          rw [List.getElem?_map] at hu'
          obtain ⟨q, hq, rfl⟩ : ∃ q, (allp t2)[i]? = some q ∧ pw q = u := by
            cases e : (allp t2)[i]? with
            | none => rw [e] at hu'; cases hu'
            | some q => rw [e] at hu'; exact ⟨q, rfl, by simpa using hu'⟩
          obtain ⟨ay, vy, rfl, hay, hvy⟩ := th_tup h5
          cases hvy with
          | @cons v1 _ _ _ c1 c2 =>
            cases c2 with
            | @cons v3 _ _ _ c3 c4 =>
              cases c4
              refine ⟨by omega, ay, _, rfl, SqT.of hay, rfl, _, _, rfl, _, _, rfl, rfl, ?_⟩
              refine noTest ?_
              refine ⟨_, rfl, nx hi ⟨_, _, rfl, rfl, by rw [List.length_append, hyl]; rfl, ?_⟩⟩
              have e1 : ((allp t2).take (i + 1)) = (allp t2).take i ++ [q] := by rw [List.take_add_one, hq]; rfl
              rw [e1, List.map_append]
              exact IsThs.app _ hys (.cons c3 .nil)
        · rintro ys σc H' ⟨o, o', rfl, rfl, hyl, hys⟩ ol hol
          rw [List.take_of_length_le (by rw [cnt_len]; omega)] at hys
          have s7 := same_upd (o := .lst ys) hol
          exact ⟨n5, ol, ys, t2, rfl, IsTh.kp (Kp.of (s6.trans s7)) hv5, upd_same, IsThs.kp (Kp.of s7) hys, o1, f1, hz2, by omega, F5.same (s6.trans s7)⟩
      clear hv4 F4 W4 N4
      rintro σ5 H5 ⟨n5, ol, ys, t2, rfl, hv5, hol5, hys5, hok2, hlf2, hz2, hn5, F5⟩
      refine ⟨fun σ' H' => ∃ (p : Addr) (ws : List V), σ' = [some (.ref a), some (.ref d), some (.ref wd), some v, some (.ref ol), some (.ref p), none, none, none, none, none, none, none] ∧ IsTh H' v t ∧ H' ol = some (.lst ys) ∧ IsThs H' ys ((allp t2).map (·.2)) ∧ H' p = some (.lst ws) ∧ IsThs H' ws (pws (allp t)) ∧ Feed H' d l ns n5, ?_, ?_⟩
      · exact ⟨_, rfl, v, t, rfl, hv5, hok.ok, by decide, by omega, fun p ws H6 s6 hp hws => ⟨p, ws, rfl, IsTh.kp (Kp.of s6) hv5, s6 _ _ hol5, IsThs.kp (Kp.of s6) hys5, hp, hws, F5.same s6⟩⟩
      clear hv5 hol5 hys5 F5
      rintro σ6 H6 ⟨p, ws, rfl, hv6, hol6, hys6, hp6, hws6, F6⟩
      have hwl := IsThs.len _ hws6
      rw [List.length_map, cnt_len] at hwl
      have hyl := IsThs.len _ hys6
      rw [List.length_map, cnt_len] at hyl
      have hcs := cnt_sz t
      have hcp := cnt_pos hok.ok
      have hcs2 := cnt_sz t2
      have hcp2 := cnt_pos hok2.ok
      have hno : ∀ {x : Str}, ¬ ((!decide (V.str x = V.str x)) = true) := fun {x} => by simp
      refine ⟨8, rfl, by decide, by decide, for_range (lo := 0) (n := 8) (fun i σ H' => ∃ (n' : Nat) (o6 o7 o8 o9 o10 o11 o12 : Option V), σ = [some (.ref a), some (.ref d), some (.ref wd), some v, some (.ref ol), some (.ref p), o6, o7, o8, o9, o10, o11, o12] ∧ IsTh H' v t ∧ H' ol = some (.lst ys) ∧ IsThs H' ys ((allp t2).map (·.2)) ∧ H' p = some (.lst ws) ∧ IsThs H' ws (pws (allp t)) ∧ n' ≤ n5 + 6 * i ∧ Feed H' d l ns n')
        ⟨n5, none, none, none, none, none, none, none, rfl, hv6, hol6, hys6, hp6, hws6, by omega, F6⟩ ?_ ?_⟩
      · clear hv6 hol6 hys6 hp6 hws6 F6
        rintro i σ H6 hi ⟨n6, o6, o7, o8, o9, o10, o11, o12, rfl, hv6, hol6, hys6, hp6, hws6, hn6, F6⟩
        refine ⟨_, rfl, _, rfl, d, l, p, ns, n6, ws, rfl, F6, by omega, hp6, by omega, by omega, fun x n7 H7 hx hn7 F7 b7 => ?_⟩
        have k7 := b7.kp F6
        have hws7 := IsThs.kp k7 hws6
        have hp7 := F6.lst b7 hp6
        have hv7 := IsTh.kp k7 hv6
        have hol7 := F6.lst b7 hol6
        have hys7 := IsThs.kp k7 hys6
        obtain ⟨j, hj⟩ := List.getElem?_of_mem hx
        obtain ⟨u0, hu', h5⟩ := ths_get _ hws7 hj
        rw [List.getElem?_map] at hu'
        obtain ⟨q, hq, rfl⟩ : ∃ q, (allp t)[j]? = some q ∧ pw q = u0 := by
          cases e : (allp t)[j]? with
          | none => rw [e] at hu'; cases hu'
          | some q => rw [e] at hu'; exact ⟨q, rfl, by simpa using hu'⟩
        have hqm := List.mem_of_getElem? hq
        obtain ⟨okq, nq, hgo, hlast⟩ := all_go 10 t hok q hqm
        obtain ⟨_, hqz, hql⟩ := all_ok 10 t hok.ok q hqm
        obtain ⟨hqf, hqi⟩ := lf_all 10 t hok.ok hlf q hqm
        have hql' : (intP q.1).length ≤ 10 := by unfold intP; rw [List.length_map]; omega
        have hps : ∀ z ∈ intP q.1, shZ z := path_sh fun j hj => by have := hqi j hj; omega
        have soq : ShowOk (intP q.1) := show_ok hps (by omega)
        obtain ⟨w0, ts, eq2, _, _, _, _⟩ := okq
        have htz : ts.length ≤ 900 := by
          have h1 : Th.sz (.tup (.at (.str w0) :: ts)) = 1 + (1 + szs ts) := by simp only [Th.sz, szs]
          have h2 := szs_len ts
          rw [eq2] at hqz
          omega
        obtain ⟨ay, vy, rfl, hay, hvy⟩ := th_tup h5
        cases hvy with
        | @cons v1 _ _ _ c1 c2 =>
          cases c2 with
          | @cons v2 _ _ _ c3 c4 =>
            cases c4
            rw [path_zs] at c1
            obtain ⟨ap, pvs, rfl, hap, hpv⟩ := th_tup c1
            rw [eq2] at c3
            refine ⟨ay, _, rfl, SqT.of hay, rfl, _, _, rfl, _, _, rfl, rfl, ?_⟩
            refine ⟨fun σ' H' => ∃ (oa : Addr) (u : Th) (n' : Nat), σ' = [some (.ref a), some (.ref d), some (.ref wd), some v, some (.ref ol), some (.ref p), some (.int (0 + i)), some (.ref ap), some v2, some (.ref oa), o10, o11, o12] ∧ IsTh H' (.ref oa) u ∧ OkT 10 u ∧ lf u = true ∧ Th.sz u ≤ 900 ∧ IsTh H' v t ∧ H' ol = some (.lst ys) ∧ IsThs H' ys ((allp t2).map (·.2)) ∧ H' p = some (.lst ws) ∧ IsThs H' ws (pws (allp t)) ∧ IsTh H' (.ref ap) (.tup (zsT (intP q.1))) ∧ IsTh H' v2 (.tup (.at (.str w0) :: ts)) ∧ n' ≤ n6 + 2 ∧ Feed H' d l ns n', ?_, ?_⟩
            · refine ⟨_, rfl, _, rfl, d, l, ol, ns, n7, ys, rfl, F7, by omega, hol7, by omega, by omega, fun y n8 H8 hy hn8 F8 b8 => ?_⟩
              have k8 := b8.kp F7
              obtain ⟨j2, hj2⟩ := List.getElem?_of_mem hy
              obtain ⟨u, hu2, h6⟩ := ths_get _ hys7 hj2
              rw [List.getElem?_map] at hu2
              obtain ⟨q2, hq2, rfl⟩ : ∃ q2, (allp t2)[j2]? = some q2 ∧ q2.2 = u := by
                cases e : (allp t2)[j2]? with
                | none => rw [e] at hu2; cases hu2
                | some q2 => rw [e] at hu2; exact ⟨q2, rfl, by simpa using hu2⟩
              have hqm2 := List.mem_of_getElem? hq2
              obtain ⟨hqo2, hqz2, _⟩ := all_ok 10 t2 hok2.ok q2 hqm2
              have hqf2 := (lf_all 10 t2 hok2.ok hlf2 q2 hqm2).1
              obtain ⟨oa, rfl⟩ := th_ref h6 (ok_isTup hqo2)
              exact ⟨oa, q2.2, n8, rfl, IsTh.kp k8 h6, hqo2, hqf2, by omega, IsTh.kp k8 hv7, F7.lst b8 hol7, IsThs.kp k8 hys7, F7.lst b8 hp7, IsThs.kp k8 hws7, IsTh.kp k8 c1, IsTh.kp k8 c3, by omega, F8⟩
            clear F7 hv7 hol7 hys7 hp7 hws7 c1 c3 hap hpv h5 hay hx hj b7 k7 F6 hv6 hol6 hys6 hp6 hws6
            rintro σ8 H8 ⟨oa, u, n8, rfl, hou, hoku, hlu, hzu, hv8, hol8, hys8, hp8, hws8, hpa8, hh8, hn8, F8⟩
            have hput := put_ok (intP q.1) 10 10 t nq u hok.ok hoku hgo
            have hputl := put_lf (intP q.1) t nq u hgo hlf hlu
            have hputz := put_sz (intP q.1) t nq u hgo
            have hputd := ok_dp _ hput
            have hputi := ok_isTup hput
            have rF := rep_ok hputl (by omega) (by omega) hu
            have hdu := ok_dp _ hoku
            have rU := rep_ok hlu (by omega) (by omega) hu
            refine ⟨fun σ' H' => ∃ (fa : Addr), σ' = [some (.ref a), some (.ref d), some (.ref wd), some v, some (.ref ol), some (.ref p), some (.int (0 + i)), some (.ref ap), some v2, some (.ref oa), some (.ref fa), o11, o12] ∧ Same H8 H' ∧ IsTh H' (.ref fa) (putT nq (intP q.1) u), ?_, ?_⟩
            · refine ⟨_, rfl, _, rfl, _, rfl, v, ap, .ref oa, t, u, intP q.1, rfl, hv8, hok.ok, by omega, hpa8, by omega, soq, hou, fun nq' e' v9 H9 s9 hv9 => ?_, fun e' => by rw [hgo] at e'; cases e'⟩
              rw [hgo] at e'
              cases e'
              obtain ⟨fa, rfl⟩ := th_ref hv9 hputi
              exact ⟨fa, rfl, s9, hv9⟩
            rintro σ9 H9 ⟨fa, rfl, s9, hfa⟩
            refine ⟨fun σ' H' => σ' = [some (.ref a), some (.ref d), some (.ref wd), some v, some (.ref ol), some (.ref p), some (.int (0 + i)), some (.ref ap), some v2, some (.ref oa), some (.ref fa), o11, o12] ∧ Same H8 H', ?_, ?_⟩
            · refine ⟨_, rfl, fa, _, rfl, hfa, rF, ?_⟩
              refine ⟨_, rfl, _, rfl, _, rfl, v, ap, .ref oa, t, u, intP q.1, nq, rfl, IsTh.kp (Kp.of s9) hv8, hok.ok, by omega, hlf, IsTh.kp (Kp.of s9) hpa8, by omega, hgo, IsTh.kp (Kp.of s9) hou, hlu, fun v10 H10 s10 hv10 => ?_⟩
              obtain ⟨sa, rfl⟩ := th_ref hv10 hputi
              refine ⟨sa, _, rfl, hv10, rF, rfl, _, rfl, ?_⟩
              refine ite2 (fun g => absurd g hno) (fun _ => ?_)
              have s910 := s9.trans s10
              obtain ⟨ms, hgm, hlm⟩ := put_go (intP q.1) t nq u hgo (ok_isTup hoku)
              refine ⟨_, rfl, _, rfl, .ref fa, ap, _, intP q.1, rfl, IsTh.kp (Kp.of s10) hfa, hput, by omega, IsTh.kp (Kp.of s910) hpa8, by omega, soq, fun ms' u' e' e'' v11 H11 s11 hv11 => ?_, fun e' => by rw [hgm] at e'; cases e'⟩
              rw [hgm] at e'
              cases e'
              rw [hlm] at e''
              cases e''
              obtain ⟨pa, rfl⟩ := th_ref hv11 (ok_isTup hoku)
              have s8B := s910.trans s11
              refine ⟨pa, _, rfl, hv11, rU, ?_⟩
              refine ⟨_, rfl, oa, _, rfl, IsTh.kp (Kp.of s8B) hou, rU, rfl, _, rfl, ?_⟩
              refine ite2 (fun g => absurd g hno) (fun _ => ?_)
              exact ⟨rfl, s8B⟩
            clear s9 hfa
            rintro σ10 H10 ⟨rfl, s10⟩
            have hv10 := IsTh.kp (Kp.of s10) hv8
            refine ⟨fun σ' H' => ∃ (wa : Addr) (zs' : List Int) (n' : Nat), σ' = [some (.ref a), some (.ref d), some (.ref wd), some v, some (.ref ol), some (.ref p), some (.int (0 + i)), some (.ref ap), some v2, some (.ref oa), some (.ref fa), some (.ref wa), o12] ∧ IsTh H' (.ref wa) (.tup (zsT zs')) ∧ goT t zs' = none ∧ zs'.length ≤ 1000 ∧ ShowOk zs' ∧ IsTh H' (.ref oa) u ∧ IsTh H' v t ∧ H' ol = some (.lst ys) ∧ IsThs H' ys ((allp t2).map (·.2)) ∧ H' p = some (.lst ws) ∧ IsThs H' ws (pws (allp t)) ∧ n' ≤ n6 + 6 ∧ Feed H' d l ns n', ?_, ?_⟩
            · refine ⟨_, rfl, _, rfl, _, rfl, _, rfl, d, l, v, ap, v2, ns, n8, intP q.1, w0, ts, rfl, F8.same s10, by omega, IsTh.kp (Kp.of s10) hh8, htz, IsTh.kp (Kp.of s10) hpa8, by omega, fun wa z zr n11 H11 hnk hsh hzr hn11 F11 b11 hwa => ?_⟩
              have k11 := b11.kp (F8.same s10)
              have hgn : goT t (intP q.1 ++ (z :: zr)) = none := by
                have e : intP q.1 ++ (z :: zr) = (intP q.1 ++ [z]) ++ zr := by simp
                rw [e]
                refine go_none _ _ _ (go_wrong _ _ nq _ z hgo hlast ?_)
                rw [eq2]
                exact hnk
              have hwz : (intP q.1 ++ (z :: zr)).length ≤ 1000 := by rw [List.length_append, List.length_cons]; omega
              have sow : ShowOk (intP q.1 ++ (z :: zr)) := show_ok (fun y hy => by
                rcases List.mem_append.mp hy with h | h
                · exact hps y h
                · exact hsh y h) hwz
              exact ⟨wa, _, n11, rfl, hwa, hgn, hwz, sow, IsTh.kp k11 (IsTh.kp (Kp.of s10) hou), IsTh.kp k11 hv10, (F8.same s10).lst b11 (s10 _ _ hol8), IsThs.kp k11 (IsThs.kp (Kp.of s10) hys8), (F8.same s10).lst b11 (s10 _ _ hp8), IsThs.kp k11 (IsThs.kp (Kp.of s10) hws8), by omega, F11⟩
            clear hv10 F8 hv8 hol8 hys8 hp8 hws8 hpa8 hh8 hou s10
            rintro σ11 H11 ⟨wa, zs', n11, rfl, hwa, hgn, hwz, sow, hou, hv11, hol11, hys11, hp11, hws11, hn11, F11⟩
            have rW := show_rep sow hu
            refine ⟨_, rfl, (by show 2 ≤ sizeLine; decide), fun tp htp => ?_⟩
            have st := same_upd (o := .tup [.non, .ref oa]) htp
            have TP : upd H11 tp (.tup [.non, .ref oa]) tp = some (.tup [.non, .ref oa]) := upd_same
            generalize upd H11 tp (.tup [.non, .ref oa]) = H12 at st TP
            refine ⟨tp, rfl, ⟨_, SqT.of TP⟩, for_tup (K := K) (a := tp) (xs := [.non, .ref oa]) (fun m σ H' => ∃ (o12 : Option V), σ = [some (.ref a), some (.ref d), some (.ref wd), some v, some (.ref ol), some (.ref p), some (.int (0 + i)), some (.ref ap), some v2, some (.ref oa), some (.ref fa), some (.ref wa), o12] ∧ Same H12 H')
              ⟨o12, rfl, Same.refl _⟩ (fun m σ H' _ ⟨_, _, e⟩ => SqT.of (e _ _ TP)) ?_ ?_⟩
            · rintro m x σ H13 hx ⟨o12', rfl, s13⟩
              have sB := st.trans s13
              have hwa13 := IsTh.kp (Kp.of sB) hwa
              have hx2 : x = .non ∨ ∃ a u, x = .ref a ∧ IsTh H13 x u := by
                have hm := List.mem_of_getElem? hx
                simp only [List.mem_cons, List.not_mem_nil, or_false] at hm
                rcases hm with rfl | rfl
                · exact .inl rfl
                · exact .inr ⟨oa, u, rfl, IsTh.kp (Kp.of sB) hou⟩
              refine ⟨_, rfl, _, rfl, _, rfl, v, wa, x, t, zs', rfl, IsTh.kp (Kp.of sB) hv11, hok.ok, by omega, hwa13, hwz, sow, hx2, hgn, fun H14 s14 => ?_⟩
              have hwa14 := IsTh.kp (Kp.of s14) hwa13
              refine ⟨wa, _, rfl, hwa14, rW, _, rfl, wa, _, rfl, hwa14, rW, rfl, _, rfl, ?_⟩
              refine ite2 (fun g => absurd g hno) (fun _ => ?_)
              exact ⟨_, rfl, s13.trans s14⟩
            · rintro σ H13 ⟨o12', rfl, s13⟩
              have sB := st.trans s13
              exact ⟨n11, _, _, _, _, _, _, _, rfl, IsTh.kp (Kp.of sB) hv11, sB _ _ hol11, IsThs.kp (Kp.of sB) hys11, sB _ _ hp11, IsThs.kp (Kp.of sB) hws11, by omega, F11.same sB⟩
      · rintro σ H7 ⟨n6, o6, o7, o8, o9, o10, o11, o12, rfl, _⟩
        exact k H7
end
end K04

set_option Elab.async false
set_option linter.all false
set_option maxRecDepth 100000
set_option maxHeartbeats 4000000
namespace K04
open PySem L2
theorem us_len0 {P : List Value → Prop} (h : P []) : ∀ us : List Value, us.length = 0 → P us
  | [], _ => h
theorem us_len1 {P : List Value → Prop} (h : ∀ a, P [a]) : ∀ us : List Value, us.length = 1 → P us
  | [a], _ => h a
theorem us_len2 {P : List Value → Prop} (h : ∀ a b, P [a, b]) : ∀ us : List Value, us.length = 2 → P us
  | [a, b], _ => h a b
theorem us_len3 {P : List Value → Prop} (h : ∀ a b c, P [a, b, c]) : ∀ us : List Value, us.length = 3 → P us
  | [a, b, c], _ => h a b c
theorem us_len4 {P : List Value → Prop} (h : ∀ a b c d, P [a, b, c, d]) : ∀ us : List Value, us.length = 4 → P us
  | [a, b, c, d], _ => h a b c d
theorem kits_of {K : PySem.W.Frag} (kt_NoneType_int : PySem.W.kitOne K (.type "NoneType") (.type "int") = some false) (kt_bool_int : PySem.W.kitOne K (.type "bool") (.type "int") = some true) (kt_int_int : PySem.W.kitOne K (.type "int") (.type "int") = some true) (kt_str_int : PySem.W.kitOne K (.type "str") (.type "int") = some false) (kt_tuple_int : PySem.W.kitOne K (.type "tuple") (.type "int") = some false) (kt_list_int : PySem.W.kitOne K (.type "list") (.type "int") = some false) (kt_NoneType_bool : PySem.W.kitOne K (.type "NoneType") (.type "bool") = some false) (kt_bool_bool : PySem.W.kitOne K (.type "bool") (.type "bool") = some true) (kt_int_bool : PySem.W.kitOne K (.type "int") (.type "bool") = some false) (kt_str_bool : PySem.W.kitOne K (.type "str") (.type "bool") = some false) (kt_tuple_bool : PySem.W.kitOne K (.type "tuple") (.type "bool") = some false) (kt_list_bool : PySem.W.kitOne K (.type "list") (.type "bool") = some false) (kt_NoneType_tuple : PySem.W.kitOne K (.type "NoneType") (.type "tuple") = some false) (kt_bool_tuple : PySem.W.kitOne K (.type "bool") (.type "tuple") = some false) (kt_int_tuple : PySem.W.kitOne K (.type "int") (.type "tuple") = some false) (kt_str_tuple : PySem.W.kitOne K (.type "str") (.type "tuple") = some false) (kt_tuple_tuple : PySem.W.kitOne K (.type "tuple") (.type "tuple") = some true) (kt_list_tuple : PySem.W.kitOne K (.type "list") (.type "tuple") = some false) : Kits K := by
  refine ⟨?i, ?b, ?t⟩
  case i =>
    intro H v t h
    cases h with
    | «at» f =>
      cases v with
      | non => exact kt_NoneType_int
      | bl b => exact kt_bool_int
      | int i => exact kt_int_int
      | str x => exact kt_str_int
      | _ => exact absurd (show false = true from f) Bool.false_ne_true
    | tup e r => exact kt_tuple_int
    | lst e r => exact kt_list_int
  case b =>
    intro H v t h
    cases h with
    | «at» f =>
      cases v with
      | non => exact kt_NoneType_bool
      | bl b => exact kt_bool_bool
      | int i => exact kt_int_bool
      | str x => exact kt_str_bool
      | _ => exact absurd (show false = true from f) Bool.false_ne_true
    | tup e r => exact kt_tuple_bool
    | lst e r => exact kt_list_bool
  case t =>
    intro H v t h
    cases h with
    | «at» f =>
      cases v with
      | non => exact kt_NoneType_tuple
      | bl b => exact kt_bool_tuple
      | int i => exact kt_int_tuple
      | str x => exact kt_str_tuple
      | _ => exact absurd (show false = true from f) Bool.false_ne_true
    | tup e r => exact kt_tuple_tuple
    | lst e r => exact kt_list_tuple
theorem exC_mk {K : PySem.W.Frag} {C fI B N : Addr} {nm q : Str} {bs : List Value} {sn : List Str} {sub : List Value} {ab : Bool} {col : Option Bool} {dd : Option Addr} {k0 k1 k2 k3 k5 : Option Value}
    (lk : K.lookup C = some (excClassObj nm q C N bs [.ref B, .type "ValueError", .type "Exception", .type "BaseException", .type "object"] true sn sub ab col dd k0 k1 k2 k3 k5 "ValueError.__new__"))
    (ini : PySem.W.findIn K (.ref C) "__init__" = some (some (.ref fI))) (fn : PySem.W.typeIn K (.ref fI) = some (.type "function")) (sa : PySem.W.findIn K (.ref C) "__setattr__" = some (some (.builtin "object.__setattr__")))
    (ga : PySem.W.findIn K (.ref C) "__getattribute__" = some (some (.builtin "BaseException.__getattribute__"))) (gn : PySem.W.findIn K (.ref C) "__getattr__" = some none) (hd : PySem.W.hasDictIn K C = true) (kp : PySem.W.keepIn K (.ref C) = true) : ExC K C fI := by
  refine ⟨⟨nm, q, N, bs, _, sn, sub, ab, col, dd, k0, k1, k2, k3, k5, lk, rfl, rfl, rfl, rfl, fun self => ?_, rfl⟩, ini, fn, sa, ga, gn, hd, kp⟩
  rw [refuseLoop_ref, refuseLoop_ref]
  exact F.store_ValueError.passes self
theorem funD_mk {K : PySem.W.Frag} {x qual : Str} {st : Stmt} {dV : Value} {f : Addr} {oc : Value} {od an : Option Addr} {osl : Array (Option Value)} {kV doc pm cdv ct : Value} (l : K.lookup f = some ⟨oc, od, .func (PySem.W.fnOf x qual (defArgs st) (defBody st) (defScope st) dV kV doc pm an cdv ct), osl⟩)
    (c : PySem.W.codeIn K cdv qual = true) (k : PySem.W.keepIn K (.ref f) = true) : FunD K x qual st dV f (PySem.W.fnOf x qual (defArgs st) (defBody st) (defScope st) dV kV doc pm an cdv ct) := ⟨⟨oc, od, kV, doc, pm, an, cdv, ct, osl, rfl, l, c⟩, k⟩
theorem _root_.L2.FunD.binds {K : PySem.W.Frag} {x qual : Str} {st : Stmt} {dV : Value} {f : Addr} {fd : FuncData} {ps : List Str} (F : FunD K x qual st dV f fd)
    (h : ∀ (kV doc pm : Value) (an : Option Addr) (cdv ct : Value) (us : List Value), us.length = ps.length → bindArgs (PySem.W.fnOf x qual (defArgs st) (defBody st) (defScope st) dV kV doc pm an cdv ct) ⟨us, []⟩ = pure (ps.zip us)) : Binds K fd ps [] := by
  obtain ⟨oc, od, kV, doc, pm, an, cdv, ct, osl, rfl, lk, hcd⟩ := F.ex
  exact .all (h kV doc pm an cdv ct)
theorem _root_.L2.FunD.bindsD {K : PySem.W.Frag} {x qual : Str} {st : Stmt} {T : Addr} {f : Addr} {fd : FuncData} {ps : List Str} {oc : Value} {od : Option Addr} {items : Array Value} {n : Nat} {sl : Array (Option Value)} (F : FunD K x qual st (.ref T) f fd) (hT : K.lookup T = some ⟨oc, od, .seq items n, sl⟩)
    (h : ∀ (kV doc pm : Value) (an : Option Addr) (cdv ct : Value) (us : List Value), us.length = ps.length → ∃ k : Option (Array Value) → Sem (List (Str × Value)), bindArgs (PySem.W.fnOf x qual (defArgs st) (defBody st) (defScope st) (.ref T) kV doc pm an cdv ct) ⟨us, []⟩ = (seqItems? (.ref T) >>= k) ∧ k (some items) = pure (ps.zip us)) : Binds K fd ps [] := by
  obtain ⟨oc', od', kV, doc, pm, an, cdv, ct, osl, rfl, lk, hcd⟩ := F.ex
  intro s us hK hl
  rw [List.append_nil] at hl ⊢
  obtain ⟨k, h1, h2⟩ := h kV doc pm an cdv ct us hl
  exact BindsTo.of_defaults rfl (hK _ _ hT) rfl h1 h2
theorem all_mk {l : PySem.W.OpenLaw} {w : World} {K : PySem.W.Frag} {h : Heap} {mg : Str → Option Value} {fa f0 f1 f2 f3 f4 f5 f6 f7 f8 f9 f10 f11 f12 f13 f14 f15 f16 f17 f18 f19 f20 f21 f22 f23 cC cI cB cL cT co1 co2 co3 co4 co5 co6 co7 co8 co9 co10 : Addr} (X : K.In h) (G : h.Ns mainGlobals mg) (hfa : mg "law" = some (.ref fa))
    {od0 an0 od1 an1 od2 an2 od3 an3 od4 an4 od5 an5 od6 an6 od7 an7 od8 an8 od9 an9 od10 an10 od11 an11 od12 an12 od13 an13 od14 an14 od15 an15 od16 an16 od17 an17 od18 an18 od19 an19 od20 an20 od21 an21 od22 an22 od23 an23 : Option Addr} {sl0 sl1 sl2 sl3 sl4 sl5 sl6 sl7 sl8 sl9 sl10 sl11 sl12 sl13 sl14 sl15 sl16 sl17 sl18 sl19 sl20 sl21 sl22 sl23 : Array (Option Value)} {oc0 kV0 dc0 pm0 cd0 ct0 oc1 kV1 dc1 pm1 cd1 ct1 oc2 kV2 dc2 pm2 cd2 ct2 oc3 kV3 dc3 pm3 cd3 ct3 oc4 kV4 dc4 pm4 cd4 ct4 oc5 kV5 dc5 pm5 cd5 ct5 oc6 kV6 dc6 pm6 cd6 ct6 oc7 kV7 dc7 pm7 cd7 ct7 oc8 kV8 dc8 pm8 cd8 ct8 oc9 kV9 dc9 pm9 cd9 ct9 oc10 kV10 dc10 pm10 cd10 ct10 oc11 kV11 dc11 pm11 cd11 ct11 oc12 kV12 dc12 pm12 cd12 ct12 oc13 kV13 dc13 pm13 cd13 ct13 oc14 kV14 dc14 pm14 cd14 ct14 oc15 kV15 dc15 pm15 cd15 ct15 oc16 kV16 dc16 pm16 cd16 ct16 oc17 kV17 dc17 pm17 cd17 ct17 oc18 kV18 dc18 pm18 cd18 ct18 oc19 kV19 dc19 pm19 cd19 ct19 oc20 kV20 dc20 pm20 cd20 ct20 oc21 kV21 dc21 pm21 cd21 ct21 oc22 kV22 dc22 pm22 cd22 ct22 oc23 kV23 dc23 pm23 cd23 ct23 : Value} {ocI kVI dcI pmI cdI ctI : Value} {odI anI : Option Addr} {slI : Array (Option Value)} {ocL kVL dcL pmL cdL ctL : Value} {odL anL : Option Addr} {slL : Array (Option Value)} {ocT dW : Value} {odT : Option Addr} {nT : Nat} {slT : Array (Option Value)} {nmC qC : Str} {NC : Addr} {bsC : List Value} {snC : List Str} {subC : List Value} {abC : Bool} {colC : Option Bool} {ddC : Option Addr} {k0C k1C k2C k3C k5C : Option Value} {nmB qB : Str} {NB : Addr} {bsB : List Value} {snB : List Str} {subB : List Value} {abB : Bool} {colB : Option Bool} {ddB : Option Addr} {k0B k1B k2B k3B k5B : Option Value} {hdB : Bool} {nidB : String}
    (a0 : PySem.W.nsIn K mainGlobals "is_whole" = some (some (.ref f0))) (l0 : K.lookup f0 = some ⟨oc0, od0, .func (PySem.W.fnOf "is_whole" "is_whole" (defArgs sWhole) (defBody sWhole) (defScope sWhole) .none kV0 dc0 pm0 an0 cd0 ct0), sl0⟩) (c0 : PySem.W.codeIn K cd0 "is_whole" = true) (k0 : PySem.W.keepIn K (.ref f0) = true)
    (a1 : PySem.W.nsIn K mainGlobals "head" = some (some (.ref f1))) (l1 : K.lookup f1 = some ⟨oc1, od1, .func (PySem.W.fnOf "head" "head" (defArgs sHead) (defBody sHead) (defScope sHead) .none kV1 dc1 pm1 an1 cd1 ct1), sl1⟩) (c1 : PySem.W.codeIn K cd1 "head" = true) (k1 : PySem.W.keepIn K (.ref f1) = true)
    (a2 : PySem.W.nsIn K mainGlobals "parts" = some (some (.ref f2))) (l2 : K.lookup f2 = some ⟨oc2, od2, .func (PySem.W.fnOf "parts" "parts" (defArgs sParts) (defBody sParts) (defScope sParts) .none kV2 dc2 pm2 an2 cd2 ct2), sl2⟩) (c2 : PySem.W.codeIn K cd2 "parts" = true) (k2 : PySem.W.keepIn K (.ref f2) = true)
    (a3 : PySem.W.nsIn K mainGlobals "way" = some (some (.ref f3))) (l3 : K.lookup f3 = some ⟨oc3, od3, .func (PySem.W.fnOf "way" "way" (defArgs sWay) (defBody sWay) (defScope sWay) .none kV3 dc3 pm3 an3 cd3 ct3), sl3⟩) (c3 : PySem.W.codeIn K cd3 "way" = true) (k3 : PySem.W.keepIn K (.ref f3) = true)
    (a4 : PySem.W.nsIn K mainGlobals "piece" = some (some (.ref f4))) (l4 : K.lookup f4 = some ⟨oc4, od4, .func (PySem.W.fnOf "piece" "piece" (defArgs sPiece) (defBody sPiece) (defScope sPiece) .none kV4 dc4 pm4 an4 cd4 ct4), sl4⟩) (c4 : PySem.W.codeIn K cd4 "piece" = true) (k4 : PySem.W.keepIn K (.ref f4) = true)
    (a5 : PySem.W.nsIn K mainGlobals "with_piece" = some (some (.ref f5))) (l5 : K.lookup f5 = some ⟨oc5, od5, .func (PySem.W.fnOf "with_piece" "with_piece" (defArgs sWithPiece) (defBody sWithPiece) (defScope sWithPiece) .none kV5 dc5 pm5 an5 cd5 ct5), sl5⟩) (c5 : PySem.W.codeIn K cd5 "with_piece" = true) (k5 : PySem.W.keepIn K (.ref f5) = true)
    (a6 : PySem.W.nsIn K mainGlobals "_law_feed" = some (some (.ref f6))) (l6 : K.lookup f6 = some ⟨oc6, od6, .func (PySem.W.fnOf "_law_feed" "_law_feed" (defArgs sFeed) (defBody sFeed) (defScope sFeed) .none kV6 dc6 pm6 an6 cd6 ct6), sl6⟩) (c6 : PySem.W.codeIn K cd6 "_law_feed" = true) (k6 : PySem.W.keepIn K (.ref f6) = true)
    (a7 : PySem.W.nsIn K mainGlobals "_law_draw" = some (some (.ref f7))) (l7 : K.lookup f7 = some ⟨oc7, od7, .func (PySem.W.fnOf "_law_draw" "_law_draw" (defArgs sDraw) (defBody sDraw) (defScope sDraw) .none kV7 dc7 pm7 an7 cd7 ct7), sl7⟩) (c7 : PySem.W.codeIn K cd7 "_law_draw" = true) (k7 : PySem.W.keepIn K (.ref f7) = true)
    (a8 : PySem.W.nsIn K mainGlobals "_law_one" = some (some (.ref f8))) (l8 : K.lookup f8 = some ⟨oc8, od8, .func (PySem.W.fnOf "_law_one" "_law_one" (defArgs sOne) (defBody sOne) (defScope sOne) .none kV8 dc8 pm8 an8 cd8 ct8), sl8⟩) (c8 : PySem.W.codeIn K cd8 "_law_one" = true) (k8 : PySem.W.keepIn K (.ref f8) = true)
    (a9 : PySem.W.nsIn K mainGlobals "_law_value" = some (some (.ref f9))) (l9 : K.lookup f9 = some ⟨oc9, od9, .func (PySem.W.fnOf "_law_value" "_law_value" (defArgs sLawValue) (defBody sLawValue) (defScope sLawValue) .none kV9 dc9 pm9 an9 cd9 ct9), sl9⟩) (c9 : PySem.W.codeIn K cd9 "_law_value" = true) (k9 : PySem.W.keepIn K (.ref f9) = true)
    (a10 : PySem.W.nsIn K mainGlobals "_law_spelled" = some (some (.ref f10))) (l10 : K.lookup f10 = some ⟨oc10, od10, .func (PySem.W.fnOf "_law_spelled" "_law_spelled" (defArgs sSpelled) (defBody sSpelled) (defScope sSpelled) .none kV10 dc10 pm10 an10 cd10 ct10), sl10⟩) (c10 : PySem.W.codeIn K cd10 "_law_spelled" = true) (k10 : PySem.W.keepIn K (.ref f10) = true)
    (a11 : PySem.W.nsIn K mainGlobals "_law_words" = some (some (.ref f11))) (l11 : K.lookup f11 = some ⟨oc11, od11, .func (PySem.W.fnOf "_law_words" "_law_words" (defArgs sWords) (defBody sWords) (defScope sWords) .none kV11 dc11 pm11 an11 cd11 ct11), sl11⟩) (c11 : PySem.W.codeIn K cd11 "_law_words" = true) (k11 : PySem.W.keepIn K (.ref f11) = true)
    (a12 : PySem.W.nsIn K mainGlobals "_law_name" = some (some (.ref f12))) (l12 : K.lookup f12 = some ⟨oc12, od12, .func (PySem.W.fnOf "_law_name" "_law_name" (defArgs sLawName) (defBody sLawName) (defScope sLawName) .none kV12 dc12 pm12 an12 cd12 ct12), sl12⟩) (c12 : PySem.W.codeIn K cd12 "_law_name" = true) (k12 : PySem.W.keepIn K (.ref f12) = true)
    (a13 : PySem.W.nsIn K mainGlobals "_law_names" = some (some (.ref f13))) (l13 : K.lookup f13 = some ⟨oc13, od13, .func (PySem.W.fnOf "_law_names" "_law_names" (defArgs sNames) (defBody sNames) (defScope sNames) .none kV13 dc13 pm13 an13 cd13 ct13), sl13⟩) (c13 : PySem.W.codeIn K cd13 "_law_names" = true) (k13 : PySem.W.keepIn K (.ref f13) = true)
    (a14 : PySem.W.nsIn K mainGlobals "_law_parts" = some (some (.ref f14))) (l14 : K.lookup f14 = some ⟨oc14, od14, .func (PySem.W.fnOf "_law_parts" "_law_parts" (defArgs sLawParts) (defBody sLawParts) (defScope sLawParts) .none kV14 dc14 pm14 an14 cd14 ct14), sl14⟩) (c14 : PySem.W.codeIn K cd14 "_law_parts" = true) (k14 : PySem.W.keepIn K (.ref f14) = true)
    (a15 : PySem.W.nsIn K mainGlobals "_law_with" = some (some (.ref f15))) (l15 : K.lookup f15 = some ⟨oc15, od15, .func (PySem.W.fnOf "_law_with" "_law_with" (defArgs sLawWith) (defBody sLawWith) (defScope sLawWith) .none kV15 dc15 pm15 an15 cd15 ct15), sl15⟩) (c15 : PySem.W.codeIn K cd15 "_law_with" = true) (k15 : PySem.W.keepIn K (.ref f15) = true)
    (a16 : PySem.W.nsIn K mainGlobals "_law_leaf" = some (some (.ref f16))) (l16 : K.lookup f16 = some ⟨oc16, od16, .func (PySem.W.fnOf "_law_leaf" "_law_leaf" (defArgs sLeaf) (defBody sLeaf) (defScope sLeaf) .none kV16 dc16 pm16 an16 cd16 ct16), sl16⟩) (c16 : PySem.W.codeIn K cd16 "_law_leaf" = true) (k16 : PySem.W.keepIn K (.ref f16) = true)
    (a17 : PySem.W.nsIn K mainGlobals "_law_expr" = some (some (.ref f17))) (l17 : K.lookup f17 = some ⟨oc17, od17, .func (PySem.W.fnOf "_law_expr" "_law_expr" (defArgs sExpr) (defBody sExpr) (defScope sExpr) .none kV17 dc17 pm17 an17 cd17 ct17), sl17⟩) (c17 : PySem.W.codeIn K cd17 "_law_expr" = true) (k17 : PySem.W.keepIn K (.ref f17) = true)
    (a18 : PySem.W.nsIn K mainGlobals "_law_world" = some (some (.ref f18))) (l18 : K.lookup f18 = some ⟨oc18, od18, .func (PySem.W.fnOf "_law_world" "_law_world" (defArgs sWorld) (defBody sWorld) (defScope sWorld) .none kV18 dc18 pm18 an18 cd18 ct18), sl18⟩) (c18 : PySem.W.codeIn K cd18 "_law_world" = true) (k18 : PySem.W.keepIn K (.ref f18) = true)
    (a19 : PySem.W.nsIn K mainGlobals "_law_all_paths" = some (some (.ref f19))) (l19 : K.lookup f19 = some ⟨oc19, od19, .func (PySem.W.fnOf "_law_all_paths" "_law_all_paths" (defArgs sAllPaths) (defBody sAllPaths) (defScope sAllPaths) .none kV19 dc19 pm19 an19 cd19 ct19), sl19⟩) (c19 : PySem.W.codeIn K cd19 "_law_all_paths" = true) (k19 : PySem.W.keepIn K (.ref f19) = true)
    (a20 : PySem.W.nsIn K mainGlobals "_law_swapped" = some (some (.ref f20))) (l20 : K.lookup f20 = some ⟨oc20, od20, .func (PySem.W.fnOf "_law_swapped" "_law_swapped" (defArgs sSwapped) (defBody sSwapped) (defScope sSwapped) .none kV20 dc20 pm20 an20 cd20 ct20), sl20⟩) (c20 : PySem.W.codeIn K cd20 "_law_swapped" = true) (k20 : PySem.W.keepIn K (.ref f20) = true)
    (a21 : PySem.W.nsIn K mainGlobals "_law_refused" = some (some (.ref f21))) (l21 : K.lookup f21 = some ⟨oc21, od21, .func (PySem.W.fnOf "_law_refused" "_law_refused" (defArgs sRefused) (defBody sRefused) (defScope sRefused) .none kV21 dc21 pm21 an21 cd21 ct21), sl21⟩) (c21 : PySem.W.codeIn K cd21 "_law_refused" = true) (k21 : PySem.W.keepIn K (.ref f21) = true)
    (a22 : PySem.W.nsIn K mainGlobals "_law_nowhere" = some (some (.ref f22))) (l22 : K.lookup f22 = some ⟨oc22, od22, .func (PySem.W.fnOf "_law_nowhere" "_law_nowhere" (defArgs sNowhere) (defBody sNowhere) (defScope sNowhere) .none kV22 dc22 pm22 an22 cd22 ct22), sl22⟩) (c22 : PySem.W.codeIn K cd22 "_law_nowhere" = true) (k22 : PySem.W.keepIn K (.ref f22) = true)
    (a23 : PySem.W.nsIn K mainGlobals "law" = some (some (.ref f23))) (l23 : K.lookup f23 = some ⟨oc23, od23, .func (PySem.W.fnOf "law" "law" (defArgs sLaw) (defBody sLaw) (defScope sLaw) .none kV23 dc23 pm23 an23 cd23 ct23), sl23⟩) (c23 : PySem.W.codeIn K cd23 "law" = true) (k23 : PySem.W.keepIn K (.ref f23) = true)
    (q_isinstance : PySem.W.nsIn K mainGlobals "isinstance" = some none)
    (q_int : PySem.W.nsIn K mainGlobals "int" = some none)
    (q_bool : PySem.W.nsIn K mainGlobals "bool" = some none)
    (q_tuple : PySem.W.nsIn K mainGlobals "tuple" = some none)
    (q_len : PySem.W.nsIn K mainGlobals "len" = some none)
    (q_list : PySem.W.nsIn K mainGlobals "list" = some none)
    (q_range : PySem.W.nsIn K mainGlobals "range" = some none)
    (q_enumerate : PySem.W.nsIn K mainGlobals "enumerate" = some none)
    (q_repr : PySem.W.nsIn K mainGlobals "repr" = some none)
    (q_zip : PySem.W.nsIn K mainGlobals "zip" = some none)
    (q_reversed : PySem.W.nsIn K mainGlobals "reversed" = some none)
    (q_ValueError : PySem.W.nsIn K mainGlobals "ValueError" = some none)
    (xmC : PySem.W.nsIn K mainGlobals "NoPlace" = some (some (.ref cC)))
    (xiC : PySem.W.findIn K (.ref cC) "__init__" = some (some (.ref cI)))
    (xmB : PySem.W.nsIn K mainGlobals "LikeError" = some (some (.ref cB)))
    (xfB : PySem.W.findCls K (.ref cB) (.type "type") "__init__" = some (.val (.ref cL)))
    (xlI : K.lookup cI = some ⟨ocI, odI, .func (PySem.W.fnOf "__init__" "NoPlace.__init__" (defArgs sInitN) (defBody sInitN) (defScope sInitN) .none kVI dcI pmI anI cdI ctI), slI⟩)
    (xcI : PySem.W.codeIn K cdI "NoPlace.__init__" = true)
    (xkI : PySem.W.keepIn K (.ref cI) = true)
    (xlL : K.lookup cL = some ⟨ocL, odL, .func (PySem.W.fnOf "__init__" "LikeError.__init__" (defArgs sInitL) (defBody sInitL) (defScope sInitL) (.ref cT) kVL dcL pmL anL cdL ctL), slL⟩)
    (xcL : PySem.W.codeIn K cdL "LikeError.__init__" = true)
    (xkL : PySem.W.keepIn K (.ref cL) = true)
    (xlT : K.lookup cT = some ⟨ocT, odT, .seq #[dW] nT, slT⟩)
    (xfv : PySem.W.findCls K (.type "ValueError") (.type "type") "__init__" = some (.val (.builtin "ValueError.__init__")))
    (xga : PySem.W.specialIn K (.ref cB) "__getattribute__" = some (some (.builtin "type.__getattribute__")))
    (xrd : PySem.W.readsIn K cB (.type "type") = true)
    (xnp : PySem.W.findIn K (.ref cC) "place" = some none)
    (xlC : K.lookup cC = some (excClassObj nmC qC cC NC bsC [.ref cB, .type "ValueError", .type "Exception", .type "BaseException", .type "object"] true snC subC abC colC ddC k0C k1C k2C k3C k5C "ValueError.__new__"))
    (xlB : K.lookup cB = some (excClassObj nmB qB cB NB bsB [.type "ValueError", .type "Exception", .type "BaseException", .type "object"] hdB snB subB abB colB ddB k0B k1B k2B k3B k5B nidB))
    (xo1 : PySem.W.nsIn K mainGlobals "NoBare" = some (some (.ref co1)))
    (xo2 : PySem.W.nsIn K mainGlobals "NoExchange" = some (some (.ref co2)))
    (xo3 : PySem.W.nsIn K mainGlobals "NoFill" = some (some (.ref co3)))
    (xo4 : PySem.W.nsIn K mainGlobals "NoFunction" = some (some (.ref co4)))
    (xo5 : PySem.W.nsIn K mainGlobals "NoLine" = some (some (.ref co5)))
    (xo6 : PySem.W.nsIn K mainGlobals "NoPlaces" = some (some (.ref co6)))
    (xo7 : PySem.W.nsIn K mainGlobals "NoPut" = some (some (.ref co7)))
    (xo8 : PySem.W.nsIn K mainGlobals "NoRow" = some (some (.ref co8)))
    (xo9 : PySem.W.nsIn K mainGlobals "NoTable" = some (some (.ref co9)))
    (xo10 : PySem.W.nsIn K mainGlobals "NoText" = some (some (.ref co10)))
    (xca : PySem.W.findIn K (.ref cC) "__class__" = some (some (.builtin "object.__class__")))
    (xsp : PySem.W.specialIn K (.builtin "object.__class__") "__get__" = some (some (.builtin "getset_descriptor.__get__")))
    (xtk : PySem.W.takesIn K (.builtin "object.__class__") = some true)
    (xmr : PySem.W.mroIn K cC (.type "object") = some true)
    (xk1 : PySem.W.kitOne K (.ref cC) (.ref cC) = some true)
    (xk2 : PySem.W.kitOne K (.ref cC) (.type "ValueError") = some true)
    (xk3 : PySem.W.kitAny K (.ref cC) ([co1, co2, co3, co4, co5, co6, co7, co8, co9, co10].map Value.ref) = some false)
    (xfn : PySem.W.typeIn K (.ref cI) = some (.type "function"))
    (xsa : PySem.W.findIn K (.ref cC) "__setattr__" = some (some (.builtin "object.__setattr__")))
    (xgb : PySem.W.findIn K (.ref cC) "__getattribute__" = some (some (.builtin "BaseException.__getattribute__")))
    (xgn : PySem.W.findIn K (.ref cC) "__getattr__" = some none)
    (xhd : PySem.W.hasDictIn K cC = true)
    (xkC : PySem.W.keepIn K (.ref cC) = true)
    (kt_NoneType_int : PySem.W.kitOne K (.type "NoneType") (.type "int") = some false)
    (kt_bool_int : PySem.W.kitOne K (.type "bool") (.type "int") = some true)
    (kt_int_int : PySem.W.kitOne K (.type "int") (.type "int") = some true)
    (kt_str_int : PySem.W.kitOne K (.type "str") (.type "int") = some false)
    (kt_tuple_int : PySem.W.kitOne K (.type "tuple") (.type "int") = some false)
    (kt_list_int : PySem.W.kitOne K (.type "list") (.type "int") = some false)
    (kt_NoneType_bool : PySem.W.kitOne K (.type "NoneType") (.type "bool") = some false)
    (kt_bool_bool : PySem.W.kitOne K (.type "bool") (.type "bool") = some true)
    (kt_int_bool : PySem.W.kitOne K (.type "int") (.type "bool") = some false)
    (kt_str_bool : PySem.W.kitOne K (.type "str") (.type "bool") = some false)
    (kt_tuple_bool : PySem.W.kitOne K (.type "tuple") (.type "bool") = some false)
    (kt_list_bool : PySem.W.kitOne K (.type "list") (.type "bool") = some false)
    (kt_NoneType_tuple : PySem.W.kitOne K (.type "NoneType") (.type "tuple") = some false)
    (kt_bool_tuple : PySem.W.kitOne K (.type "bool") (.type "tuple") = some false)
    (kt_int_tuple : PySem.W.kitOne K (.type "int") (.type "tuple") = some false)
    (kt_str_tuple : PySem.W.kitOne K (.type "str") (.type "tuple") = some false)
    (kt_tuple_tuple : PySem.W.kitOne K (.type "tuple") (.type "tuple") = some true)
    (kt_list_tuple : PySem.W.kitOne K (.type "list") (.type "tuple") = some false) :
    ∃ fd : FuncData, (∀ (s : Shared) (v : Value), BindsTo s fd ⟨[v], []⟩ [("_law_script", v)]) ∧ ∀ base : Heap, K.In base → base.Ns mainGlobals mg → FnOk l.prog w K mg base CX0 15 fa fd ["_law_script"] (spLaw K) := by
  have e := hfa.symm.trans (PySem.W.mg_of X G a23)
  cases e
  have F0 := fun_mk (st := sWhole) l0 c0 k0
  have b0 := F0.binds (ps := ["thing"]) fun _ _ _ _ _ _ => us_len1 fun _ => rfl
  have m0 := PySem.W.mg_of X G a0
  have F1 := fun_mk (st := sHead) l1 c1 k1
  have b1 := F1.binds (ps := ["node"]) fun _ _ _ _ _ _ => us_len1 fun _ => rfl
  have m1 := PySem.W.mg_of X G a1
  have F2 := fun_mk (st := sParts) l2 c2 k2
  have b2 := F2.binds (ps := ["e"]) fun _ _ _ _ _ _ => us_len1 fun _ => rfl
  have m2 := PySem.W.mg_of X G a2
  have F3 := fun_mk (st := sWay) l3 c3 k3
  have b3 := F3.binds (ps := ["e", "path"]) fun _ _ _ _ _ _ => us_len2 fun _ _ => rfl
  have m3 := PySem.W.mg_of X G a3
  have F4 := fun_mk (st := sPiece) l4 c4 k4
  have b4 := F4.binds (ps := ["e", "path"]) fun _ _ _ _ _ _ => us_len2 fun _ _ => rfl
  have m4 := PySem.W.mg_of X G a4
  have F5 := fun_mk (st := sWithPiece) l5 c5 k5
  have b5 := F5.binds (ps := ["e", "path", "other"]) fun _ _ _ _ _ _ => us_len3 fun _ _ _ => rfl
  have m5 := PySem.W.mg_of X G a5
  have F6 := fun_mk (st := sFeed) l6 c6 k6
  have b6 := F6.binds (ps := ["_law_script"]) fun _ _ _ _ _ _ => us_len1 fun _ => rfl
  have m6 := PySem.W.mg_of X G a6
  have F7 := fun_mk (st := sDraw) l7 c7 k7
  have b7 := F7.binds (ps := ["_law_feed_here", "_law_many"]) fun _ _ _ _ _ _ => us_len2 fun _ _ => rfl
  have m7 := PySem.W.mg_of X G a7
  have F8 := fun_mk (st := sOne) l8 c8 k8
  have b8 := F8.binds (ps := ["_law_feed_here", "_law_some"]) fun _ _ _ _ _ _ => us_len2 fun _ _ => rfl
  have m8 := PySem.W.mg_of X G a8
  have F9 := fun_mk (st := sLawValue) l9 c9 k9
  have b9 := F9.binds (ps := ["_law_feed_here"]) fun _ _ _ _ _ _ => us_len1 fun _ => rfl
  have m9 := PySem.W.mg_of X G a9
  have F10 := fun_mk (st := sSpelled) l10 c10 k10
  have b10 := F10.binds (ps := ["_law_number", "_law_long"]) fun _ _ _ _ _ _ => us_len2 fun _ _ => rfl
  have m10 := PySem.W.mg_of X G a10
  have F11 := fun_mk (st := sWords) l11 c11 k11
  have b11 := F11.binds (ps := []) fun _ _ _ _ _ _ => us_len0 rfl
  have m11 := PySem.W.mg_of X G a11
  have F12 := fun_mk (st := sLawName) l12 c12 k12
  have b12 := F12.binds (ps := ["_law_feed_here", "_law_taken"]) fun _ _ _ _ _ _ => us_len2 fun _ _ => rfl
  have m12 := PySem.W.mg_of X G a12
  have F13 := fun_mk (st := sNames) l13 c13 k13
  have b13 := F13.binds (ps := ["_law_feed_here", "_law_many"]) fun _ _ _ _ _ _ => us_len2 fun _ _ => rfl
  have m13 := PySem.W.mg_of X G a13
  have F14 := fun_mk (st := sLawParts) l14 c14 k14
  have b14 := F14.binds (ps := ["_law_e"]) fun _ _ _ _ _ _ => us_len1 fun _ => rfl
  have m14 := PySem.W.mg_of X G a14
  have F15 := fun_mk (st := sLawWith) l15 c15 k15
  have b15 := F15.binds (ps := ["_law_e", "_law_some"]) fun _ _ _ _ _ _ => us_len2 fun _ _ => rfl
  have m15 := PySem.W.mg_of X G a15
  have F16 := fun_mk (st := sLeaf) l16 c16 k16
  have b16 := F16.binds (ps := ["_law_feed_here", "_law_world_here", "_law_bound"]) fun _ _ _ _ _ _ => us_len3 fun _ _ _ => rfl
  have m16 := PySem.W.mg_of X G a16
  have F17 := fun_mk (st := sExpr) l17 c17 k17
  have b17 := F17.binds (ps := ["_law_feed_here", "_law_world_here", "_law_bound", "_law_depth"]) fun _ _ _ _ _ _ => us_len4 fun _ _ _ _ => rfl
  have m17 := PySem.W.mg_of X G a17
  have F18 := fun_mk (st := sWorld) l18 c18 k18
  have b18 := F18.binds (ps := ["_law_feed_here", "_law_room"]) fun _ _ _ _ _ _ => us_len2 fun _ _ => rfl
  have m18 := PySem.W.mg_of X G a18
  have F19 := fun_mk (st := sAllPaths) l19 c19 k19
  have b19 := F19.binds (ps := ["_law_e"]) fun _ _ _ _ _ _ => us_len1 fun _ => rfl
  have m19 := PySem.W.mg_of X G a19
  have F20 := fun_mk (st := sSwapped) l20 c20 k20
  have b20 := F20.binds (ps := ["_law_e", "_law_path", "_law_other"]) fun _ _ _ _ _ _ => us_len3 fun _ _ _ => rfl
  have m20 := PySem.W.mg_of X G a20
  have F21 := fun_mk (st := sRefused) l21 c21 k21
  have b21 := F21.binds (ps := ["_law_e", "_law_path", "_law_other"]) fun _ _ _ _ _ _ => us_len3 fun _ _ _ => rfl
  have m21 := PySem.W.mg_of X G a21
  have F22 := fun_mk (st := sNowhere) l22 c22 k22
  have b22 := F22.binds (ps := ["_law_feed_here", "_law_e", "_law_path", "_law_here"]) fun _ _ _ _ _ _ => us_len4 fun _ _ _ _ => rfl
  have m22 := PySem.W.mg_of X G a22
  have F23 := fun_mk (st := sLaw) l23 c23 k23
  have z_isinstance := PySem.W.mg_none_of X G q_isinstance
  have z_int := PySem.W.mg_none_of X G q_int
  have z_bool := PySem.W.mg_none_of X G q_bool
  have z_tuple := PySem.W.mg_none_of X G q_tuple
  have z_len := PySem.W.mg_none_of X G q_len
  have z_list := PySem.W.mg_none_of X G q_list
  have z_range := PySem.W.mg_none_of X G q_range
  have z_enumerate := PySem.W.mg_none_of X G q_enumerate
  have z_repr := PySem.W.mg_none_of X G q_repr
  have z_zip := PySem.W.mg_none_of X G q_zip
  have z_reversed := PySem.W.mg_none_of X G q_reversed
  have z_ValueError := PySem.W.mg_none_of X G q_ValueError
  have T0 : Txt0 mg := ⟨z_len, z_list, z_range⟩
  have T : TxtT mg := ⟨z_isinstance, z_int, z_bool, z_tuple, z_len⟩
  have KI : Kits K := kits_of kt_NoneType_int kt_bool_int kt_int_int kt_str_int kt_tuple_int kt_list_int kt_NoneType_bool kt_bool_bool kt_int_bool kt_str_bool kt_tuple_bool kt_list_bool kt_NoneType_tuple kt_bool_tuple kt_int_tuple kt_str_tuple kt_tuple_tuple kt_list_tuple
  have U : Dr K mg f7 f10 f8 f11 _ _ _ _ := ⟨T0, F7, b7, m7, F10, b10, m10, F8, b8, m8, F11, b11, m11⟩
  have xC : ExC K cC cI := exC_mk xlC xiC xfn xsa xgb xgn xhd xkC
  have FI := funD_mk (st := sInitN) xlI xcI xkI
  have FL := funD_mk (st := sInitL) xlL xcL xkL
  have bI := FI.binds (ps := ["self", "place"]) fun _ _ _ _ _ _ => us_len2 fun _ _ => rfl
  have bL := FL.bindsD (ps := ["self", "words"]) xlT (fun _ _ _ _ _ _ => us_len2 fun _ _ => ⟨_, rfl, rfl⟩)
  have Z : NoP K mg cC cI _ := ⟨xC, PySem.W.mg_of X G xmC, bI⟩
  have L : CL K mg cC cB co1 co2 co3 co4 co5 co6 co7 co8 co9 co10 := ⟨⟨_, _, _, _, _, _, _, _, _, _, _, _, _, _, _, xlC⟩, ⟨_, _, _, _, _, _, _, _, _, _, _, _, _, _, _, _, _, xlB, rfl⟩, PySem.W.mg_of X G xmB, PySem.W.mg_of X G xo1, PySem.W.mg_of X G xo2, PySem.W.mg_of X G xo3, PySem.W.mg_of X G xo4, PySem.W.mg_of X G xo5, PySem.W.mg_of X G xo6, PySem.W.mg_of X G xo7, PySem.W.mg_of X G xo8, PySem.W.mg_of X G xo9, PySem.W.mg_of X G xo10, z_ValueError, ⟨xca, xsp, xtk, xmr⟩, xk1, xk2, xk3⟩
  refine ⟨PySem.W.fnOf "law" "law" (defArgs sLaw) (defBody sLaw) (defScope sLaw) .none kV23 dc23 pm23 an23 cd23 ct23, fun s v => .of_eq rfl, fun base _ _ => ?_⟩
  have GI := ok_initN (P := l.prog) (w := w) (base := base) FI xC xnp FL bL z_ValueError xfv (PySem.W.mg_of X G xmB) xga xrd xfB
  have GY := fun N => ok_way (P := l.prog) (w := w) (base := base) F3 T KI F2 b2 m2 F0 b0 m0 Z GI N
  have GPi := fun N => ok_piece (P := l.prog) (w := w) (base := base) F4 F3 b3 m3 N (GY N)
  have GWp := ok_withp (P := l.prog) (w := w) (base := base) F5 T KI z_list z_zip z_reversed F2 b2 m2 F1 b1 m1 F3 b3 m3 10 (GY 10)
  have GR := ok_refused (P := l.prog) (w := w) (base := base) F21 T Z xnp L F4 b4 m4 F5 b5 m5 10 (GPi 10) GWp
  have GAp := ok_allpaths (P := l.prog) (w := w) (base := base) F19 b19 m19 T KI z_enumerate F14 b14 m14 10
  have GS := ok_swapped (P := l.prog) (w := w) (base := base) F20 b20 m20 T KI F14 b14 m14 F15 b15 m15 10
  have GN := ok_nowhere (P := l.prog) (w := w) (base := base) F22 U T KI F14 b14 m14
  have GWo := ok_world (P := l.prog) (w := w) (base := base) F18 U F12 b12 m12 F13 b13 m13
  have GEx := ok_expr (P := l.prog) (w := w) (base := base) F17 b17 m17 U z_tuple F9 b9 m9 F16 b16 m16 10
  exact ok_law (C := cC) F23 U ⟨F6, b6, m6, GWo, F18.kp, b18, m18, GEx, F17.kp, b17, m17, GAp, F19.kp, b19, m19, GPi 20, F4.kp, b4, m4, GWp, F5.kp, b5, m5, GS, F20.kp, b20, m20, GN, F22.kp, b22, m22, GR, F21.kp, b21, m21, z_repr⟩
theorem walk {l : PySem.W.OpenLaw} {q : Program} {loose : List Str} {XP : (Str → Option Value) → Heap → Prop} {YP : World → Heap → Prop} {d : DefRec} {K : Params → PySem.W.Frag} (hn : l.most = some 63) (hdf : d.params.defaults = [])
    (hY : ∀ (w : World) (h : Heap), YP w h → (K w.params).In h)
    (F : ∀ (w : World) (mg : Str → Option Value) (fa : Addr) (h : Heap), (K w.params).In h → h.Ns mainGlobals mg → mg d.name = some (.ref fa) →
      ∃ fd : FuncData, (∀ (s : Shared) (u : Value), BindsTo s fd ⟨[u], []⟩ [("_law_script", u)]) ∧ ∀ base : Heap, (K w.params).In base → base.Ns mainGlobals mg → FnOk l.prog w (K w.params) mg base CX0 15 fa fd ["_law_script"] (spLaw (K w.params))) :
    PySem.W.WalkO q loose XP YP l.row.toRowW d [] (fun f vs => PySem.call f vs) :=
  L2.walk_of (n := 63) (k := 15) (x := "_law_script") (CX := fun _ => CX0) (sp := fun w => spLaw (K w.params)) hn (by decide) hdf ⟨rfl, rfl, by decide, by decide⟩ hY F (fun _ _ a ns hl _ hS => ⟨a, ns, rfl, hS, hl, fun _ => rfl⟩) fun _ _ _ _ _ z => z
end K04

set_option Elab.async false
set_option linter.all false
set_option maxRecDepth 100000
set_option maxHeartbeats 4000000
namespace K04
open PySem L2
end K04
open PySem PySem.W PyProof.Rows
set_option maxRecDepth 100000 in
set_option maxHeartbeats 0 in
theorem PySem.Challenge.cw_likepieces_k04_pieces_put_in_holds : PySem.Challenge.rw_likepieces_k04_pieces_put_in.Holds := by
  w_on
  refine holds_law K04.hdS fun sd => ?_
  refine holds_open (q := K04.hdQ) (loose := K04.hdL) (Yf := K04.hdH.obs) (Ya := K04.hdH.val)
    (XP := XL K04.hdQ []) (YP := InK K04.hdK) (N := K04.hdN) K04.hdT K04.hdH.of
    K04.hdH.keeps (fun s e => xl_of s (Bool.and_eq_true_iff.mp e).1) XL.keeps (by rfl) (by rfl)
    (by rfl) (fun s e => recFacts_of (Bool.and_eq_true_iff.mp e).2) (by rfl) sd (by decide +kernel)
    ⟨rfl, rfl, rfl, rfl, rfl, by decide +kernel⟩ ?hw ?hc
  (case hw => w_witness2)
  k_fill
  refine K04.walk (l := PySem.Challenge.rw_likepieces_k04_pieces_put_in) rfl rfl (K := K04.hdK) (fun w h Y => Y) ?F
  case F =>
    intro w mg fa h KX G hmg
    refine' K04.all_mk KX G hmg ?a0 ?l0 ?c0 ?k0 ?a1 ?l1 ?c1 ?k1 ?a2 ?l2 ?c2 ?k2 ?a3 ?l3 ?c3 ?k3 ?a4 ?l4 ?c4 ?k4 ?a5 ?l5 ?c5 ?k5 ?a6 ?l6 ?c6 ?k6 ?a7 ?l7 ?c7 ?k7 ?a8 ?l8 ?c8 ?k8 ?a9 ?l9 ?c9 ?k9 ?a10 ?l10 ?c10 ?k10 ?a11 ?l11 ?c11 ?k11 ?a12 ?l12 ?c12 ?k12 ?a13 ?l13 ?c13 ?k13 ?a14 ?l14 ?c14 ?k14 ?a15 ?l15 ?c15 ?k15 ?a16 ?l16 ?c16 ?k16 ?a17 ?l17 ?c17 ?k17 ?a18 ?l18 ?c18 ?k18 ?a19 ?l19 ?c19 ?k19 ?a20 ?l20 ?c20 ?k20 ?a21 ?l21 ?c21 ?k21 ?a22 ?l22 ?c22 ?k22 ?a23 ?l23 ?c23 ?k23 ?q_isinstance ?q_int ?q_bool ?q_tuple ?q_len ?q_list ?q_range ?q_enumerate ?q_repr ?q_zip ?q_reversed ?q_ValueError ?xmC ?xiC ?xmB ?xfB ?xlI ?xcI ?xkI ?xlL ?xcL ?xkL ?xlT ?xfv ?xga ?xrd ?xnp ?xlC ?xlB ?xo1 ?xo2 ?xo3 ?xo4 ?xo5 ?xo6 ?xo7 ?xo8 ?xo9 ?xo10 ?xca ?xsp ?xtk ?xmr ?xk1 ?xk2 ?xk3 ?xfn ?xsa ?xgb ?xgn ?xhd ?xkC ?kt_NoneType_int ?kt_bool_int ?kt_int_int ?kt_str_int ?kt_tuple_int ?kt_list_int ?kt_NoneType_bool ?kt_bool_bool ?kt_int_bool ?kt_str_bool ?kt_tuple_bool ?kt_list_bool ?kt_NoneType_tuple ?kt_bool_tuple ?kt_int_tuple ?kt_str_tuple ?kt_tuple_tuple ?kt_list_tuple
    (case a0 => k_is)
    (case l0 => k_is)
    (case c0 => k_is)
    (case k0 => k_is)
    (case a1 => k_is)
    (case l1 => k_is)
    (case c1 => k_is)
    (case k1 => k_is)
    (case a2 => k_is)
    (case l2 => k_is)
    (case c2 => k_is)
    (case k2 => k_is)
    (case a3 => k_is)
    (case l3 => k_is)
    (case c3 => k_is)
    (case k3 => k_is)
    (case a4 => k_is)
    (case l4 => k_is)
    (case c4 => k_is)
    (case k4 => k_is)
    (case a5 => k_is)
    (case l5 => k_is)
    (case c5 => k_is)
    (case k5 => k_is)
    (case a6 => k_is)
    (case l6 => k_is)
    (case c6 => k_is)
    (case k6 => k_is)
    (case a7 => k_is)
    (case l7 => k_is)
    (case c7 => k_is)
    (case k7 => k_is)
    (case a8 => k_is)
    (case l8 => k_is)
    (case c8 => k_is)
    (case k8 => k_is)
    (case a9 => k_is)
    (case l9 => k_is)
    (case c9 => k_is)
    (case k9 => k_is)
    (case a10 => k_is)
    (case l10 => k_is)
    (case c10 => k_is)
    (case k10 => k_is)
    (case a11 => k_is)
    (case l11 => k_is)
    (case c11 => k_is)
    (case k11 => k_is)
    (case a12 => k_is)
    (case l12 => k_is)
    (case c12 => k_is)
    (case k12 => k_is)
    (case a13 => k_is)
    (case l13 => k_is)
    (case c13 => k_is)
    (case k13 => k_is)
    (case a14 => k_is)
    (case l14 => k_is)
    (case c14 => k_is)
    (case k14 => k_is)
    (case a15 => k_is)
    (case l15 => k_is)
    (case c15 => k_is)
    (case k15 => k_is)
    (case a16 => k_is)
    (case l16 => k_is)
    (case c16 => k_is)
    (case k16 => k_is)
    (case a17 => k_is)
    (case l17 => k_is)
    (case c17 => k_is)
    (case k17 => k_is)
    (case a18 => k_is)
    (case l18 => k_is)
    (case c18 => k_is)
    (case k18 => k_is)
    (case a19 => k_is)
    (case l19 => k_is)
    (case c19 => k_is)
    (case k19 => k_is)
    (case a20 => k_is)
    (case l20 => k_is)
    (case c20 => k_is)
    (case k20 => k_is)
    (case a21 => k_is)
    (case l21 => k_is)
    (case c21 => k_is)
    (case k21 => k_is)
    (case a22 => k_is)
    (case l22 => k_is)
    (case c22 => k_is)
    (case k22 => k_is)
    (case a23 => k_is)
    (case l23 => k_is)
    (case c23 => k_is)
    (case k23 => k_is)
    (case q_isinstance => k_is)
    (case q_int => k_is)
    (case q_bool => k_is)
    (case q_tuple => k_is)
    (case q_len => k_is)
    (case q_list => k_is)
    (case q_range => k_is)
    (case q_enumerate => k_is)
    (case q_repr => k_is)
    (case q_zip => k_is)
    (case q_reversed => k_is)
    (case q_ValueError => k_is)
    (case xmC => k_is)
    (case xiC => k_is)
    (case xmB => k_is)
    (case xfB => k_is)
    (case xlI => k_is)
    (case xcI => k_is)
    (case xkI => k_is)
    (case xlL => k_is)
    (case xcL => k_is)
    (case xkL => k_is)
    (case xlT => first | rfl | k_is)
    (case xfv => k_is)
    (case xga => k_is)
    (case xrd => k_is)
    (case xnp => k_is)
    (case xlC => first | rfl | k_is)
    (case xlB => first | rfl | k_is)
    (case xo1 => k_is)
    (case xo2 => k_is)
    (case xo3 => k_is)
    (case xo4 => k_is)
    (case xo5 => k_is)
    (case xo6 => k_is)
    (case xo7 => k_is)
    (case xo8 => k_is)
    (case xo9 => k_is)
    (case xo10 => k_is)
    (case xca => k_is)
    (case xsp => k_is)
    (case xtk => k_is)
    (case xmr => k_is)
    (case xk1 => first | k_is | rfl | decide +kernel)
    (case xk2 => first | k_is | rfl | decide +kernel)
    (case xk3 => first | k_is | rfl | decide +kernel)
    (case xfn => k_is)
    (case xsa => k_is)
    (case xgb => k_is)
    (case xgn => k_is)
    (case xhd => k_is)
    (case xkC => k_is)
    (case kt_NoneType_int => first | k_is | rfl | decide)
    (case kt_bool_int => first | k_is | rfl | decide)
    (case kt_int_int => first | k_is | rfl | decide)
    (case kt_str_int => first | k_is | rfl | decide)
    (case kt_tuple_int => first | k_is | rfl | decide)
    (case kt_list_int => first | k_is | rfl | decide)
    (case kt_NoneType_bool => first | k_is | rfl | decide)
    (case kt_bool_bool => first | k_is | rfl | decide)
    (case kt_int_bool => first | k_is | rfl | decide)
    (case kt_str_bool => first | k_is | rfl | decide)
    (case kt_tuple_bool => first | k_is | rfl | decide)
    (case kt_list_bool => first | k_is | rfl | decide)
    (case kt_NoneType_tuple => first | k_is | rfl | decide)
    (case kt_bool_tuple => first | k_is | rfl | decide)
    (case kt_int_tuple => first | k_is | rfl | decide)
    (case kt_str_tuple => first | k_is | rfl | decide)
    (case kt_tuple_tuple => first | k_is | rfl | decide)
    (case kt_list_tuple => first | k_is | rfl | decide)

