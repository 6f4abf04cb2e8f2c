import PyProof.Rows.All
import Wide.All
import OpenK.AllK
import Wide.FinOn
import Lean
import PyProof.EqAt
import PyProof.EqKinds
import PyProof.TupleCall
import PyProof.NeKinds
import PyProof.Rows.SortStr
import PyProof.Rows.SeqMore
import PyProof.Rows.CatFin
import PyProof.MeetsStr
import PyProof.Rows.SumAny
import PyProof.Rows.SortShell
import PyProof.Rows.SetFrom
import PyProof.DictWalks
import PyProof.Rows.SortReads
import KE.KDictSum
import PyProof.ZipIter
import PyProof.Rows.ZipGen
import PySem.Challenge.RW_likepieces_k16_patterns_filled
import PyProof.TupleOfGen
import PyProof.TupleOfStr
import KE.KIsAll
import PyProof.Rows.StrJoin2
import PyProof.AttrMissSeq
import KE.KDictOf
import PyProof.DictCompW
set_option Elab.async false
set_option linter.all false
set_option maxRecDepth 100000
set_option maxHeartbeats 4000000
namespace L2
open PySem
def Z0g (s : Stmt) : Arguments := match s with
 | .FunctionDef _ a _ _ _ _ _ _ _ _ => a
 | _ => { posonlyargs := [], args := [], vararg := none, kwonlyargs := [], kw_defaults := [], kwarg := none, defaults := [] }
def Z0e (s : Stmt) : List Stmt := match s with
 | .FunctionDef _ _ b _ _ _ _ _ _ _ => b
 | _ => []
def Z03 (s : Stmt) : Scope := match s with
 | .FunctionDef _ _ _ _ _ _ sc _ _ _ => sc
 | _ => { kind := .function, names := [], isGenerator := false, isCoroutine := false }
def Zbs (s : Stmt) : List Stmt := match s with
 | .ClassDef _ _ _ b _ _ _ _ _ _ _ => b
 | _ => []
end L2
namespace K16
open PySem L2
def top (i : Nat) : Stmt := PySem.Challenge.pw_likepieces_k16_patterns_filled.main.body.getD i (.Pass ⟨0, 0, 0, 0⟩)
abbrev eT : Obj := ⟨(.type "tuple"), none, (.seq #[] 0), #[]⟩
abbrev eF (n : Str) (i : Nat) (r : Addr) : Obj := ⟨(.type "function"), none, (.func (PySem.W.fnOf n n (Z0g (top i)) (Z0e (top i)) (Z03 (top i)) .none .none .none (.str "likepieces.errors" 187) none (.ref r) .none)), #[]⟩
abbrev eC (n : Str) (a b c : Tok) (l k f : Int) (r s : Addr) (v w : Value) (t : Addr) (m : Int) (d : Tok) : Obj := ⟨(.type "code"), none, (.fields #[(.str n a), (.str n b), (.str "/claim/cut.py" c), (.int l 0), (.int k 0), (.int 0 0), (.int 0 0), (.int f 0), (.ref r), (.bool true), (.int 181 0), (.ref s), .none, v, w, (.ref t), (.int m 0), (.int l 0), (.str "/claim/cut.py" d)]), #[]⟩
def Z1e (i j : Nat) : Stmt := (Zbs (top i)).getD j (.Pass ⟨0, 0, 0, 0⟩)
def hdQ : Program := { PySem.Challenge.pw_likepieces_k16_patterns_filled with main := { PySem.Challenge.pw_likepieces_k16_patterns_filled.main with body := [top 1, top 2, top 3, top 4, top 5, top 6, top 7, top 8, top 9, top 10, top 11, top 12, top 14, top 15, top 16, top 17, top 18, top 19, top 20, top 21, top 23, top 24, top 25, top 27, top 28, top 29, top 30, top 31, top 32, top 33, top 34, top 35, top 36, top 37, top 38, top 39, top 40, top 41, top 42, top 43, top 44] } }
def hdK : Params -> PySem.W.Frag := fun P =>
 (nat_lit 2, ⟨.none, none, (.dict #[] 0), #[]⟩) ::
 (nat_lit 3, ⟨(.type "dict"), none, (.dict #[⟨(PySem.PyData.keyHash P "__name__"), (.str "__name__" 165), (.str "law_likepieces_k16_patterns_filled" 524)⟩, ⟨(PySem.PyData.keyHash P "__doc__"), (.str "__doc__" 166), .none⟩, ⟨(PySem.PyData.keyHash P "__package__"), (.str "__package__" 167), .none⟩, ⟨(PySem.PyData.keyHash P "__loader__"), (.str "__loader__" 168), (.builtin "__main__.__loader__#opaque")⟩, ⟨(PySem.PyData.keyHash P "__spec__"), (.str "__spec__" 169), .none⟩, ⟨(PySem.PyData.keyHash P "__annotations__"), (.str "__annotations__" 170), (.ref 6)⟩, ⟨(PySem.PyData.keyHash P "__builtins__"), (.str "__builtins__" 171), (.ref 4)⟩, ⟨(PySem.PyData.keyHash P "__file__"), (.str "__file__" 173), (.str "/claim/cut.py" 172)⟩, ⟨(PySem.PyData.keyHash P "__cached__"), (.str "__cached__" 174), .none⟩, ⟨(PySem.PyData.keyHash P "LikeError"), (.str "LikeError" 215), (.ref 32)⟩, ⟨(PySem.PyData.keyHash P "NoPlace"), (.str "NoPlace" 240), (.ref 52)⟩, ⟨(PySem.PyData.keyHash P "NoFunction"), (.str "NoFunction" 265), (.ref 71)⟩, ⟨(PySem.PyData.keyHash P "NoText"), (.str "NoText" 290), (.ref 90)⟩, ⟨(PySem.PyData.keyHash P "NoLine"), (.str "NoLine" 317), (.ref 109)⟩, ⟨(PySem.PyData.keyHash P "NoTable"), (.str "NoTable" 344), (.ref 128)⟩, ⟨(PySem.PyData.keyHash P "NoPut"), (.str "NoPut" 373), (.ref 147)⟩, ⟨(PySem.PyData.keyHash P "NoExchange"), (.str "NoExchange" 389), (.ref 159)⟩, ⟨(PySem.PyData.keyHash P "NoBare"), (.str "NoBare" 405), (.ref 171)⟩, ⟨(PySem.PyData.keyHash P "NoFill"), (.str "NoFill" 421), (.ref 183)⟩, ⟨(PySem.PyData.keyHash P "NoPlaces"), (.str "NoPlaces" 437), (.ref 195)⟩, ⟨(PySem.PyData.keyHash P "NoRow"), (.str "NoRow" 453), (.ref 207)⟩, ⟨(PySem.PyData.keyHash P "NODE"), (.str "NODE" 457), (.str "node" 456)⟩, ⟨(PySem.PyData.keyHash P "OPENED"), (.str "OPENED" 459), (.str "opened" 458)⟩, ⟨(PySem.PyData.keyHash P "CLOSED"), (.str "CLOSED" 461), (.str "closed" 460)⟩, ⟨(PySem.PyData.keyHash P "head"), (.str "head" 467), (.ref 214)⟩, ⟨(PySem.PyData.keyHash P "parts"), (.str "parts" 473), (.ref 219)⟩, ⟨(PySem.PyData.keyHash P "steps"), (.str "steps" 479), (.ref 224)⟩, ⟨(PySem.PyData.keyHash P "flat"), (.str "flat" 485), (.ref 229)⟩, ⟨(PySem.PyData.keyHash P "built"), (.str "built" 497), (.ref 236)⟩, ⟨(PySem.PyData.keyHash P "hole_numbers"), (.str "hole_numbers" 505), (.ref 241)⟩, ⟨(PySem.PyData.keyHash P "hole_count"), (.str "hole_count" 512), (.ref 248)⟩, ⟨(PySem.PyData.keyHash P "filled"), (.str "filled" 523), (.ref 255)⟩, ⟨(PySem.PyData.keyHash P "_law_feed"), (.str "_law_feed" 532), (.ref 262)⟩, ⟨(PySem.PyData.keyHash P "_law_draw"), (.str "_law_draw" 544), (.ref 269)⟩, ⟨(PySem.PyData.keyHash P "_law_value"), (.str "_law_value" 552), (.ref 276)⟩, ⟨(PySem.PyData.keyHash P "_law_spelled"), (.str "_law_spelled" 562), (.ref 283)⟩, ⟨(PySem.PyData.keyHash P "_law_name"), (.str "_law_name" 577), (.ref 290)⟩, ⟨(PySem.PyData.keyHash P "_law_names"), (.str "_law_names" 587), (.ref 297)⟩, ⟨(PySem.PyData.keyHash P "_law_parts"), (.str "_law_parts" 593), (.ref 302)⟩, ⟨(PySem.PyData.keyHash P "_law_with"), (.str "_law_with" 599), (.ref 307)⟩, ⟨(PySem.PyData.keyHash P "_law_nodes"), (.str "_law_nodes" 605), (.ref 312)⟩, ⟨(PySem.PyData.keyHash P "_law_same"), (.str "_law_same" 611), (.ref 317)⟩, ⟨(PySem.PyData.keyHash P "_law_world"), (.str "_law_world" 621), (.ref 324)⟩, ⟨(PySem.PyData.keyHash P "_law_leaf"), (.str "_law_leaf" 631), (.ref 331)⟩, ⟨(PySem.PyData.keyHash P "_law_form"), (.str "_law_form" 637), (.ref 336)⟩, ⟨(PySem.PyData.keyHash P "_law_dense"), (.str "_law_dense" 643), (.ref 341)⟩, ⟨(PySem.PyData.keyHash P "_law_turned_about"), (.str "_law_turned_about" 649), (.ref 346)⟩, ⟨(PySem.PyData.keyHash P "_law_fill"), (.str "_law_fill" 655), (.ref 351)⟩, ⟨(PySem.PyData.keyHash P "_law_refused"), (.str "_law_refused" 665), (.ref 358)⟩, ⟨(PySem.PyData.keyHash P "law"), (.str "law" 682), (.ref 365)⟩] 50), #[]⟩) ::
 (nat_lit 15, ⟨(.type "tuple"), none, (.seq #[(.type "ValueError")] 0), #[]⟩) ::
 (nat_lit 22, ⟨(.type "tuple"), none, (.seq #[(.str "" 201)] 0), #[]⟩) ::
 (nat_lit 23, eT) ::
 (nat_lit 25, ⟨(.type "tuple"), none, (.seq #[(.str "self" 205), (.str "words" 206)] 0), #[]⟩) ::
 (nat_lit 26, eT) ::
 (nat_lit 28, ⟨(.type "code"), none, (.fields #[(.str "__init__" 202), (.str "LikeError.__init__" 203), (.str "/claim/cut.py" 204), (.int 4 0), (.int 2 0), (.int 0 0), (.int 0 0), (.int 3 0), (.ref 23), (.bool true), (.int 181 0), (.ref 24), .none, (.ref 25), (.ref 26), (.ref 27), (.int 207 0), (.int 4 0), (.str "/claim/cut.py" 208)]), #[]⟩) ::
 (nat_lit 29, ⟨(.type "function"), none, (.func (PySem.W.fnOf "__init__" "LikeError.__init__" (Z0g (Z1e 1 0)) (Z0e (Z1e 1 0)) (Z03 (Z1e 1 0)) (.ref 22) .none .none (.str "likepieces.errors" 187) none (.ref 28) .none)), #[]⟩) ::
 (nat_lit 30, eT) ::
 (nat_lit 31, ⟨(.type "dict"), none, (.dict #[⟨(PySem.PyData.keyHash P "__module__"), (.str "__module__" 196), (.str "likepieces.errors" 187)⟩, ⟨(PySem.PyData.keyHash P "__firstlineno__"), (.str "__firstlineno__" 200), (.int 2 199)⟩, ⟨(PySem.PyData.keyHash P "__init__"), (.str "__init__" 209), (.ref 29)⟩, ⟨(PySem.PyData.keyHash P "__static_attributes__"), (.str "__static_attributes__" 210), (.ref 30)⟩, ⟨(PySem.PyData.keyHash P "__weakref__"), (.str "__weakref__" 212), (.ref 33)⟩, ⟨(PySem.PyData.keyHash P "__doc__"), (.str "__doc__" 213), .none⟩] 3), #[]⟩) ::
 (nat_lit 32, ⟨(.type "type"), none, (.cls ⟨"LikeError", [(.type "ValueError")], [(.ref 32), (.type "ValueError"), (.type "Exception"), (.type "BaseException"), (.type "object")], 31, "LikeError", true, [], [(.ref 52), (.ref 71), (.ref 90), (.ref 109), (.ref 128), (.ref 147), (.ref 159), (.ref 171), (.ref 183), (.ref 195), (.ref 207)], false, none, false⟩), #[(some (.ref 15)), none, (some (.str "LikeError" 189)), (some (.str "LikeError" 197)), (some (.builtin "ValueError.__new__")), (some (.bool true))]⟩) ::
 (nat_lit 33, ⟨(.type "getset_descriptor"), none, (.fields #[(.str "__weakref__" 211), (.ref 32), (.builtin "ExceptionGroup.__weakref__"), .none]), #[]⟩) ::
 (nat_lit 36, ⟨(.type "tuple"), none, (.seq #[(.ref 32)] 0), #[]⟩) ::
 (nat_lit 43, eT) ::
 (nat_lit 45, ⟨(.type "tuple"), none, (.seq #[(.str "self" 231), (.str "place" 232)] 0), #[]⟩) ::
 (nat_lit 46, eT) ::
 (nat_lit 48, ⟨(.type "code"), none, (.fields #[(.str "__init__" 228), (.str "NoPlace.__init__" 229), (.str "/claim/cut.py" 230), (.int 8 0), (.int 2 0), (.int 0 0), (.int 0 0), (.int 3 0), (.ref 43), (.bool true), (.int 181 0), (.ref 44), .none, (.ref 45), (.ref 46), (.ref 47), (.int 233 0), (.int 8 0), (.str "/claim/cut.py" 234)]), #[]⟩) ::
 (nat_lit 49, ⟨(.type "function"), none, (.func (PySem.W.fnOf "__init__" "NoPlace.__init__" (Z0g (Z1e 2 0)) (Z0e (Z1e 2 0)) (Z03 (Z1e 2 0)) .none .none .none (.str "likepieces.errors" 187) none (.ref 48) .none)), #[]⟩) ::
 (nat_lit 50, ⟨(.type "tuple"), none, (.seq #[(.str "place" 236)] 0), #[]⟩) ::
 (nat_lit 51, ⟨(.type "dict"), none, (.dict #[⟨(PySem.PyData.keyHash P "__module__"), (.str "__module__" 223), (.str "likepieces.errors" 187)⟩, ⟨(PySem.PyData.keyHash P "__firstlineno__"), (.str "__firstlineno__" 227), (.int 6 226)⟩, ⟨(PySem.PyData.keyHash P "__init__"), (.str "__init__" 235), (.ref 49)⟩, ⟨(PySem.PyData.keyHash P "__static_attributes__"), (.str "__static_attributes__" 237), (.ref 50)⟩, ⟨(PySem.PyData.keyHash P "__doc__"), (.str "__doc__" 238), .none⟩] 2), #[]⟩) ::
 (nat_lit 52, ⟨(.type "type"), none, (.cls ⟨"NoPlace", [(.ref 32)], [(.ref 52), (.ref 32), (.type "ValueError"), (.type "Exception"), (.type "BaseException"), (.type "object")], 51, "NoPlace", true, [], [], false, none, false⟩), #[(some (.ref 36)), none, (some (.str "NoPlace" 216)), (some (.str "NoPlace" 224)), (some (.builtin "ValueError.__new__")), (some (.bool true))]⟩) ::
 (nat_lit 55, ⟨(.type "tuple"), none, (.seq #[(.ref 32)] 0), #[]⟩) ::
 (nat_lit 62, eT) ::
 (nat_lit 64, ⟨(.type "tuple"), none, (.seq #[(.str "self" 256), (.str "name" 257)] 0), #[]⟩) ::
 (nat_lit 65, eT) ::
 (nat_lit 67, ⟨(.type "code"), none, (.fields #[(.str "__init__" 253), (.str "NoFunction.__init__" 254), (.str "/claim/cut.py" 255), (.int 13 0), (.int 2 0), (.int 0 0), (.int 0 0), (.int 3 0), (.ref 62), (.bool true), (.int 181 0), (.ref 63), .none, (.ref 64), (.ref 65), (.ref 66), (.int 258 0), (.int 13 0), (.str "/claim/cut.py" 259)]), #[]⟩) ::
 (nat_lit 68, ⟨(.type "function"), none, (.func (PySem.W.fnOf "__init__" "NoFunction.__init__" (Z0g (Z1e 3 0)) (Z0e (Z1e 3 0)) (Z03 (Z1e 3 0)) .none .none .none (.str "likepieces.errors" 187) none (.ref 67) .none)), #[]⟩) ::
 (nat_lit 69, ⟨(.type "tuple"), none, (.seq #[(.str "name" 261)] 0), #[]⟩) ::
 (nat_lit 70, ⟨(.type "dict"), none, (.dict #[⟨(PySem.PyData.keyHash P "__module__"), (.str "__module__" 248), (.str "likepieces.errors" 187)⟩, ⟨(PySem.PyData.keyHash P "__firstlineno__"), (.str "__firstlineno__" 252), (.int 11 251)⟩, ⟨(PySem.PyData.keyHash P "__init__"), (.str "__init__" 260), (.ref 68)⟩, ⟨(PySem.PyData.keyHash P "__static_attributes__"), (.str "__static_attributes__" 262), (.ref 69)⟩, ⟨(PySem.PyData.keyHash P "__doc__"), (.str "__doc__" 263), .none⟩] 2), #[]⟩) ::
 (nat_lit 71, ⟨(.type "type"), none, (.cls ⟨"NoFunction", [(.ref 32)], [(.ref 71), (.ref 32), (.type "ValueError"), (.type "Exception"), (.type "BaseException"), (.type "object")], 70, "NoFunction", true, [], [], false, none, false⟩), #[(some (.ref 55)), none, (some (.str "NoFunction" 241)), (some (.str "NoFunction" 249)), (some (.builtin "ValueError.__new__")), (some (.bool true))]⟩) ::
 (nat_lit 74, ⟨(.type "tuple"), none, (.seq #[(.ref 32)] 0), #[]⟩) ::
 (nat_lit 81, eT) ::
 (nat_lit 83, ⟨(.type "tuple"), none, (.seq #[(.str "self" 281), (.str "at" 282)] 0), #[]⟩) ::
 (nat_lit 84, eT) ::
 (nat_lit 86, ⟨(.type "code"), none, (.fields #[(.str "__init__" 278), (.str "NoText.__init__" 279), (.str "/claim/cut.py" 280), (.int 18 0), (.int 2 0), (.int 0 0), (.int 0 0), (.int 3 0), (.ref 81), (.bool true), (.int 181 0), (.ref 82), .none, (.ref 83), (.ref 84), (.ref 85), (.int 283 0), (.int 18 0), (.str "/claim/cut.py" 284)]), #[]⟩) ::
 (nat_lit 87, ⟨(.type "function"), none, (.func (PySem.W.fnOf "__init__" "NoText.__init__" (Z0g (Z1e 4 0)) (Z0e (Z1e 4 0)) (Z03 (Z1e 4 0)) .none .none .none (.str "likepieces.errors" 187) none (.ref 86) .none)), #[]⟩) ::
 (nat_lit 88, ⟨(.type "tuple"), none, (.seq #[(.str "at" 286)] 0), #[]⟩) ::
 (nat_lit 89, ⟨(.type "dict"), none, (.dict #[⟨(PySem.PyData.keyHash P "__module__"), (.str "__module__" 273), (.str "likepieces.errors" 187)⟩, ⟨(PySem.PyData.keyHash P "__firstlineno__"), (.str "__firstlineno__" 277), (.int 16 276)⟩, ⟨(PySem.PyData.keyHash P "__init__"), (.str "__init__" 285), (.ref 87)⟩, ⟨(PySem.PyData.keyHash P "__static_attributes__"), (.str "__static_attributes__" 287), (.ref 88)⟩, ⟨(PySem.PyData.keyHash P "__doc__"), (.str "__doc__" 288), .none⟩] 2), #[]⟩) ::
 (nat_lit 90, ⟨(.type "type"), none, (.cls ⟨"NoText", [(.ref 32)], [(.ref 90), (.ref 32), (.type "ValueError"), (.type "Exception"), (.type "BaseException"), (.type "object")], 89, "NoText", true, [], [], false, none, false⟩), #[(some (.ref 74)), none, (some (.str "NoText" 266)), (some (.str "NoText" 274)), (some (.builtin "ValueError.__new__")), (some (.bool true))]⟩) ::
 (nat_lit 93, ⟨(.type "tuple"), none, (.seq #[(.ref 32)] 0), #[]⟩) ::
 (nat_lit 100, eT) ::
 (nat_lit 102, ⟨(.type "tuple"), none, (.seq #[(.str "self" 306), (.str "line" 307), (.str "at" 308)] 0), #[]⟩) ::
 (nat_lit 103, eT) ::
 (nat_lit 105, ⟨(.type "code"), none, (.fields #[(.str "__init__" 303), (.str "NoLine.__init__" 304), (.str "/claim/cut.py" 305), (.int 23 0), (.int 3 0), (.int 0 0), (.int 0 0), (.int 3 0), (.ref 100), (.bool true), (.int 181 0), (.ref 101), .none, (.ref 102), (.ref 103), (.ref 104), (.int 309 0), (.int 23 0), (.str "/claim/cut.py" 310)]), #[]⟩) ::
 (nat_lit 106, ⟨(.type "function"), none, (.func (PySem.W.fnOf "__init__" "NoLine.__init__" (Z0g (Z1e 5 0)) (Z0e (Z1e 5 0)) (Z03 (Z1e 5 0)) .none .none .none (.str "likepieces.errors" 187) none (.ref 105) .none)), #[]⟩) ::
 (nat_lit 107, ⟨(.type "tuple"), none, (.seq #[(.str "at" 312), (.str "line" 313)] 0), #[]⟩) ::
 (nat_lit 108, ⟨(.type "dict"), none, (.dict #[⟨(PySem.PyData.keyHash P "__module__"), (.str "__module__" 298), (.str "likepieces.errors" 187)⟩, ⟨(PySem.PyData.keyHash P "__firstlineno__"), (.str "__firstlineno__" 302), (.int 21 301)⟩, ⟨(PySem.PyData.keyHash P "__init__"), (.str "__init__" 311), (.ref 106)⟩, ⟨(PySem.PyData.keyHash P "__static_attributes__"), (.str "__static_attributes__" 314), (.ref 107)⟩, ⟨(PySem.PyData.keyHash P "__doc__"), (.str "__doc__" 315), .none⟩] 2), #[]⟩) ::
 (nat_lit 109, ⟨(.type "type"), none, (.cls ⟨"NoLine", [(.ref 32)], [(.ref 109), (.ref 32), (.type "ValueError"), (.type "Exception"), (.type "BaseException"), (.type "object")], 108, "NoLine", true, [], [], false, none, false⟩), #[(some (.ref 93)), none, (some (.str "NoLine" 291)), (some (.str "NoLine" 299)), (some (.builtin "ValueError.__new__")), (some (.bool true))]⟩) ::
 (nat_lit 112, ⟨(.type "tuple"), none, (.seq #[(.ref 32)] 0), #[]⟩) ::
 (nat_lit 119, eT) ::
 (nat_lit 121, ⟨(.type "tuple"), none, (.seq #[(.str "self" 333), (.str "word" 334), (.str "number" 335)] 0), #[]⟩) ::
 (nat_lit 122, eT) ::
 (nat_lit 124, ⟨(.type "code"), none, (.fields #[(.str "__init__" 330), (.str "NoTable.__init__" 331), (.str "/claim/cut.py" 332), (.int 29 0), (.int 3 0), (.int 0 0), (.int 0 0), (.int 3 0), (.ref 119), (.bool true), (.int 181 0), (.ref 120), .none, (.ref 121), (.ref 122), (.ref 123), (.int 336 0), (.int 29 0), (.str "/claim/cut.py" 337)]), #[]⟩) ::
 (nat_lit 125, ⟨(.type "function"), none, (.func (PySem.W.fnOf "__init__" "NoTable.__init__" (Z0g (Z1e 6 0)) (Z0e (Z1e 6 0)) (Z03 (Z1e 6 0)) .none .none .none (.str "likepieces.errors" 187) none (.ref 124) .none)), #[]⟩) ::
 (nat_lit 126, ⟨(.type "tuple"), none, (.seq #[(.str "number" 339), (.str "word" 340)] 0), #[]⟩) ::
 (nat_lit 127, ⟨(.type "dict"), none, (.dict #[⟨(PySem.PyData.keyHash P "__module__"), (.str "__module__" 325), (.str "likepieces.errors" 187)⟩, ⟨(PySem.PyData.keyHash P "__firstlineno__"), (.str "__firstlineno__" 329), (.int 27 328)⟩, ⟨(PySem.PyData.keyHash P "__init__"), (.str "__init__" 338), (.ref 125)⟩, ⟨(PySem.PyData.keyHash P "__static_attributes__"), (.str "__static_attributes__" 341), (.ref 126)⟩, ⟨(PySem.PyData.keyHash P "__doc__"), (.str "__doc__" 342), .none⟩] 2), #[]⟩) ::
 (nat_lit 128, ⟨(.type "type"), none, (.cls ⟨"NoTable", [(.ref 32)], [(.ref 128), (.ref 32), (.type "ValueError"), (.type "Exception"), (.type "BaseException"), (.type "object")], 127, "NoTable", true, [], [], false, none, false⟩), #[(some (.ref 112)), none, (some (.str "NoTable" 318)), (some (.str "NoTable" 326)), (some (.builtin "ValueError.__new__")), (some (.bool true))]⟩) ::
 (nat_lit 131, ⟨(.type "tuple"), none, (.seq #[(.ref 32)] 0), #[]⟩) ::
 (nat_lit 138, eT) ::
 (nat_lit 140, ⟨(.type "tuple"), none, (.seq #[(.str "self" 360), (.str "word" 361), (.str "row" 362), (.str "hole" 363)] 0), #[]⟩) ::
 (nat_lit 141, eT) ::
 (nat_lit 143, ⟨(.type "code"), none, (.fields #[(.str "__init__" 357), (.str "NoPut.__init__" 358), (.str "/claim/cut.py" 359), (.int 35 0), (.int 4 0), (.int 0 0), (.int 0 0), (.int 3 0), (.ref 138), (.bool true), (.int 181 0), (.ref 139), .none, (.ref 140), (.ref 141), (.ref 142), (.int 364 0), (.int 35 0), (.str "/claim/cut.py" 365)]), #[]⟩) ::
 (nat_lit 144, ⟨(.type "function"), none, (.func (PySem.W.fnOf "__init__" "NoPut.__init__" (Z0g (Z1e 7 0)) (Z0e (Z1e 7 0)) (Z03 (Z1e 7 0)) .none .none .none (.str "likepieces.errors" 187) none (.ref 143) .none)), #[]⟩) ::
 (nat_lit 145, ⟨(.type "tuple"), none, (.seq #[(.str "hole" 367), (.str "row" 368), (.str "word" 369)] 0), #[]⟩) ::
 (nat_lit 146, ⟨(.type "dict"), none, (.dict #[⟨(PySem.PyData.keyHash P "__module__"), (.str "__module__" 352), (.str "likepieces.errors" 187)⟩, ⟨(PySem.PyData.keyHash P "__firstlineno__"), (.str "__firstlineno__" 356), (.int 33 355)⟩, ⟨(PySem.PyData.keyHash P "__init__"), (.str "__init__" 366), (.ref 144)⟩, ⟨(PySem.PyData.keyHash P "__static_attributes__"), (.str "__static_attributes__" 370), (.ref 145)⟩, ⟨(PySem.PyData.keyHash P "__doc__"), (.str "__doc__" 371), .none⟩] 2), #[]⟩) ::
 (nat_lit 147, ⟨(.type "type"), none, (.cls ⟨"NoPut", [(.ref 32)], [(.ref 147), (.ref 32), (.type "ValueError"), (.type "Exception"), (.type "BaseException"), (.type "object")], 146, "NoPut", true, [], [], false, none, false⟩), #[(some (.ref 131)), none, (some (.str "NoPut" 345)), (some (.str "NoPut" 353)), (some (.builtin "ValueError.__new__")), (some (.bool true))]⟩) ::
 (nat_lit 150, ⟨(.type "tuple"), none, (.seq #[(.ref 32)] 0), #[]⟩) ::
 (nat_lit 157, eT) ::
 (nat_lit 158, ⟨(.type "dict"), none, (.dict #[⟨(PySem.PyData.keyHash P "__module__"), (.str "__module__" 381), (.str "likepieces.errors" 187)⟩, ⟨(PySem.PyData.keyHash P "__firstlineno__"), (.str "__firstlineno__" 385), (.int 40 384)⟩, ⟨(PySem.PyData.keyHash P "__static_attributes__"), (.str "__static_attributes__" 386), (.ref 157)⟩, ⟨(PySem.PyData.keyHash P "__doc__"), (.str "__doc__" 387), .none⟩] 2), #[]⟩) ::
 (nat_lit 159, ⟨(.type "type"), none, (.cls ⟨"NoExchange", [(.ref 32)], [(.ref 159), (.ref 32), (.type "ValueError"), (.type "Exception"), (.type "BaseException"), (.type "object")], 158, "NoExchange", true, [], [], false, none, false⟩), #[(some (.ref 150)), none, (some (.str "NoExchange" 374)), (some (.str "NoExchange" 382)), (some (.builtin "ValueError.__new__")), (some (.bool true))]⟩) ::
 (nat_lit 162, ⟨(.type "tuple"), none, (.seq #[(.ref 32)] 0), #[]⟩) ::
 (nat_lit 169, eT) ::
 (nat_lit 170, ⟨(.type "dict"), none, (.dict #[⟨(PySem.PyData.keyHash P "__module__"), (.str "__module__" 397), (.str "likepieces.errors" 187)⟩, ⟨(PySem.PyData.keyHash P "__firstlineno__"), (.str "__firstlineno__" 401), (.int 42 400)⟩, ⟨(PySem.PyData.keyHash P "__static_attributes__"), (.str "__static_attributes__" 402), (.ref 169)⟩, ⟨(PySem.PyData.keyHash P "__doc__"), (.str "__doc__" 403), .none⟩] 2), #[]⟩) ::
 (nat_lit 171, ⟨(.type "type"), none, (.cls ⟨"NoBare", [(.ref 32)], [(.ref 171), (.ref 32), (.type "ValueError"), (.type "Exception"), (.type "BaseException"), (.type "object")], 170, "NoBare", true, [], [], false, none, false⟩), #[(some (.ref 162)), none, (some (.str "NoBare" 390)), (some (.str "NoBare" 398)), (some (.builtin "ValueError.__new__")), (some (.bool true))]⟩) ::
 (nat_lit 174, ⟨(.type "tuple"), none, (.seq #[(.ref 32)] 0), #[]⟩) ::
 (nat_lit 181, eT) ::
 (nat_lit 182, ⟨(.type "dict"), none, (.dict #[⟨(PySem.PyData.keyHash P "__module__"), (.str "__module__" 413), (.str "likepieces.errors" 187)⟩, ⟨(PySem.PyData.keyHash P "__firstlineno__"), (.str "__firstlineno__" 417), (.int 44 416)⟩, ⟨(PySem.PyData.keyHash P "__static_attributes__"), (.str "__static_attributes__" 418), (.ref 181)⟩, ⟨(PySem.PyData.keyHash P "__doc__"), (.str "__doc__" 419), .none⟩] 2), #[]⟩) ::
 (nat_lit 183, ⟨(.type "type"), none, (.cls ⟨"NoFill", [(.ref 32)], [(.ref 183), (.ref 32), (.type "ValueError"), (.type "Exception"), (.type "BaseException"), (.type "object")], 182, "NoFill", true, [], [], false, none, false⟩), #[(some (.ref 174)), none, (some (.str "NoFill" 406)), (some (.str "NoFill" 414)), (some (.builtin "ValueError.__new__")), (some (.bool true))]⟩) ::
 (nat_lit 186, ⟨(.type "tuple"), none, (.seq #[(.ref 32)] 0), #[]⟩) ::
 (nat_lit 193, eT) ::
 (nat_lit 194, ⟨(.type "dict"), none, (.dict #[⟨(PySem.PyData.keyHash P "__module__"), (.str "__module__" 429), (.str "likepieces.errors" 187)⟩, ⟨(PySem.PyData.keyHash P "__firstlineno__"), (.str "__firstlineno__" 433), (.int 46 432)⟩, ⟨(PySem.PyData.keyHash P "__static_attributes__"), (.str "__static_attributes__" 434), (.ref 193)⟩, ⟨(PySem.PyData.keyHash P "__doc__"), (.str "__doc__" 435), .none⟩] 2), #[]⟩) ::
 (nat_lit 195, ⟨(.type "type"), none, (.cls ⟨"NoPlaces", [(.ref 32)], [(.ref 195), (.ref 32), (.type "ValueError"), (.type "Exception"), (.type "BaseException"), (.type "object")], 194, "NoPlaces", true, [], [], false, none, false⟩), #[(some (.ref 186)), none, (some (.str "NoPlaces" 422)), (some (.str "NoPlaces" 430)), (some (.builtin "ValueError.__new__")), (some (.bool true))]⟩) ::
 (nat_lit 198, ⟨(.type "tuple"), none, (.seq #[(.ref 32)] 0), #[]⟩) ::
 (nat_lit 205, eT) ::
 (nat_lit 206, ⟨(.type "dict"), none, (.dict #[⟨(PySem.PyData.keyHash P "__module__"), (.str "__module__" 445), (.str "likepieces.errors" 187)⟩, ⟨(PySem.PyData.keyHash P "__firstlineno__"), (.str "__firstlineno__" 449), (.int 48 448)⟩, ⟨(PySem.PyData.keyHash P "__static_attributes__"), (.str "__static_attributes__" 450), (.ref 205)⟩, ⟨(PySem.PyData.keyHash P "__doc__"), (.str "__doc__" 451), .none⟩] 2), #[]⟩) ::
 (nat_lit 207, ⟨(.type "type"), none, (.cls ⟨"NoRow", [(.ref 32)], [(.ref 207), (.ref 32), (.type "ValueError"), (.type "Exception"), (.type "BaseException"), (.type "object")], 206, "NoRow", true, [], [], false, none, false⟩), #[(some (.ref 198)), none, (some (.str "NoRow" 438)), (some (.str "NoRow" 446)), (some (.builtin "ValueError.__new__")), (some (.bool true))]⟩) ::
 (nat_lit 210, eT) ::
 (nat_lit 213, eC "head" 462 463 464 54 1 3 210 211 .none .none 212 465 466) ::
 (nat_lit 214, ⟨(.type "function"), none, (.func (PySem.W.fnOf "head" "head" (Z0g (top 17)) (Z0e (top 17)) (Z03 (top 17)) .none .none .none (.str "likepieces.trees" 454) none (.ref 213) .none)), #[]⟩) ::
 (nat_lit 215, eT) ::
 (nat_lit 218, eC "parts" 468 469 470 56 1 3 215 216 .none .none 217 471 472) ::
 (nat_lit 219, ⟨(.type "function"), none, (.func (PySem.W.fnOf "parts" "parts" (Z0g (top 18)) (Z0e (top 18)) (Z03 (top 18)) .none .none .none (.str "likepieces.trees" 454) none (.ref 218) .none)), #[]⟩) ::
 (nat_lit 220, eT) ::
 (nat_lit 223, eC "steps" 474 475 476 58 1 3 220 221 .none .none 222 477 478) ::
 (nat_lit 224, ⟨(.type "function"), none, (.func (PySem.W.fnOf "steps" "steps" (Z0g (top 19)) (Z0e (top 19)) (Z03 (top 19)) .none .none .none (.str "likepieces.trees" 454) none (.ref 223) .none)), #[]⟩) ::
 (nat_lit 225, eT) ::
 (nat_lit 228, eC "flat" 480 481 482 70 1 3 225 226 .none .none 227 483 484) ::
 (nat_lit 229, ⟨(.type "function"), none, (.func (PySem.W.fnOf "flat" "flat" (Z0g (top 20)) (Z0e (top 20)) (Z03 (top 20)) .none .none .none (.str "likepieces.trees" 454) none (.ref 228) .none)), #[]⟩) ::
 (nat_lit 230, eT) ::
 (nat_lit 232, ⟨(.type "tuple"), none, (.seq #[(.str "rows" 489), (.str "done" 490), (.str "lead" 491), (.str "many" 492), (.str "start" 493), (.str "inner" 494)] 0), #[]⟩) ::
 (nat_lit 233, eT) ::
 (nat_lit 235, eC "built" 486 487 488 72 1 3 230 231 (.ref 232) (.ref 233) 234 495 496) ::
 (nat_lit 236, ⟨(.type "function"), none, (.func (PySem.W.fnOf "built" "built" (Z0g (top 21)) (Z0e (top 21)) (Z03 (top 21)) .none .none .none (.str "likepieces.trees" 454) none (.ref 235) .none)), #[]⟩) ::
 (nat_lit 237, eT) ::
 (nat_lit 240, eC "hole_numbers" 500 501 502 81 1 3 237 238 .none .none 239 503 504) ::
 (nat_lit 241, ⟨(.type "function"), none, (.func (PySem.W.fnOf "hole_numbers" "hole_numbers" (Z0g (top 23)) (Z0e (top 23)) (Z03 (top 23)) .none .none .none (.str "likepieces.patterns" 498) none (.ref 240) .none)), #[]⟩) ::
 (nat_lit 242, eT) ::
 (nat_lit 244, ⟨(.type "tuple"), none, (.seq #[(.str "pattern" 509)] 0), #[]⟩) ::
 (nat_lit 245, eT) ::
 (nat_lit 247, eC "hole_count" 506 507 508 83 1 3 242 243 (.ref 244) (.ref 245) 246 510 511) ::
 (nat_lit 248, ⟨(.type "function"), none, (.func (PySem.W.fnOf "hole_count" "hole_count" (Z0g (top 24)) (Z0e (top 24)) (Z03 (top 24)) .none .none .none (.str "likepieces.patterns" 498) none (.ref 247) .none)), #[]⟩) ::
 (nat_lit 249, eT) ::
 (nat_lit 251, ⟨(.type "tuple"), none, (.seq #[(.str "pattern" 516), (.str "fillings" 517), (.str "rows" 518), (.str "lead" 519), (.str "many" 520)] 0), #[]⟩) ::
 (nat_lit 252, eT) ::
 (nat_lit 254, eC "filled" 513 514 515 85 2 3 249 250 (.ref 251) (.ref 252) 253 521 522) ::
 (nat_lit 255, ⟨(.type "function"), none, (.func (PySem.W.fnOf "filled" "filled" (Z0g (top 25)) (Z0e (top 25)) (Z03 (top 25)) .none .none .none (.str "likepieces.patterns" 498) none (.ref 254) .none)), #[]⟩) ::
 (nat_lit 256, eT) ::
 (nat_lit 258, ⟨(.type "tuple"), none, (.seq #[(.str "_law_script" 529)] 0), #[]⟩) ::
 (nat_lit 259, eT) ::
 (nat_lit 261, eC "_law_feed" 526 527 528 93 1 3 256 257 (.ref 258) (.ref 259) 260 530 531) ::
 (nat_lit 262, ⟨(.type "function"), none, (.func (PySem.W.fnOf "_law_feed" "_law_feed" (Z0g (top 27)) (Z0e (top 27)) (Z03 (top 27)) .none .none .none (.str "law_likepieces_k16_patterns_filled" 524) none (.ref 261) .none)), #[]⟩) ::
 (nat_lit 263, eT) ::
 (nat_lit 265, ⟨(.type "tuple"), none, (.seq #[(.str "_law_feed_here" 536), (.str "_law_many" 537), (.str "_law_found" 538), (.str "_law_at" 539), (.str "_law_cell" 540), (.str "_law_number" 541)] 0), #[]⟩) ::
 (nat_lit 266, eT) ::
 (nat_lit 268, eC "_law_draw" 533 534 535 95 2 3 263 264 (.ref 265) (.ref 266) 267 542 543) ::
 (nat_lit 269, ⟨(.type "function"), none, (.func (PySem.W.fnOf "_law_draw" "_law_draw" (Z0g (top 28)) (Z0e (top 28)) (Z03 (top 28)) .none .none .none (.str "law_likepieces_k16_patterns_filled" 524) none (.ref 268) .none)), #[]⟩) ::
 (nat_lit 270, eT) ::
 (nat_lit 272, ⟨(.type "tuple"), none, (.seq #[(.str "_law_feed_here" 548), (.str "_law_way" 549)] 0), #[]⟩) ::
 (nat_lit 273, eT) ::
 (nat_lit 275, eC "_law_value" 545 546 547 112 1 3 270 271 (.ref 272) (.ref 273) 274 550 551) ::
 (nat_lit 276, ⟨(.type "function"), none, (.func (PySem.W.fnOf "_law_value" "_law_value" (Z0g (top 29)) (Z0e (top 29)) (Z03 (top 29)) .none .none .none (.str "law_likepieces_k16_patterns_filled" 524) none (.ref 275) .none)), #[]⟩) ::
 (nat_lit 277, eT) ::
 (nat_lit 279, ⟨(.type "tuple"), none, (.seq #[(.str "_law_number" 556), (.str "_law_long" 557), (.str "_law_word" 558), (.str "_law_k" 559)] 0), #[]⟩) ::
 (nat_lit 280, eT) ::
 (nat_lit 282, eC "_law_spelled" 553 554 555 119 2 3 277 278 (.ref 279) (.ref 280) 281 560 561) ::
 (nat_lit 283, ⟨(.type "function"), none, (.func (PySem.W.fnOf "_law_spelled" "_law_spelled" (Z0g (top 30)) (Z0e (top 30)) (Z03 (top 30)) .none .none .none (.str "law_likepieces_k16_patterns_filled" 524) none (.ref 282) .none)), #[]⟩) ::
 (nat_lit 284, eT) ::
 (nat_lit 286, ⟨(.type "tuple"), none, (.seq #[(.str "_law_feed_here" 566), (.str "_law_taken" 567), (.str "_law_words" 568), (.str "_law_way" 569), (.str "_law_long" 570), (.str "_law_number" 571), (.str "_law_name_here" 572), (.str "_law_word" 573), (.str "_law_at" 574)] 0), #[]⟩) ::
 (nat_lit 287, eT) ::
 (nat_lit 289, eC "_law_name" 563 564 565 125 2 3 284 285 (.ref 286) (.ref 287) 288 575 576) ::
 (nat_lit 290, ⟨(.type "function"), none, (.func (PySem.W.fnOf "_law_name" "_law_name" (Z0g (top 31)) (Z0e (top 31)) (Z03 (top 31)) .none .none .none (.str "law_likepieces_k16_patterns_filled" 524) none (.ref 289) .none)), #[]⟩) ::
 (nat_lit 291, eT) ::
 (nat_lit 293, ⟨(.type "tuple"), none, (.seq #[(.str "_law_feed_here" 581), (.str "_law_many" 582), (.str "_law_names_here" 583), (.str "_law_k" 584)] 0), #[]⟩) ::
 (nat_lit 294, eT) ::
 (nat_lit 296, eC "_law_names" 578 579 580 145 2 3 291 292 (.ref 293) (.ref 294) 295 585 586) ::
 (nat_lit 297, ⟨(.type "function"), none, (.func (PySem.W.fnOf "_law_names" "_law_names" (Z0g (top 32)) (Z0e (top 32)) (Z03 (top 32)) .none .none .none (.str "law_likepieces_k16_patterns_filled" 524) none (.ref 296) .none)), #[]⟩) ::
 (nat_lit 298, eT) ::
 (nat_lit 301, eC "_law_parts" 588 589 590 150 1 3 298 299 .none .none 300 591 592) ::
 (nat_lit 302, ⟨(.type "function"), none, (.func (PySem.W.fnOf "_law_parts" "_law_parts" (Z0g (top 33)) (Z0e (top 33)) (Z03 (top 33)) .none .none .none (.str "law_likepieces_k16_patterns_filled" 524) none (.ref 301) .none)), #[]⟩) ::
 (nat_lit 303, eT) ::
 (nat_lit 306, eC "_law_with" 594 595 596 152 2 3 303 304 .none .none 305 597 598) ::
 (nat_lit 307, ⟨(.type "function"), none, (.func (PySem.W.fnOf "_law_with" "_law_with" (Z0g (top 34)) (Z0e (top 34)) (Z03 (top 34)) .none .none .none (.str "law_likepieces_k16_patterns_filled" 524) none (.ref 306) .none)), #[]⟩) ::
 (nat_lit 308, eT) ::
 (nat_lit 311, eC "_law_nodes" 600 601 602 154 1 3 308 309 .none .none 310 603 604) ::
 (nat_lit 312, ⟨(.type "function"), none, (.func (PySem.W.fnOf "_law_nodes" "_law_nodes" (Z0g (top 35)) (Z0e (top 35)) (Z03 (top 35)) .none .none .none (.str "law_likepieces_k16_patterns_filled" 524) none (.ref 311) .none)), #[]⟩) ::
 (nat_lit 313, eT) ::
 (nat_lit 316, eC "_law_same" 606 607 608 156 2 3 313 314 .none .none 315 609 610) ::
 (nat_lit 317, ⟨(.type "function"), none, (.func (PySem.W.fnOf "_law_same" "_law_same" (Z0g (top 36)) (Z0e (top 36)) (Z03 (top 36)) .none .none .none (.str "law_likepieces_k16_patterns_filled" 524) none (.ref 316) .none)), #[]⟩) ::
 (nat_lit 318, eT) ::
 (nat_lit 320, ⟨(.type "tuple"), none, (.seq #[(.str "_law_names_here" 615), (.str "_law_room" 616), (.str "_law_holes" 617), (.str "_law_astray" 618)] 0), #[]⟩) ::
 (nat_lit 321, eT) ::
 (nat_lit 323, eC "_law_world" 612 613 614 162 4 3 318 319 (.ref 320) (.ref 321) 322 619 620) ::
 (nat_lit 324, ⟨(.type "function"), none, (.func (PySem.W.fnOf "_law_world" "_law_world" (Z0g (top 37)) (Z0e (top 37)) (Z03 (top 37)) .none .none .none (.str "law_likepieces_k16_patterns_filled" 524) none (.ref 323) .none)), #[]⟩) ::
 (nat_lit 325, eT) ::
 (nat_lit 327, ⟨(.type "tuple"), none, (.seq #[(.str "_law_feed_here" 625), (.str "_law_world_here" 626), (.str "_law_lets" 627), (.str "_law_way" 628)] 0), #[]⟩) ::
 (nat_lit 328, eT) ::
 (nat_lit 330, eC "_law_leaf" 622 623 624 164 3 3 325 326 (.ref 327) (.ref 328) 329 629 630) ::
 (nat_lit 331, ⟨(.type "function"), none, (.func (PySem.W.fnOf "_law_leaf" "_law_leaf" (Z0g (top 38)) (Z0e (top 38)) (Z03 (top 38)) .none .none .none (.str "law_likepieces_k16_patterns_filled" 524) none (.ref 330) .none)), #[]⟩) ::
 (nat_lit 332, eT) ::
 (nat_lit 335, eC "_law_form" 632 633 634 175 4 3 332 333 .none .none 334 635 636) ::
 (nat_lit 336, ⟨(.type "function"), none, (.func (PySem.W.fnOf "_law_form" "_law_form" (Z0g (top 39)) (Z0e (top 39)) (Z03 (top 39)) .none .none .none (.str "law_likepieces_k16_patterns_filled" 524) none (.ref 335) .none)), #[]⟩) ::
 (nat_lit 337, eT) ::
 (nat_lit 340, eC "_law_dense" 638 639 640 207 2 3 337 338 .none .none 339 641 642) ::
 (nat_lit 341, ⟨(.type "function"), none, (.func (PySem.W.fnOf "_law_dense" "_law_dense" (Z0g (top 40)) (Z0e (top 40)) (Z03 (top 40)) .none .none .none (.str "law_likepieces_k16_patterns_filled" 524) none (.ref 340) .none)), #[]⟩) ::
 (nat_lit 342, eT) ::
 (nat_lit 345, eC "_law_turned_about" 644 645 646 213 2 3 342 343 .none .none 344 647 648) ::
 (nat_lit 346, ⟨(.type "function"), none, (.func (PySem.W.fnOf "_law_turned_about" "_law_turned_about" (Z0g (top 41)) (Z0e (top 41)) (Z03 (top 41)) .none .none .none (.str "law_likepieces_k16_patterns_filled" 524) none (.ref 345) .none)), #[]⟩) ::
 (nat_lit 347, eT) ::
 (nat_lit 350, eC "_law_fill" 650 651 652 217 2 3 347 348 .none .none 349 653 654) ::
 (nat_lit 351, ⟨(.type "function"), none, (.func (PySem.W.fnOf "_law_fill" "_law_fill" (Z0g (top 42)) (Z0e (top 42)) (Z03 (top 42)) .none .none .none (.str "law_likepieces_k16_patterns_filled" 524) none (.ref 350) .none)), #[]⟩) ::
 (nat_lit 352, eT) ::
 (nat_lit 354, ⟨(.type "tuple"), none, (.seq #[(.str "_law_pattern" 659), (.str "_law_fillings" 660), (.str "_law_found" 661), (.str "_law_e" 662)] 0), #[]⟩) ::
 (nat_lit 355, eT) ::
 (nat_lit 357, eC "_law_refused" 656 657 658 221 2 3 352 353 (.ref 354) (.ref 355) 356 663 664) ::
 (nat_lit 358, ⟨(.type "function"), none, (.func (PySem.W.fnOf "_law_refused" "_law_refused" (Z0g (top 43)) (Z0e (top 43)) (Z03 (top 43)) .none .none .none (.str "law_likepieces_k16_patterns_filled" 524) none (.ref 357) .none)), #[]⟩) ::
 (nat_lit 359, eT) ::
 (nat_lit 361, ⟨(.type "tuple"), none, (.seq #[(.str "_law_script" 669), (.str "_law_feed_here" 670), (.str "_law_names_here" 671), (.str "_law_k" 672), (.str "_law_seen" 673), (.str "_law_world_here" 674), (.str "_law_pattern" 675), (.str "_law_fillings" 676), (.str "_law_j" 677), (.str "_law_due" 678), (.str "_law_more" 679)] 0), #[]⟩) ::
 (nat_lit 362, eT) ::
 (nat_lit 364, eC "law" 666 667 668 234 1 3 359 360 (.ref 361) (.ref 362) 363 680 681) ::
 (nat_lit 365, ⟨(.type "function"), none, (.func (PySem.W.fnOf "law" "law" (Z0g (top 44)) (Z0e (top 44)) (Z03 (top 44)) .none .none .none (.str "law_likepieces_k16_patterns_filled" 524) none (.ref 364) .none)), #[]⟩) :: []
def hdA : List Addr := [2, 3, 15, 22, 23, 25, 26, 28, 29, 30, 31, 32, 33, 36, 43, 45, 46, 48, 49, 50, 51, 52, 55, 62, 64, 65, 67, 68, 69, 70, 71, 74, 81, 83, 84, 86, 87, 88, 89, 90, 93, 100, 102, 103, 105, 106, 107, 108, 109, 112, 119, 121, 122, 124, 125, 126, 127, 128, 131, 138, 140, 141, 143, 144, 145, 146, 147, 150, 157, 158, 159, 162, 169, 170, 171, 174, 181, 182, 183, 186, 193, 194, 195, 198, 205, 206, 207, 210, 213, 214, 215, 218, 219, 220, 223, 224, 225, 228, 229, 230, 232, 233, 235, 236, 237, 240, 241, 242, 244, 245, 247, 248, 249, 251, 252, 254, 255, 256, 258, 259, 261, 262, 263, 265, 266, 268, 269, 270, 272, 273, 275, 276, 277, 279, 280, 282, 283, 284, 286, 287, 289, 290, 291, 293, 294, 296, 297, 298, 301, 302, 303, 306, 307, 308, 311, 312, 313, 316, 317, 318, 320, 321, 323, 324, 325, 327, 328, 330, 331, 332, 335, 336, 337, 340, 341, 342, 345, 346, 347, 350, 351, 352, 354, 355, 357, 358, 359, 361, 362, 364, 365]
abbrev hdL : List Str := ["LikeError"]
abbrev hdN : Nat := 7302
abbrev hdH : PySem.W.Hook := PySem.W.kHook hdK hdA (fun _ => by kernel_rfl)
theorem hdS : PySem.Challenge.rw_likepieces_k16_patterns_filled.wellSaid = true := by decide +kernel
set_option maxHeartbeats 0 in
open PySem.W.Fast in
theorem hdT : PySem.W.LeftO (PySem.Challenge.rw_likepieces_k16_patterns_filled).row.toRowW.prog hdQ hdL (fun s => PySem.W.xlAt hdQ [] s && PySem.W.recOk (PySem.W.RowW.records (PySem.Challenge.rw_likepieces_k16_patterns_filled).row.toRowW) s) (PySem.W.Hook.obs hdH) (PySem.W.Hook.val hdH) hdN := by
 intro w
 unfold PySem.W.openEnds PySem.W.fencedOpening PySem.W.topFrom
 rw [te10274390034422433532, te1435165496053646825, te14289696077712309145, te14082659384304107361, te4187177175401517315, te14364793385576792824, te8920871248978507458, te5923862056798008813]
 kernel_rfl
end K16
namespace L2
open PySem PySem.Spec PyProof.Rows
abbrev Key := Sum Int Str
def Zan : Key -> Value -> Bool
 | .inl k, v => Value.isInt k v
 | .inr x, v => Value.isStrOf x v
def Zlj (w : World) : Key -> Int
 | .inl k => hashInt k
 | .inr x => hashStr w x
theorem Z13 : ∀ {k : Key} {v : Value}, Zan k v = true -> (∃ i t, k = Sum.inl i /\ v = Value.int i t) ∨ (∃ x t, k = Sum.inr x /\ v = Value.str x t)
 | .inl i, v, h => by
  obtain ⟨t, e⟩ := Value.isInt_shape (k := i) (v := v) h
  exact .inl ⟨i, t, rfl, e⟩
 | .inr x, v, h => by
  obtain ⟨t, e⟩ := Value.isStrOf_shape (x := x) (v := v) h
  exact .inr ⟨x, t, rfl, e⟩
theorem Zbt (i : Int) (t : Tok) : Zan (.inl i) (.int i t) = true := by simp [Zan, Value.isInt]
theorem Zbu (x : Str) (t : Tok) : Zan (.inr x) (.str x t) = true := by simp [Zan, Value.isStrOf]
theorem Zis (a b : Int) : decide ((Sum.inl a : Key) = Sum.inl b) = (a == b) := by
 by_cases e : a = b
 ·subst e; simp
 ·have h : ¬ (Sum.inl a : Key) = Sum.inl b := fun q => e (Sum.inl.inj q)
  rw [decide_eq_false h]
  exact (beq_eq_false_iff_ne.mpr e).symm
theorem Zit (a b : Str) : decide ((Sum.inr a : Key) = Sum.inr b) = decide (a = b) := by
 by_cases e : a = b
 ·subst e; simp
 ·have h : ¬ (Sum.inr a : Key) = Sum.inr b := fun q => e (Sum.inr.inj q)
  rw [decide_eq_false h, decide_eq_false e]
theorem Ziu (a : Int) (b : Str) : decide ((Sum.inl a : Key) = Sum.inr b) = false := decide_eq_false (fun q => nomatch q)
theorem Ziv (a : Str) (b : Int) : decide ((Sum.inr a : Key) = Sum.inl b) = false := decide_eq_false (fun q => nomatch q)
def Z1d (prog : Program) (w : World) : PySem.KeyKind prog w Key where
 is := Zan
 hash := Zlj w
 inj := fun v a b ha hb => by
  rcases Z13 ha with ⟨i, t, rfl, rfl⟩ | ⟨x, t, rfl, rfl⟩
  ·rcases Z13 hb with ⟨j, u, rfl, e⟩ | ⟨y, u, rfl, e⟩
   ·injection e with e1 _; rw [e1]
   ·exact nomatch e
  ·rcases Z13 hb with ⟨j, u, rfl, e⟩ | ⟨y, u, rfl, e⟩
   ·exact nomatch e
   ·injection e with e1 _; rw [e1]
 byValue := fun k v h => by
  rcases Z13 h with ⟨i, t, rfl, rfl⟩ | ⟨x, t, rfl, rfl⟩ <;> rfl
 pyHash := fun hv h => by
  rcases Z13 hv with ⟨i, t, rfl, rfl⟩ | ⟨x, t, rfl, rfl⟩
  ·exact wpAny_pyHash_int h
  ·exact wpAny_pyHash_str h
 eqBool := fun hu hv h => by
  rcases Z13 hu with ⟨i, t, rfl, rfl⟩ | ⟨x, t, rfl, rfl⟩
  ·rcases Z13 hv with ⟨j, u, rfl, rfl⟩ | ⟨y, u, rfl, rfl⟩
   ·rw [Zis] at h; exact wpAny_eqBool_int h
   ·rw [Ziu] at h; exact SeqAt.EqAt.int_str i t y u _ _ _ _ h
  ·rcases Z13 hv with ⟨j, u, rfl, rfl⟩ | ⟨y, u, rfl, rfl⟩
   ·rw [Ziv] at h; exact SeqAt.EqAt.str_int x t j u _ _ _ _ h
   ·rw [Zit] at h; exact wpAny_eqBool_str h
 «strs» := fun k x t v h => by
  rcases Z13 h with ⟨i, u, rfl, e⟩ | ⟨y, u, rfl, e⟩
  ·exact nomatch e
  ·injection e with e1 _
   subst e1
   cases v <;> rfl
theorem Z8p (prog : Program) (w : World) (i : Int) (t : Tok) : (Z1d prog w).is (.inl i) (.int i t) = true := Zbt i t
theorem Z8q (prog : Program) (w : World) (x : Str) (t : Tok) : (Z1d prog w).is (.inr x) (.str x t) = true := Zbu x t
inductive V where
 | non | bl (b : Bool) | int (i : Int) | str (x : Str) | byt (b : Array UInt8) | flt (b : UInt64) | ref (a : Addr) | ty (n : String)
 deriving DecidableEq
def RelV : V -> Value -> Prop
 | .non, u => u = Value.none
 | .bl b, u => u = Value.bool b
 | .int i, u => ∃ t, u = Value.int i t
 | .str x, u => ∃ t, u = Value.str x t
 | .byt b, u => ∃ t, u = Value.bytes b t
 | .flt b, u => ∃ t, u = Value.float b t
 | .ref a, u => u = Value.ref a
 | .ty n, u => u = Value.type n
abbrev Vals : List V -> List Value -> Prop := Paired RelV
theorem Vals.length {xs : List V} {us : List Value} (r : Vals xs us) : xs.length = us.length := Paired.length r
theorem Vals.get : ∀ {xs : List V} {us : List Value} {i : Nat} {x : V}, Vals xs us -> xs[i]? = some x -> ∃ u, us[i]? = some u /\ RelV x u
 | _, _, _, _, .nil, e => by simp at e
 | _, _, 0, _, .cons r _, e => by simp at e; subst e; exact ⟨_, rfl, r⟩
 | _, _, i + 1, x, .cons _ t, e => by
  obtain ⟨u, h1, h2⟩ := Vals.get (i := i) (x := x) t (by simpa using e)
  exact ⟨u, by simpa using h1, h2⟩
theorem Vals.append : ∀ {xs ys : List V} {us ws : List Value}, Vals xs us -> Vals ys ws -> Vals (xs ++ ys) (us ++ ws)
 | _, _, _, _, .nil, s => s
 | _, _, _, _, .cons r t, s => .cons r (Vals.append t s)
theorem Vals.take : ∀ {xs : List V} {us : List Value} (n : Nat), Vals xs us -> Vals (xs.take n) (us.take n)
 | _, _, 0, _ => .nil
 | _, _, _ + 1, .nil => .nil
 | _, _, n + 1, .cons r t => .cons r (Vals.take n t)
theorem Vals.drop : ∀ {xs : List V} {us : List Value} (n : Nat), Vals xs us -> Vals (xs.drop n) (us.drop n)
 | _, _, 0, r => r
 | _, _, _ + 1, .nil => .nil
 | _, _, n + 1, .cons _ t => Vals.drop n t
def RelO : Option V -> Option Value -> Prop
 | some v, some u => RelV v u
 | none, none => True
 | _, _ => False
def KV {κ : Type} : List (κ × V) -> List (κ × Value) -> Prop := Paired fun (p : κ × V) (q : κ × Value) => p.1 = q.1 /\ RelV p.2 q.2
def kV : Key -> V
 | .inl i => .int i
 | .inr x => .str x
inductive HO where
 | lst (xs : List V)
 | tup (xs : List V)
 | dK (kvs : List (Key × V)) | dT (kvs : List (List Key × V))
 | set (S : Int -> Bool) (n : Nat)
 | ins (C dx : Addr) (fs : List (Str × V))
 | own (x : Addr)
 | xd (fs : List (Str × V))
 | met (f x : Addr)
 | rng (lo hi : Int)
 | frz (o : Obj) (u : HO)
 | tbl (ps : Array Value)
 | ext (φ : Heap -> Prop)
abbrev Hp := Addr -> Option HO
def upd (H : Hp) (a : Addr) (o : HO) : Hp := fun b => if b = a then some o else H b
theorem Z01 {H : Hp} {a : Addr} {o : HO} : upd H a o a = some o := by unfold upd; rw [if_pos rfl]
theorem Z0c {H : Hp} {a b : Addr} {o : HO} (h : b ≠ a) : upd H a o b = H b := by unfold upd; rw [if_neg h]
theorem Z44 {H : Hp} {a b : Addr} {o u : HO} (h : H a = some o) (h' : H b = some u) (d : o ≠ u) : a ≠ b := by
 intro e; subst e; rw [h] at h'; exact d (Option.some.inj h')
theorem Z0h {H : Hp} {a b : Addr} {o : HO} (h : H a = some o) (h' : H b = none) : a ≠ b := by
 intro e; subst e; rw [h] at h'; cases h'
section
variable (P : Program) (w : World)
def ObjOk (H : Hp) (h : Heap) (a : Addr) : HO -> Prop
 | .lst xs => xs.length <= sizeLine /\ ∃ (its : List Value) (n : Nat), Vals xs its /\ h.get? a = some { cls := .type "list", data := .seq its.toArray n }
 | .tup xs => xs.length <= sizeLine /\ ∃ its : List Value, Vals xs its /\ IsTup h a its.toArray
 | .dK kvs => kvs.length <= sizeLine /\ (a == sysModules) = false /\ ∃ vs, KV kvs vs /\ h.DictOf (Z1d P w) a vs
 | .dT kvs => kvs.length <= sizeLine /\ (a == sysModules) = false /\ ∃ xs : List (List Key × Addr × Value),
   Paired (fun (p : List Key × V) (q : List Key × Addr × Value) => p.1 = q.1 /\ H q.2.1 = some (.tup (p.1.map kV)) /\ RelV p.2 q.2.2) kvs xs ∧
   ∃ o es ep, h.get? a = some o /\ o.ExactDict /\ o.data = .dict es ep /\ es.toList = xs.map (entryOfKey (tupleKind (Z1d P w))) /\ (xs.map (·.1)).Nodup
 | .set S n => h.SetOf (intKind P w) a S n
 | .ins C dx fs => H dx = some (.own a) /\ fs.length <= 1000 /\ dx ≠ a /\ h.get? a = some (PySem.W.instObj C dx) ∧
   ∃ mA, h.Ns1 dx mA /\ (∀ f, RelO (fs.lookup f) (mA f)) /\ PySem.Within mA (fs.map (·.1))
 | .own _ => ∃ o, h.get? a = some o
 | .xd fs => ∃ mA, h.Ns1 a mA /\ ∀ f, RelO (fs.lookup f) (mA f)
 | .rng lo hi => ∃ t u v, h.get? a = some { cls := .type "range", data := .fields #[.int lo t, .int hi u, .int 1 v] }
 | .frz o u => h.get? a = some o /\ ObjOk H h a u
 | .tbl ps => h.get? a = some { cls := .none, data := .fields ps }
 | .met f x => h.get? a = some (PySem.W.methodObj (.ref f) (.ref x))
 | .ext φ => φ h /\ (∃ o, h.get? a = some o) /\ ∀ h1 h2 : Heap, φ h1 -> (∀ o, h1.get? a = some o -> h2.get? a = some o) -> φ h2
def HOk (H : Hp) (h : Heap) : Prop := ∀ a o, H a = some o -> ObjOk P w H h a o
end
section
variable {P : Program} {w : World} {H H' : Hp} {h h' : Heap} {a : Addr} {o : HO}
theorem ObjOk.lt (x : ObjOk P w H h a o) : a < h.objs.size := by
 cases o with
 | lst xs => obtain ⟨_, _, _, _, e⟩ := x; exact Heap.lt_size e
 | tup xs => obtain ⟨_, _, _, p⟩ := x; exact p.lt
 | dK kvs => obtain ⟨_, _, _, _, o, _, _, e, _⟩ := x; exact Heap.lt_size e
 | dT kvs => obtain ⟨_, _, _, _, o, _, _, e, _⟩ := x; exact Heap.lt_size e
 | set S n => obtain ⟨o, _, _, _, e, _⟩ := x; exact Heap.lt_size e
 | ins C dx fs => obtain ⟨_, _, _, e, _⟩ := x; exact Heap.lt_size e
 | own y => obtain ⟨_, e⟩ := x; exact Heap.lt_size e
 | xd fs => obtain ⟨_, ⟨_, _, _, e, _⟩, _⟩ := x; exact Heap.lt_size e
 | rng lo hi => obtain ⟨_, _, _, e⟩ := x; exact Heap.lt_size e
 | frz ob u => obtain ⟨e, _⟩ := x; exact Heap.lt_size e
 | tbl ps => exact Heap.lt_size (show h.get? a = some _ from x)
 | met f y => exact Heap.lt_size (show h.get? a = some _ from x)
 | ext φ => obtain ⟨_, ⟨_, e⟩, _⟩ := x; exact Heap.lt_size e
theorem Paired.mapP {α β : Type} {F G : α -> β -> Prop} : ∀ {l₁ : List α} {l₂ : List β}, Paired F l₁ l₂ -> (∀ a b, F a b -> G a b) -> Paired G l₁ l₂
 | _, _, .nil, _ => .nil
 | _, _, .cons r t, f => .cons (f _ _ r) (Paired.mapP t f)
theorem ObjOk.stay (x : ObjOk P w H h a o) (k : ∀ b u, (b = a ∨ H b = some (.own a)) -> h.get? b = some u -> h'.get? b = some u)
  (ho : ∀ b, H b = some (.own a) -> H' b = some (.own a)) (ht : ∀ b xs, H b = some (.tup xs) -> H' b = some (.tup xs)) : ObjOk P w H' h' a o := by
 induction o with
 | lst xs => obtain ⟨z, its, n, r, e⟩ := x; exact ⟨z, its, n, r, k _ _ (.inl rfl) e⟩
 | tup xs => obtain ⟨z, its, r, ob, e, c⟩ := x; exact ⟨z, its, r, ob, k _ _ (.inl rfl) e, c⟩
 | dK kvs => obtain ⟨z, y, vs, r, ob, es, ep, e, c⟩ := x; exact ⟨z, y, vs, r, ob, es, ep, k _ _ (.inl rfl) e, c⟩
 | dT kvs =>
  obtain ⟨z, y, xs, r, ob, es, ep, e, c⟩ := x
  exact ⟨z, y, xs, Paired.mapP r fun p q z => ⟨z.1, ht _ _ z.2.1, z.2.2⟩, ob, es, ep, k _ _ (.inl rfl) e, c⟩
 | set S n => obtain ⟨ob, es, ep, t, e, c⟩ := x; exact ⟨ob, es, ep, t, k _ _ (.inl rfl) e, c⟩
 | ins C dx fs =>
  obtain ⟨d, z, ne, e, mA, ⟨od, es, ep, e2, c⟩, r⟩ := x
  exact ⟨ho _ d, z, ne, k _ _ (.inl rfl) e, mA, ⟨od, es, ep, k _ _ (.inr d) e2, c⟩, r⟩
 | own y => obtain ⟨ob, e⟩ := x; exact ⟨ob, k _ _ (.inl rfl) e⟩
 | xd fs => obtain ⟨mA, ⟨od, es, ep, e, c⟩, r⟩ := x; exact ⟨mA, ⟨od, es, ep, k _ _ (.inl rfl) e, c⟩, r⟩
 | rng lo hi => obtain ⟨t, u, v, e⟩ := x; exact ⟨t, u, v, k _ _ (.inl rfl) e⟩
 | frz ob u ih => obtain ⟨e, q⟩ := x; exact ⟨k _ _ (.inl rfl) e, ih q⟩
 | tbl ps =>
  have e : h.get? a = some { cls := .none, data := .fields ps } := x
  show h'.get? a = some { cls := .none, data := .fields ps }
  exact k a _ (.inl rfl) e
 | met f y =>
  have e : h.get? a = some (PySem.W.methodObj (.ref f) (.ref y)) := x
  show h'.get? a = some (PySem.W.methodObj (.ref f) (.ref y))
  exact k a _ (.inl rfl) e
 | ext φ => obtain ⟨p, ⟨o, e⟩, st⟩ := x; exact ⟨st _ _ p fun o q => k _ _ (.inl rfl) q, ⟨o, k _ _ (.inl rfl) e⟩, st⟩
theorem HOk.lt (x : HOk P w H h) (e : H a = some o) : a < h.objs.size := (x a o e).lt
theorem HOk.fresh (x : HOk P w H h) (e : h.objs.size <= a) : H a = none := by
 cases q : H a with
 | none => rfl
 | some u => exact absurd (Nat.lt_of_lt_of_le (x.lt q) e) (Nat.lt_irrefl _)
theorem HOk.kept (x : HOk P w H h) (k : ∀ b u, h.get? b = some u -> h'.get? b = some u) : HOk P w H h' := fun a o e =>
 (x a o e).stay (fun b u _ q => k b u q) (fun _ q => q) fun _ _ q => q
theorem HOk.laid (x : HOk P w H h) (k : ∀ b u, h.get? b = some u -> h'.get? b = some u) (hp : h.objs.size <= a) (new : ObjOk P w (upd H a o) h' a o) : HOk P w (upd H a o) h' := fun b u e => by
 have hn := x.fresh hp
 by_cases hb : b = a
 ·subst hb; rw [Z01] at e; cases e; exact new
 ·rw [Z0c hb] at e
  exact (x b u e).stay (fun c v _ q => k c v q) (fun c q => by rw [Z0c (Z0h q hn)]; exact q) fun c xs q => by rw [Z0c (Z0h q hn)]; exact q
end
def Rd (H : Hp) (a : Addr) (u : HO) : Prop := H a = some u ∨ ∃ o, H a = some (.frz o u)
theorem Rd.ok {P : Program} {w : World} {H : Hp} {h : Heap} {a : Addr} {u : HO} (r : Rd H a u) (x : HOk P w H h) : ObjOk P w H h a u := by
 rcases r with r | ⟨o, r⟩
 ·exact x a u r
 ·obtain ⟨_, q⟩ := x a _ r
  exact q
def Mut : Option HO -> Prop
 | some (.lst _) => True
 | some (.dK _) => True
 | some (.dT _) => True
 | some (.set _ _) => True
 | some (.ins _ _ _) => True
 | some (.ext _) => True
 | _ => False
section
variable {P : Program} {w : World} {H : Hp} {h h' : Heap} {x e : Addr} {o' : HO}
theorem HOk.write (ok : HOk P w H h) (mu : Mut (H x)) (he : e = x ∨ H e = some (.own x)) (k : ∀ b u, b ≠ e -> h.get? b = some u -> h'.get? b = some u) (heo : ∃ u, h'.get? e = some u)
  (new : ObjOk P w (upd H x o') h' x o') : HOk P w (upd H x o') h' := fun b u q => by
 have nown : ∀ c y, H c = some (.own y) -> c ≠ x := fun c y r z => by subst z; rw [r] at mu; exact mu
 have ntup : ∀ c xs, H c = some (.tup xs) -> c ≠ x := fun c xs r z => by subst z; rw [r] at mu; exact mu
 by_cases hb : b = x
 ·subst hb; rw [Z01] at q; cases q; exact new
 ·rw [Z0c hb] at q
  by_cases hbe : b = e
  ·have q' : H b = some (.own x) := by
    rcases he with z | z
    ·exact absurd (hbe.trans z) hb
    ·rw [hbe]; exact z
   rw [q] at q'; cases q'
   obtain ⟨v, hv⟩ := heo
   exact ⟨v, by rw [hbe]; exact hv⟩
  ·refine (ok b u q).stay (fun c v hc r => k c v ?_ r) (fun c r => by rw [Z0c (nown c b r)]; exact r) fun c xs r => by rw [Z0c (ntup c xs r)]; exact r
   rcases hc with rfl | hc
   ·exact hbe
   ·rintro rfl
    rcases he with z | z
    ·exact nown c b hc z
    ·rw [hc] at z; cases z; exact hb rfl
end
structure Un (fs ex : List Addr) (H H' : Hp) (h h' : Heap) : Prop where
 keep : ∀ b o, h.get? b = some o -> H b = none -> b ∉ fs -> b ∉ ex -> h'.get? b = some o
 slot : ∀ b o, h.get? b = some o -> H b = none -> b ∈ fs -> b ∉ ex -> ∃ sl, h'.get? b = some { o with slots := sl }
 free : ∀ b o, h.get? b = some o -> H b = none -> b ∉ ex -> H' b = none
 there : ∀ b o, h.get? b = some o -> b ∉ ex -> ∃ o', h'.get? b = some o'
 tups : ∀ b xs, H b = some (.tup xs) -> H' b = some (.tup xs)
 frzs : ∀ b o u, H b = some (.frz o u) -> H' b = some (.frz o u)
 tbls : ∀ b ps, H b = some (.tbl ps) -> ∃ more, H' b = some (.tbl (ps ++ more))
section
variable {fs fs' ex ex' : List Addr} {H H1 H2 : Hp} {h h1 h2 h' : Heap} {a x e : Addr} {o : HO}
theorem Un.any (u : Un fs ex H H1 h h1) {b : Addr} {ob : Obj} (q : h.get? b = some ob) (n : H b = none) (hx : b ∉ ex) : ∃ sl, h1.get? b = some { ob with slots := sl } := by
 by_cases hb : b ∈ fs
 ·exact u.slot b ob q n hb hx
 ·exact ⟨ob.slots, u.keep b ob q n hb hx⟩
theorem Un.kept (k : ∀ b u, h.get? b = some u -> h'.get? b = some u) : Un fs ex H H h h' :=
 ⟨fun b ob q _ _ _ => k b ob q, fun b ob q _ _ _ => ⟨ob.slots, k b ob q⟩, fun _ _ _ n _ => n, fun b ob q _ => ⟨ob, k b ob q⟩, fun _ _ q => q, fun _ _ _ q => q, fun _ ps q => ⟨#[], by rw [q]; simp⟩⟩
theorem Un.refl : Un fs ex H H h h := Un.kept fun _ _ q => q
theorem Un.laid (k : ∀ b u, h.get? b = some u -> h'.get? b = some u) (hp : h.objs.size <= a) (hn : H a = none) : Un fs ex H (upd H a o) h h' where
 keep := fun b u q _ _ _ => k b u q
 slot := fun b u q _ _ _ => ⟨u.slots, k b u q⟩
 free := fun b u q n _ => by rw [Z0c (Nat.ne_of_lt (Nat.lt_of_lt_of_le (Heap.lt_size q) hp))]; exact n
 there := fun b u q _ => ⟨u, k b u q⟩
 tups := fun b xs q => by rw [Z0c (Z0h q hn)]; exact q
 frzs := fun b u xs q => by rw [Z0c (Z0h q hn)]; exact q
 tbls := fun b ps q => ⟨#[], by rw [Z0c (Z0h q hn), q]; simp⟩
theorem Un.write (mu : Mut (H x)) (he : e = x ∨ H e = some (.own x)) (k : ∀ b u, b ≠ e -> h.get? b = some u -> h'.get? b = some u) (heo : ∃ u, h'.get? e = some u) : Un fs ex H (upd H x o) h h' := by
 have hx : ∀ b, H b = none -> b ≠ x := fun b n z => by subst z; rw [n] at mu; exact mu
 have hb : ∀ b, H b = none -> b ≠ e := fun b n z => by
  subst z
  rcases he with r | r
  ·exact hx b n r
  ·rw [n] at r; cases r
 have hm : ∀ b u, H b = some u -> ¬ Mut (some u) -> b ≠ x := fun b u q nm z => by subst z; rw [q] at mu; exact nm mu
 refine ⟨fun b u q n _ _ => k b u (hb b n) q, fun b u q n _ _ => ⟨u.slots, k b u (hb b n) q⟩, fun b u q n _ => by rw [Z0c (hx b n)]; exact n, fun b u q _ => ?_,
  fun b xs q => by rw [Z0c (hm b _ q fun z => z)]; exact q, fun b u xs q => by rw [Z0c (hm b _ q fun z => z)]; exact q, fun b ps q => ⟨#[], by rw [Z0c (hm b _ q fun z => z), q]; simp⟩⟩
 by_cases hbe : b = e
 ·subst hbe; exact heo
 ·exact ⟨u, k b u hbe q⟩
end
def trk (h : Heap) (H : Hp) : List Addr := (List.range h.objs.size).filter fun a => (H a).isSome
def Zel (h : Heap) (H : Hp) : Heap := PySem.W.hideAll h (trk h H)
theorem Zbv (h : Heap) (H : Hp) : (Zel h H).objs.size = h.objs.size := PySem.W.hideAll_size _ _
theorem Zem {h : Heap} {H : Hp} {b : Addr} {o : Obj} (e : h.get? b = some o) (n : H b = none) : (Zel h H).get? b = some o :=
 PySem.W.hideAll_get _ e fun hm => by
  have q : (H b).isSome = true := (List.mem_filter.mp hm).2
  rw [n] at q; simp at q
theorem Zgx {h : Heap} {H : Hp} {b : Addr} {o : Obj} (e : (Zel h H).get? b = some o) : h.get? b = some o /\ H b = none := by
 have e' : h.get? b = some o := PySem.W.of_hideAll (trk h H) e
 refine ⟨e', ?_⟩
 cases q : H b with
 | none => rfl
 | some x =>
  have hm : b ∈ trk h H := List.mem_filter.mpr ⟨List.mem_range.mpr (Heap.lt_size e'), by simp [q]⟩
  have z : (Zel h H).get? b = none := PySem.W.hideAll_none (trk h H) hm
  rw [z] at e; cases e
structure Mod (K : PySem.W.Frag) (mg : Str -> Option Value) (base : Heap) : Prop where
 kin : K.In base
 glob : base.Ns mainGlobals mg
 blt : ∃ mb, base.Ns builtinsNs mb /\ ∀ x : Str, x ≠ "__name__" -> mb x = bootBuiltins x
 nolimit : base.NoLimit
structure Cx where
 prog : Program
 w : World
 K : PySem.W.Frag
 mg : Str -> Option Value
 base : Heap
 A : Around
 N : List Str
 s₀ : Shared
 H₀ : Hp
 env : Env
 outer : List Env
 stack : List Env
 ex : List Addr
 fn : Str -> Bool
 calm : Bool
 pn : List (Addr × Obj)
 xe : Value -> Shared -> Prop
def frs (l : List Env) : List Addr := l.filterMap (·.frame)
abbrev Cx.fs (X : Cx) : List Addr := frs X.outer
def Vis (sc : Scope) (x : Str) : Prop := sc.names.lookup x = some .local ∨ sc.names.lookup x = some .cell ∨ sc.names.lookup x = some .free
def Loc (sc : Scope) (x : Str) : Prop := sc.names.lookup x = some .local ∨ sc.names.lookup x = some .cell
def Zlk (env : Env) (h : Heap) (m : Str -> Option Value) (x : Str) (u : Value) : Prop :=
 (env.kindOf x = some .local /\ m x = some u) ∨ ((env.kindOf x = some .cell ∨ env.kindOf x = some .free) /\ ∃ c, env.cells.lookup x = some c /\ h.IsCell c (some u))
structure Cx.Ok (X : Cx) : Prop where
 mod : Mod X.K X.mg X.base
 kind : X.env.scope.kind = .function
 glob : X.env.globals = mainGlobals
 blt : X.env.builtins = builtinsNs
 above : X.s₀.heap.objs.size <= X.env.locals
 inj : ∀ x y c, X.env.cells.lookup x = some c -> X.env.cells.lookup y = some c -> x = y
 has : ∀ x, (X.env.kindOf x = some .cell ∨ X.env.kindOf x = some .free) -> ∃ c, X.env.cells.lookup x = some c
 cab : ∀ x c, X.fn x = true -> X.env.cells.lookup x = some c -> X.s₀.heap.objs.size <= c
 hd : X.calm = true -> X.A.handled = none
 frames : X.A.frames = some X.stack
 stk : X.stack = X.outer ∨ (X.stack = X.env :: X.outer /\ X.env.frame = some X.env.locals)
 exf : ∀ b ∈ X.ex, b ≠ X.env.locals /\ ∀ x c, X.env.cells.lookup x = some c -> c ≠ b
 bs : ∀ b o, X.base.get? b = some o -> X.s₀.heap.get? b = some o /\ X.H₀ b = none
 bsz : X.base.objs.size <= X.s₀.heap.objs.size
 noex : ∀ b o, X.base.get? b = some o -> b ∉ X.ex
 exfs : ∀ b ∈ X.ex, b ∉ X.fs
 funs : X.s₀.heap.FunFrames X.base X.outer
 frf : ∀ b ∈ X.fs, X.H₀ b = none
structure Inv (X : Cx) (pins : List (Addr × Obj)) (σ : List (Option V)) (H : Hp) (s : Shared) : Prop where
 ok : X.Ok
 os : s.os = X.s₀.os
 bare : AllBare s.gens
 base : Un X.fs X.ex X.H₀ H X.s₀.heap s.heap
 loc : ∃ m, s.heap.Ns X.env.locals m /\ ∀ (i : Nat) (x : Str) (v : V), X.N[i]? = some x -> σ[i]? = some (some v) -> Vis X.env.scope x -> ∃ u, RelV v u /\ Zlk X.env s.heap m x u
 cell : ∀ x c, X.env.cells.lookup x = some c -> ∃ v, s.heap.IsCell c v
 free : H X.env.locals = none
 freeC : ∀ x c, X.env.cells.lookup x = some c -> H c = none
 pin : ∀ p ∈ X.pn ++ pins, s.heap.get? p.1 = some p.2 /\ H p.1 = none /\ p.1 ≠ X.env.locals /\ p.1 ∉ X.fs /\ ∀ v, p.2.data ≠ .cell v
 hok : HOk X.prog X.w H s.heap
 len : σ.length = X.N.length
section
variable {X : Cx} {pins : List (Addr × Obj)} {σ : List (Option V)} {H H' : Hp} {s : Shared} {h' : Heap}
theorem Cx.Ok.nofr (ok : X.Ok) {b : Addr} {o : Obj} (e : X.base.get? b = some o) : b ∉ X.fs := fun hb => by
 have := (ok.funs.mem hb).1
 rw [e] at this; cases this
theorem Inv.bs (I : Inv X pins σ H s) : ∀ b o, X.base.get? b = some o -> s.heap.get? b = some o /\ H b = none := fun b o e =>
 ⟨I.base.keep b o (I.ok.bs b o e).1 (I.ok.bs b o e).2 (I.ok.nofr e) (I.ok.noex b o e), I.base.free b o (I.ok.bs b o e).1 (I.ok.bs b o e).2 (I.ok.noex b o e)⟩
theorem Inv.bk (I : Inv X pins σ H s) : ∀ b o, X.base.get? b = some o -> s.heap.get? b = some o := fun b o e => (I.bs b o e).1
theorem Inv.mod (I : Inv X pins σ H s) : Mod X.K X.mg X.base := I.ok.mod
theorem Inv.kIn (I : Inv X pins σ H s) : X.K.In s.heap := I.ok.mod.kin.keeps I.bk
theorem Inv.fr (I : Inv X pins σ H s) : ∃ m, Fr X.base X.env.locals s.heap m :=
 let ⟨m, hn, _⟩ := I.loc
 ⟨m, hn, I.bk, Nat.le_trans I.ok.bsz I.ok.above⟩
theorem Inv.lt (I : Inv X pins σ H s) : X.env.locals < s.heap.objs.size := let ⟨_, hn, _⟩ := I.loc; hn.lt
theorem Inv.sz (I : Inv X pins σ H s) : X.s₀.heap.objs.size <= s.heap.objs.size := Nat.le_trans I.ok.above (Nat.le_of_lt I.lt)
theorem Inv.nofs (I : Inv X pins σ H s) {a : Addr} (h : s.heap.objs.size <= a) : a ∉ X.fs := fun hb => by
 obtain ⟨_, o, ho, _⟩ := I.ok.funs.mem hb
 exact absurd (Nat.lt_of_lt_of_le (Heap.lt_size ho) (Nat.le_trans I.sz h)) (Nat.lt_irrefl _)
theorem Inv.cne (I : Inv X pins σ H s) : ∀ x c, X.env.cells.lookup x = some c -> c ≠ X.env.locals := fun x c e z => by
 obtain ⟨v, o, ho, hd⟩ := I.cell x c e
 obtain ⟨m, ⟨o', es, ep, ho', hd', _⟩, _⟩ := I.loc
 rw [z, ho'] at ho; cases ho; rw [hd'] at hd; cases hd
theorem Inv.funs (I : Inv X pins σ H s) : s.heap.FunFrames X.base X.outer := by
 have all : ∀ (l : List Env), (∀ b ∈ frs l, b ∈ X.fs) -> X.s₀.heap.FunFrames X.base l -> s.heap.FunFrames X.base l := by
  intro l
  induction l with
  | nil => intro _ _; trivial
  | cons env r ih =>
   intro hs hl
   obtain ⟨hk, ⟨L, o, hf, hn, ho, hd⟩, hr⟩ := hl
   have hL : L ∈ X.fs := hs L (by unfold frs; rw [List.filterMap_cons, hf]; exact List.mem_cons_self)
   obtain ⟨sl, e⟩ := I.base.slot L o ho (I.ok.frf L hL) hL fun z => I.ok.exfs L z hL
   exact ⟨hk, ⟨L, _, hf, hn, e, hd⟩, ih (fun b hb => hs b (by unfold frs; rw [List.filterMap_cons, hf]; exact List.mem_cons_of_mem _ hb)) hr⟩
 exact all X.outer (fun _ hb => hb) I.ok.funs
theorem Inv.stack (I : Inv X pins σ H s) : s.heap.FunFrames X.base X.stack := by
 rcases I.ok.stk with e | ⟨e, hf⟩
 ·rw [e]; exact I.funs
 ·rw [e]
  obtain ⟨m, hn, _⟩ := I.loc
  refine .cons (by rw [I.ok.kind]; decide) hf hn ?_ I.funs
  exact Heap.get?_none_of_le (Nat.le_trans I.ok.bsz I.ok.above)
theorem Inv.stkSub (I : Inv X pins σ H s) : ∀ b ∈ frs X.stack, b ∈ X.env.locals :: X.fs := fun b hb => by
 rcases I.ok.stk with e | ⟨e, hf⟩
 ·rw [e] at hb; exact List.mem_cons_of_mem _ hb
 ·rw [e] at hb
  unfold frs at hb
  rw [List.filterMap_cons, hf] at hb
  exact hb
theorem Inv.stkFree (I : Inv X pins σ H s) : ∀ b ∈ frs X.stack, H b = none := fun b hb => by
 rcases List.mem_cons.mp (I.stkSub b hb) with e | hb
 ·rw [e]; exact I.free
 ·obtain ⟨_, o, ho, _⟩ := I.ok.funs.mem hb
  exact I.base.free b o ho (I.ok.frf b hb) fun z => I.ok.exfs b z hb
theorem Inv.step {g' : Array GenState} {t' : Nat} {d' : Drawn} {ch : List Addr} (I : Inv X pins σ H s)
  (hch : ∀ b ∈ ch, (b ∈ X.ex ∨ X.s₀.heap.objs.size <= b) /\ b ≠ X.env.locals /\ (∀ x c, X.env.cells.lookup x = some c -> c ≠ b) /\ ∀ p ∈ X.pn ++ pins, p.1 ≠ b)
  (keep : ∀ b o, b ≠ X.env.locals -> b ∉ X.fs -> b ∉ ch -> s.heap.get? b = some o -> H b = none -> h'.get? b = some o)
  (slot : ∀ b o, b ≠ X.env.locals -> b ∈ X.fs -> b ∉ ch -> s.heap.get? b = some o -> H b = none -> ∃ sl, h'.get? b = some { o with slots := sl }) (free : ∀ b o, b ∉ ch -> s.heap.get? b = some o -> H b = none -> H' b = none)
  (there : ∀ b o, b ∉ ch -> s.heap.get? b = some o -> ∃ o', h'.get? b = some o')
  (tups : ∀ b xs, H b = some (.tup xs) -> H' b = some (.tup xs)) (frzs : ∀ b o u, H b = some (.frz o u) -> H' b = some (.frz o u)) (tbls : ∀ b ps, H b = some (.tbl ps) -> ∃ more, H' b = some (.tbl (ps ++ more)))
  (ns : ∀ m, s.heap.Ns X.env.locals m -> h'.Ns X.env.locals m) (hok : HOk X.prog X.w H' h') (hg : AllBare g') :
  Inv X pins σ H' { s with heap := h', gens := g', drawn := d', toks := t' } := by
 have neL : ∀ b o, X.s₀.heap.get? b = some o -> b ≠ X.env.locals := fun b o e => Nat.ne_of_lt (Nat.lt_of_lt_of_le (Heap.lt_size e) I.ok.above)
 have neC : ∀ b o, X.s₀.heap.get? b = some o -> b ∉ X.ex -> b ∉ ch := fun b o e hx hb => by
  rcases (hch b hb).1 with z | z
  ·exact hx z
  ·exact absurd (Nat.lt_of_lt_of_le (Heap.lt_size e) z) (Nat.lt_irrefl _)
 have cellK : ∀ x c, X.env.cells.lookup x = some c -> ∀ v, s.heap.IsCell c v -> h'.IsCell c v := fun x c e v ⟨o, ho, hd⟩ => by
  have nch : c ∉ ch := fun z => (hch c z).2.2.1 x c e rfl
  by_cases hc : c ∈ X.fs
  ·obtain ⟨sl, q⟩ := slot c o (I.cne x c e) hc nch ho (I.freeC x c e)
   exact ⟨_, q, hd⟩
  ·exact ⟨o, keep c o (I.cne x c e) hc nch ho (I.freeC x c e), hd⟩
 refine ⟨I.ok, I.os, hg, ⟨fun b o e n hb hx => ?_, fun b o e n hb hx => ?_, fun b o e n hx => ?_, fun b o e hx => ?_, fun b xs e => tups b xs (I.base.tups b xs e), fun b o xs e => frzs b o xs (I.base.frzs b o xs e), fun b ps e => ?_⟩, ?_, fun x c e => ?_, ?_, fun x c e => ?_, fun p hp => ?_, hok, I.len⟩
 ·exact keep b o (neL b o e) hb (neC b o e hx) (I.base.keep b o e n hb hx) (I.base.free b o e n hx)
 ·obtain ⟨sl, e1⟩ := I.base.slot b o e n hb hx
  obtain ⟨sl', e2⟩ := slot b _ (neL b o e) hb (neC b o e hx) e1 (I.base.free b o e n hx)
  exact ⟨sl', e2⟩
 ·obtain ⟨o', e1⟩ := I.base.there b o e hx
  exact free b o' (neC b o e hx) e1 (I.base.free b o e n hx)
 ·obtain ⟨o', e1⟩ := I.base.there b o e hx
  exact there b o' (neC b o e hx) e1
 ·obtain ⟨m1, e1⟩ := I.base.tbls b ps e
  obtain ⟨m2, e2⟩ := tbls b _ e1
  exact ⟨m1 ++ m2, by rw [e2, Array.append_assoc]⟩
 ·obtain ⟨m, hn, hl⟩ := I.loc
  refine ⟨m, ns m hn, fun i x v e1 e2 e3 => ?_⟩
  obtain ⟨u, r, l⟩ := hl i x v e1 e2 e3
  refine ⟨u, r, ?_⟩
  rcases l with l | ⟨k, c, e, z⟩
  ·exact .inl l
  ·exact .inr ⟨k, c, e, cellK x c e _ z⟩
 ·obtain ⟨v, z⟩ := I.cell x c e
  exact ⟨v, cellK x c e v z⟩
 ·obtain ⟨m, ⟨o, _, _, ho, _⟩, _⟩ := I.loc
  exact free _ o (fun z => (hch _ z).2.1 rfl) ho I.free
 ·obtain ⟨v, o, ho, hd⟩ := I.cell x c e
  exact free c o (fun z => (hch c z).2.2.1 x c e rfl) ho (I.freeC x c e)
 ·obtain ⟨e, n, ne, nf, d⟩ := I.pin p hp
  have nch : p.1 ∉ ch := fun z => (hch p.1 z).2.2.2 p hp rfl
  exact ⟨keep p.1 p.2 ne nf nch e n, free p.1 p.2 nch e n, ne, nf, d⟩
theorem Inv.un {t' : Nat} (I : Inv X pins σ H s) (u : Un X.fs [] H H' s.heap h') (hok : HOk X.prog X.w H' h') : Inv X pins σ H' { s with heap := h', toks := t' } := by
 obtain ⟨m, ⟨o, es, ep, ho, r⟩, _⟩ := id I.loc
 obtain ⟨sl, hL⟩ := u.any ho I.free (by simp)
 exact I.step (g' := s.gens) (d' := s.drawn) (ch := []) (fun _ z => nomatch z) (fun b o _ hb _ e n => u.keep b o e n hb (by simp)) (fun b o _ hb _ e n => u.slot b o e n hb (by simp)) (fun b o _ e n => u.free b o e n (by simp)) (fun b o _ e => u.there b o e (by simp)) u.tups u.frzs u.tbls (fun m' hm => by
  obtain ⟨o', es', ep', ho', r'⟩ := hm
  rw [ho] at ho'; cases ho'
  exact ⟨_, es', ep', hL, r'⟩) hok I.bare
theorem Inv.call {g' : Array GenState} {t' : Nat} {d' : Drawn} {ch : List Addr} (I : Inv X pins σ H s) (u : Un (frs X.stack) ch H H' s.heap h') (hok : HOk X.prog X.w H' h') (hg : AllBare g')
  (hch : ∀ b ∈ ch, (b ∈ X.ex ∨ X.s₀.heap.objs.size <= b) /\ b ≠ X.env.locals /\ (∀ x c, X.env.cells.lookup x = some c -> c ≠ b) /\ ∀ p ∈ X.pn ++ pins, p.1 ≠ b) :
  Inv X pins σ H' { s with heap := h', gens := g', drawn := d', toks := t' } := by
 obtain ⟨m, ⟨o, es, ep, ho, r⟩, _⟩ := id I.loc
 obtain ⟨sl, hL⟩ := u.any ho I.free fun z => (hch _ z).2.1 rfl
 exact I.step (ch := ch) hch (fun b o hL hb hc e n => u.keep b o e n (fun z => (List.mem_cons.mp (I.stkSub b z)).elim hL hb) hc) (fun b o _ _ hc e n => u.any e n hc) (fun b o hc e n => u.free b o e n hc) (fun b o hc e => u.there b o e hc) u.tups u.frzs u.tbls (fun m' hm => by
  obtain ⟨o', es', ep', ho', r'⟩ := hm
  rw [ho] at ho'; cases ho'
  exact ⟨_, es', ep', hL, r'⟩) hok hg
theorem Inv.turned {t' : Nat} {it : Addr} (I : Inv X pins σ H s) (k : ∀ b o, b ≠ it -> s.heap.get? b = some o -> h'.get? b = some o) (hn : H it = none) (hL : it ≠ X.env.locals)
  (h1 : it ∈ X.ex ∨ X.s₀.heap.objs.size <= it) (h2 : ∀ x c, X.env.cells.lookup x = some c -> c ≠ it) (h3 : ∀ p ∈ X.pn ++ pins, p.1 ≠ it) : Inv X pins σ H { s with heap := h', toks := t' } := by
 have nit : ∀ b u, H b = some u -> b ≠ it := fun b u e z => by rw [z, hn] at e; cases e
 refine I.step (g' := s.gens) (d' := s.drawn) (ch := [it]) (fun b hb => ?_) (fun b o _ _ hc e _ => k b o (fun z => hc (by simp [z])) e) (fun b o _ _ hc e _ => ⟨o.slots, k b o (fun z => hc (by simp [z])) e⟩) (fun _ _ _ _ n => n)
  (fun b o hc e => ⟨o, k b o (fun z => hc (by simp [z])) e⟩) (fun _ _ e => e) (fun _ _ _ e => e) (fun b ps e => ⟨#[], by rw [e]; simp⟩) (fun m hm => ?_) (fun b u e => ?_) I.bare
 ·have e : b = it := by simpa using hb
  subst e
  exact ⟨h1, hL, h2, h3⟩
 ·obtain ⟨o, es, ep, ho, r⟩ := hm
  exact ⟨o, es, ep, k _ o (Ne.symm hL) ho, r⟩
 ·refine (I.hok b u e).stay (fun c v hc q => k c v ?_ q) (fun _ q => q) fun _ _ q => q
  rcases hc with z | z
  ·rw [z]; exact nit b u e
  ·exact nit c _ z
theorem Inv.tok (I : Inv X pins σ H s) (t : Nat) : Inv X pins σ H { s with toks := t } := I.un (h' := s.heap) (t' := t) Un.refl I.hok
theorem Inv.kept {t' : Nat} (I : Inv X pins σ H s) (k : ∀ b u, s.heap.get? b = some u -> h'.get? b = some u) : Inv X pins σ H { s with heap := h', toks := t' } := I.un (Un.kept k) (I.hok.kept k)
theorem Inv.laid {a : Addr} {o : HO} {t' : Nat} (I : Inv X pins σ H s) (k : ∀ b u, s.heap.get? b = some u -> h'.get? b = some u) (hp : s.heap.objs.size <= a) (new : ObjOk X.prog X.w (upd H a o) h' a o) :
  Inv X pins σ (upd H a o) { s with heap := h', toks := t' } := I.un (Un.laid k hp (I.hok.fresh hp)) (I.hok.laid k hp new)
theorem Inv.write {x e : Addr} {o : HO} {t' : Nat} (I : Inv X pins σ H s) (mu : Mut (H x)) (he : e = x ∨ H e = some (.own x)) (k : ∀ b u, b ≠ e -> s.heap.get? b = some u -> h'.get? b = some u) (heo : ∃ u, h'.get? e = some u)
  (new : ObjOk X.prog X.w (upd H x o) h' x o) : Inv X pins σ (upd H x o) { s with heap := h', toks := t' } := I.un (Un.write mu he k heo) (I.hok.write mu he k heo new)
theorem Inv.pins_of {pins' : List (Addr × Obj)} (I : Inv X pins σ H s) (h : ∀ p ∈ pins', s.heap.get? p.1 = some p.2 /\ H p.1 = none /\ p.1 ≠ X.env.locals /\ p.1 ∉ X.fs /\ ∀ v, p.2.data ≠ .cell v) : Inv X pins' σ H s :=
 ⟨I.ok, I.os, I.bare, I.base, I.loc, I.cell, I.free, I.freeC, fun p hp => (List.mem_append.mp hp).elim (fun z => I.pin p (List.mem_append_left _ z)) (h p), I.hok, I.len⟩
theorem Z6j {N : List Str} (hN : N.Nodup) {i j : Nat} {x : Str} (a : N[i]? = some x) (b : N[j]? = some x) : i = j := by
 obtain ⟨h1, e1⟩ := List.getElem?_eq_some_iff.mp a
 obtain ⟨h2, e2⟩ := List.getElem?_eq_some_iff.mp b
 exact (List.getElem_inj hN).mp (e1.trans e2.symm)
theorem Z7i {M : Model} {A : Around} {E : Value -> Shared -> Prop} {i : Nat} {x : Str} {v : V} {u : Value} {Q : Unit -> Shared -> Prop} (I : Inv X pins σ H s) (hN : X.N.Nodup) (hi : X.N[i]? = some x) (hx : Loc X.env.scope x) (r : RelV v u)
  (h : ∀ s', Inv X pins (σ.set i (some v)) H s' -> (∃ a, Heap.SameBut a s.heap s'.heap /\ (a = X.env.locals ∨ X.env.cells.lookup x = some a)) -> Q () s') (hf : X.fn x = true ∨ X.env.scope.names.lookup x = some .local := by first | exact .inl rfl | exact .inr rfl | assumption) : wpAny M A (storeName X.env x u) Q E s := by
 obtain ⟨m, hn, hl⟩ := id I.loc
 have hcls : (X.env.scope.kind == .class || (X.env.scope.kind == .module && X.env.locals != X.env.globals)) = false := by rw [I.ok.kind]; rfl
 have hiσ : i < σ.length := by rw [I.len]; exact (List.getElem?_eq_some_iff.mp hi).1
 have cne := I.cne
 have tracked : ∀ {a : Addr} {h' : Heap}, (∃ o, s.heap.get? a = some o /\ H a = none) -> Heap.SameBut a s.heap h' -> HOk X.prog X.w H h' := fun {a h'} ha hs b ob e => by
  obtain ⟨_, _, hfree⟩ := ha
  refine (I.hok b ob e).stay (fun c w' hc q => (hs.2 c ?_).trans q) (fun _ q => q) fun _ _ q => q
  rintro rfl
  rcases hc with rfl | hc
  ·rw [hfree] at e; cases e
  ·rw [hfree] at hc; cases hc
 rcases hx with hk | hk
 ·refine wpAny_storeName_local hk hn (fun h' hn' hs => ?_) hcls
  obtain ⟨oL, _, _, hoL, _⟩ := id hn
  refine h _ ⟨I.ok, I.os, I.bare, ⟨fun b o e n hb hx => ?_, fun b o e n hb hx => ?_, I.base.free, fun b o e hx => ?_, I.base.tups, I.base.frzs, I.base.tbls⟩, ⟨_, hn', fun j y v' e1 e2 e3 => ?_⟩, fun y c e => ?_, I.free, I.freeC, fun p hp => ?_, tracked ⟨oL, hoL, I.free⟩ hs, by simpa using I.len⟩ ⟨_, hs, .inl rfl⟩
  ·exact (hs.2 b (Nat.ne_of_lt (Nat.lt_of_lt_of_le (Heap.lt_size e) I.ok.above))).trans (I.base.keep b o e n hb hx)
  ·obtain ⟨sl, e1⟩ := I.base.slot b o e n hb hx
   exact ⟨sl, (hs.2 b (Nat.ne_of_lt (Nat.lt_of_lt_of_le (Heap.lt_size e) I.ok.above))).trans e1⟩
  ·obtain ⟨o', e1⟩ := I.base.there b o e hx
   exact ⟨o', (hs.2 b (Nat.ne_of_lt (Nat.lt_of_lt_of_le (Heap.lt_size e) I.ok.above))).trans e1⟩
  ·by_cases hj : j = i
   ·subst hj
    rw [hi] at e1; cases e1
    rw [List.getElem?_set_self hiσ] at e2
    cases e2
    exact ⟨u, r, .inl ⟨hk, by simp⟩⟩
   ·rw [List.getElem?_set_ne (Ne.symm hj)] at e2
    obtain ⟨u', r', q⟩ := hl j y v' e1 e2 e3
    refine ⟨u', r', ?_⟩
    rcases q with ⟨k, e⟩ | ⟨k, c, e, z⟩
    ·refine .inl ⟨k, ?_⟩
     have : y ≠ x := fun e => hj (Z6j hN e1 (e ▸ hi))
     simp [this, e]
    ·exact .inr ⟨k, c, e, z.sameBut hs (cne y c e)⟩
  ·obtain ⟨w', z⟩ := I.cell y c e
   exact ⟨w', z.sameBut hs (cne y c e)⟩
  ·obtain ⟨e, n, ne, nf, d⟩ := I.pin p hp
   exact ⟨(hs.2 p.1 ne).trans e, n, ne, nf, d⟩
 ·have hfn : X.fn x = true := by
   rcases hf with z | z
   ·exact z
   ·rw [z] at hk; cases hk
  obtain ⟨c, hc⟩ := I.ok.has x (.inl hk)
  obtain ⟨w', z⟩ := I.cell x c hc
  refine wpAny_storeName_cell I.ok.kind hk hc z (fun h' hc' hs => ?_)
  obtain ⟨oc, hoc, hocd⟩ := id z
  refine h { s with heap := h' } ⟨I.ok, I.os, I.bare, ⟨fun b o e n hb hx => ?_, fun b o e n hb hx => ?_, I.base.free, fun b o e hx => ?_, I.base.tups, I.base.frzs, I.base.tbls⟩, ⟨m, hn.sameBut hs (Ne.symm (cne x c hc)), fun j y v' e1 e2 e3 => ?_⟩, fun y c' e => ?_, I.free, I.freeC, fun p hp => ?_, tracked ⟨oc, hoc, I.freeC x c hc⟩ hs, by simpa using I.len⟩ ⟨c, hs, .inr hc⟩
  ·exact (hs.2 b (Nat.ne_of_lt (Nat.lt_of_lt_of_le (Heap.lt_size e) (I.ok.cab x c hfn hc)))).trans (I.base.keep b o e n hb hx)
  ·obtain ⟨sl, e1⟩ := I.base.slot b o e n hb hx
   exact ⟨sl, (hs.2 b (Nat.ne_of_lt (Nat.lt_of_lt_of_le (Heap.lt_size e) (I.ok.cab x c hfn hc)))).trans e1⟩
  ·obtain ⟨o', e1⟩ := I.base.there b o e hx
   exact ⟨o', (hs.2 b (Nat.ne_of_lt (Nat.lt_of_lt_of_le (Heap.lt_size e) (I.ok.cab x c hfn hc)))).trans e1⟩
  ·by_cases hj : j = i
   ·subst hj
    rw [hi] at e1; cases e1
    rw [List.getElem?_set_self hiσ] at e2
    cases e2
    exact ⟨u, r, .inr ⟨.inl hk, c, hc, hc'⟩⟩
   ·rw [List.getElem?_set_ne (Ne.symm hj)] at e2
    obtain ⟨u', r', q⟩ := hl j y v' e1 e2 e3
    refine ⟨u', r', ?_⟩
    rcases q with q | ⟨k, c', e, z'⟩
    ·exact .inl q
    ·refine .inr ⟨k, c', e, z'.sameBut hs ?_⟩
     rintro rfl
     exact hj (Z6j hN e1 (I.ok.inj _ _ _ e hc ▸ hi))
  ·by_cases hcc : c' = c
   ·subst hcc; exact ⟨_, hc'⟩
   ·obtain ⟨w2, z2⟩ := I.cell y c' e
    exact ⟨w2, z2.sameBut hs hcc⟩
  ·obtain ⟨e, n, ne, nf, d⟩ := I.pin p hp
   refine ⟨(hs.2 p.1 ?_).trans e, n, ne, nf, d⟩
   intro q
   rw [q, hoc] at e
   have q' : oc = p.2 := Option.some.inj e
   exact d w' (by rw [<- q']; exact hocd)
theorem Z3g {M : Model} {A : Around} {E : Value -> Shared -> Prop} {i : Nat} {x : Str} {v : V} {u : Value} {Q : Unit -> Shared -> Prop} (I : Inv X pins σ H s) (hN : X.N.Nodup) (hi : X.N[i]? = some x) (hx : Loc X.env.scope x) (r : RelV v u)
  (h : ∀ s', Inv X pins (σ.set i (some v)) H s' -> Q () s') (hf : X.fn x = true ∨ X.env.scope.names.lookup x = some .local := by first | exact .inl rfl | exact .inr rfl | assumption) : wpAny M A (storeName X.env x u) Q E s :=
 Z7i I hN hi hx r (fun s' I' _ => h s' I') hf
theorem Inv.call' {s' : Shared} {ch : List Addr} (I : Inv X pins σ H s) (ho : s'.os = s.os) (u : Un (frs X.stack) ch H H' s.heap s'.heap) (hok : HOk X.prog X.w H' s'.heap) (hg : AllBare s'.gens)
  (hch : ∀ b ∈ ch, (b ∈ X.ex ∨ X.s₀.heap.objs.size <= b) /\ b ≠ X.env.locals /\ (∀ x c, X.env.cells.lookup x = some c -> c ≠ b) /\ ∀ p ∈ X.pn ++ pins, p.1 ≠ b) : Inv X pins σ H' s' := by
 obtain ⟨h', g', d', t', o'⟩ := s'
 have e : o' = s.os := ho
 subst e
 exact I.call (g' := g') (t' := t') (d' := d') u hok hg hch
end
abbrev XK := Value -> Option Addr -> Hp -> Prop
abbrev St := List (Option V)
abbrev VK := V -> Hp -> Prop
abbrev TE := St -> Hp -> VK -> Prop
abbrev TT := St -> Hp -> (Bool -> Hp -> Prop) -> Prop
abbrev TA := St -> Hp -> (List V -> Hp -> Prop) -> Prop
structure Ends where
 nx : St -> Hp -> Prop
 rt : VK
 bk : St -> Hp -> Prop := fun _ _ => False
 ct : St -> Hp -> Prop := fun _ _ => False
abbrev TS := Ends -> St -> Hp -> Prop
def EP (X : Cx) (pins : List (Addr × Obj)) (σ : St) (Q : VK) (u : Value) (s' : Shared) : Prop := ∃ v H', Inv X pins σ H' s' /\ RelV v u /\ Q v H'
def TP (X : Cx) (pins : List (Addr × Obj)) (σ : St) (Q : Bool -> Hp -> Prop) (b : Bool) (s' : Shared) : Prop := ∃ H', Inv X pins σ H' s' /\ Q b H'
def AP (X : Cx) (pins : List (Addr × Obj)) (σ : St) (Q : List V -> Hp -> Prop) (us : List Value) (s' : Shared) : Prop := ∃ vs H', Inv X pins σ H' s' /\ Vals vs us /\ Q vs H'
def SP (X : Cx) (pins : List (Addr × Obj)) (D : Ends) (f : Flow) (s' : Shared) : Prop :=
 match f with
 | .next => ∃ σ' H', Inv X pins σ' H' s' /\ D.nx σ' H'
 | .brk => ∃ σ' H', Inv X pins σ' H' s' /\ D.bk σ' H'
 | .cont => ∃ σ' H', Inv X pins σ' H' s' /\ D.ct σ' H'
 | .ret u => ∃ v σ' H', Inv X pins σ' H' s' /\ RelV v u /\ D.rt v H'
def PE (X : Cx) (e : Expr) (t : TE) : Prop :=
 ∀ (pins : List (Addr × Obj)) (s : Shared) (σ : St) (H : Hp) (Q : VK), Inv X pins σ H s -> t σ H Q -> wpAny (model X.prog X.w) X.A (eval e X.env) (EP X pins σ Q) X.xe s
def PT (X : Cx) (e : Expr) (t : TT) : Prop :=
 ∀ (pins : List (Addr × Obj)) (s : Shared) (σ : St) (H : Hp) (Q : Bool -> Hp -> Prop), Inv X pins σ H s -> t σ H Q -> wpAny (model X.prog X.w) X.A (isTrue e X.env (eval e X.env)) (TP X pins σ Q) X.xe s
def PW (X : Cx) (e : Expr) (t : TT) : Prop :=
 ∀ (whole : Sem Value) (pins : List (Addr × Obj)) (s : Shared) (σ : St) (H : Hp) (Q : Bool -> Hp -> Prop), Inv X pins σ H s -> t σ H Q -> wpAny (model X.prog X.w) X.A (isTrue e X.env whole) (TP X pins σ Q) X.xe s
theorem PW.pt {X : Cx} {e : Expr} {t : TT} (h : PW X e t) : PT X e t := h _
def PA (X : Cx) (es : List Expr) (t : TA) : Prop :=
 ∀ (pos : Pos) (pins : List (Addr × Obj)) (s : Shared) (σ : St) (H : Hp) (Q : List V -> Hp -> Prop), Inv X pins σ H s -> t σ H Q -> wpAny (model X.prog X.w) X.A (spliced (backTo pos (starEach es X.env))) (AP X pins σ Q) X.xe s
def PS (X : Cx) (st : Stmt) (t : TS) : Prop :=
 ∀ (pins : List (Addr × Obj)) (s : Shared) (σ : St) (H : Hp) (D : Ends), Inv X pins σ H s -> t D σ H -> wpAny (model X.prog X.w) X.A (exec st X.env) (SP X pins D) X.xe s
def PSs (X : Cx) (st : List Stmt) (t : TS) : Prop :=
 ∀ (pins : List (Addr × Obj)) (s : Shared) (σ : St) (H : Hp) (D : Ends), Inv X pins σ H s -> t D σ H -> wpAny (model X.prog X.w) X.A (execs st X.env) (SP X pins D) X.xe s
theorem thn {α : Type} {t : Sem α} {Q Q' : α -> Shared -> Prop} {M : Model} {A : Around} {E : Value -> Shared -> Prop} {s : Shared} (h : wpAny M A t Q E s) (hQ : ∀ a s, Q a s -> Q' a s) : wpAny M A t Q' E s := wpAny_mono h hQ fun _ _ x => x
section
variable {X : Cx}
def Zl9 (i : Nat) : TE := fun σ H Q => ∃ v, σ[i]? = some (some v) /\ Q v H
def tC (v : V) : TE := fun _ H Q => Q v H
theorem Ziw {i : Nat} {x : Str} {pos : Pos} (hN : X.N[i]? = some x) (hv : Vis X.env.scope x) (hd : (x == ("__debug__" : Str)) = false := by decide) (hcd : (x == ("__classdict__" : Str)) = false := by decide) : PE X (.Name x pos) (Zl9 i) := by
 intro pins s σ H Q I h
 obtain ⟨v, e, h⟩ := h
 obtain ⟨m, hn, hl⟩ := I.loc
 obtain ⟨u, r, l⟩ := hl i x v hN e hv
 have fin : EP X pins σ Q u s := ⟨v, H, I, r, h⟩
 rcases l with ⟨hk, hm⟩ | ⟨hk, c, hc, hcell⟩
 ·exact wpAny_Name (wpAny_loadName_local I.ok.kind hk hn hm fin) hd
 ·rcases hk with hk | hk
  ·exact wpAny_Name (wpAny_loadName_cell I.ok.kind hk hc hcell fin) hd
  ·exact wpAny_Name (wpAny_loadName_free I.ok.kind hk hc hcell fin hcd) hd
theorem Z04 {i j pos} : PE X (.Constant (.int i) j pos) (tC (.int i)) := fun _ _ _ H _ I h => wpAny_Constant_int ⟨.int i, H, I.tok _, ⟨_, rfl⟩, h⟩
theorem Z5q {b j pos} : PE X (.Constant (.bool b) j pos) (tC (.bl b)) := fun _ _ _ H _ I h => Constant_bool ⟨.bl b, H, I, rfl, h⟩
theorem Zga {j pos} : PE X (.Constant .none j pos) (tC .non) := fun _ _ _ H _ I h => Constant_none ⟨.non, H, I, rfl, h⟩
theorem Z0a {x j pos} : PE X (.Constant (.str x) j pos) (tC (.str x)) := fun _ _ _ H _ I h => Calls.Constant_str ⟨.str x, H, I.tok _, ⟨_, rfl⟩, h⟩
def Gl (X : Cx) (x : Str) : Prop := X.env.kindOf x = some .globalImplicit
theorem Z6k {E : Value -> Shared -> Prop} {pins : List (Addr × Obj)} {s : Shared} {σ : St} {H : Hp} {x : Str} {u : Value} {pos : Pos} {Q : Value -> Shared -> Prop} (I : Inv X pins σ H s) (hg : Gl X x) (hm : X.mg x = some u) (h : Q u s)
  (hd : (x == ("__debug__" : Str)) = false := by decide) : wpAny (model X.prog X.w) X.A (eval (.Name x pos) X.env) Q E s :=
 Calls.Name_function_global I.ok.kind hg (Calls.loadGlobal_global (by rw [I.ok.glob]; exact I.mod.glob.keeps I.bk) hm h) hd
theorem Z5x {E : Value -> Shared -> Prop} {pins : List (Addr × Obj)} {s : Shared} {σ : St} {H : Hp} {x : Str} {u : Value} {pos : Pos} {Q : Value -> Shared -> Prop} (I : Inv X pins σ H s) (hg : Gl X x) (hm : X.mg x = none) (hv : bootBuiltins x = some u) (h : Q u s)
  (hn : x ≠ "__name__" := by decide) (hd : (x == ("__debug__" : Str)) = false := by decide) : wpAny (model X.prog X.w) X.A (eval (.Name x pos) X.env) Q E s := by
 obtain ⟨mb, h1, h2⟩ := I.mod.blt
 exact Calls.Name_function_global I.ok.kind hg (Calls.loadGlobal_builtin (by rw [I.ok.glob]; exact I.mod.glob.keeps I.bk) hm (by rw [I.ok.blt]; exact h1.keeps I.bk) ((h2 x hn).trans hv) h) hd
theorem Z17 {x : Str} {v : V} {u : Value} {pos : Pos} (hg : Gl X x) (hm : X.mg x = some u) (r : RelV v u) (hd : (x == ("__debug__" : Str)) = false := by decide) : PE X (.Name x pos) (tC v) :=
 fun _ _ _ H _ I h => Z6k I hg hm ⟨v, H, I, r, h⟩ hd
theorem Z1n {x : Str} {v : V} {u : Value} {pos : Pos} (hg : Gl X x) (hm : X.mg x = none) (hv : bootBuiltins x = some u) (r : RelV v u) (hn : x ≠ "__name__" := by decide) (hd : (x == ("__debug__" : Str)) = false := by decide) : PE X (.Name x pos) (tC v) :=
 fun _ _ _ H _ I h => Z5x I hg hm hv ⟨v, H, I, r, h⟩ hn hd
variable {a b : Expr} {ta tb : TE} {pos : Pos}
def tB (t : TE) : TT := fun σ H Q => t σ H fun x H1 => ∃ c, x = .bl c /\ Q c H1
theorem Z1f {e : Expr} {t : TE} (h : PE X e t) (he : ∀ whole, isTrue e X.env whole = (do let v ← whole; standAt e.pos; holding [v] (truthy v)) := by intro _; rfl) : PT X e (tB t) := by
 intro pins s σ H Q I hw
 refine isTrue_plain (thn (h pins s σ H _ I hw) fun v s1 ⟨x, H1, I1, r1, q1⟩ => ?_) (he _)
 obtain ⟨d, rfl, q⟩ := q1
 cases r1
 exact wpAny_truthy_bool ⟨H1, I1, q⟩
variable {tA tB' : TT} {rest : List Expr}
def Zll (t u : TT) : TT := fun σ H Q => t σ H fun c H1 => if c = true then u σ H1 Q else Q false H1
def tOr (t u : TT) : TT := fun σ H Q => t σ H fun c H1 => if c = true then Q true H1 else u σ H1 Q
def Zlm (t : TT) : TT := fun σ H Q => t σ H fun c H1 => Q (!c) H1
theorem Z2f (ha : PT X a tA) : PW X (.BoolOp .And [a] pos) tA := by
 intro wh pins s σ H Q I h
 refine isTrue_and (thn (ha pins s σ H Q I h) fun c s1 e => ?_)
 cases c with
 | true => exact isTrue_and_nil e
 | false => exact e
theorem Z5y (ha : PT X a tA) : PW X (.BoolOp .Or [a] pos) tA := by
 intro wh pins s σ H Q I h
 refine isTrue_or (thn (ha pins s σ H Q I h) fun c s1 e => ?_)
 cases c with
 | false => exact isTrue_or_nil e
 | true => exact e
theorem Z3h (ha : PT X a tA) (hb : PW X (.BoolOp .And (b :: rest) pos) tB') : PW X (.BoolOp .And (a :: b :: rest) pos) (Zll tA tB') := by
 intro wh pins s σ H Q I h
 refine isTrue_and (thn (ha pins s σ H _ I h) fun c s1 ⟨H1, I1, q1⟩ => ?_)
 cases c with
 | true => exact hb wh pins s1 σ H1 Q I1 q1
 | false => exact ⟨H1, I1, q1⟩
theorem Z6l (ha : PT X a tA) (hb : PW X (.BoolOp .Or (b :: rest) pos) tB') : PW X (.BoolOp .Or (a :: b :: rest) pos) (tOr tA tB') := by
 intro wh pins s σ H Q I h
 refine isTrue_or (thn (ha pins s σ H _ I h) fun c s1 ⟨H1, I1, q1⟩ => ?_)
 cases c with
 | true => exact ⟨H1, I1, q1⟩
 | false => exact hb wh pins s1 σ H1 Q I1 q1
theorem Z2n (ha : PT X a tA) : PT X (.UnaryOp .Not a pos) (Zlm tA) := by
 intro pins s σ H Q I h
 exact isTrue_not (ha pins s σ H (fun c H1 => Q (!c) H1) I h)
def Zk7 (ta tb : TE) : TE := fun σ H Q => ta σ H fun x H1 => ∃ c, x = .bl c /\ if c = true then tb σ H1 Q else Q (.bl false) H1
def Zk8 (ta : TE) : TE := fun σ H Q => ta σ H fun x H1 => ∃ c, x = .bl c /\ Q (.bl (!c)) H1
theorem Zbw {op} {t : TE} (h : PE X a t) : PE X (.BoolOp op [a] pos) t := fun pins s σ H Q I hw => BoolOp_one (h pins s σ H Q I hw)
theorem Z7j (ha : PE X a ta) (hb : PE X (.BoolOp .And (b :: rest) pos) tb) : PE X (.BoolOp .And (a :: b :: rest) pos) (Zk7 ta tb) := by
 intro pins s σ H Q I h
 refine BoolOp_and (thn (ha pins s σ H _ I h) fun v s1 ⟨x, H1, I1, r1, q1⟩ => ?_)
 obtain ⟨c, rfl, q1⟩ := q1
 cases r1
 refine wpAny_truthy_bool ?_
 cases c with
 | true => exact hb pins s1 σ H1 Q I1 q1
 | false => exact ⟨.bl false, H1, I1, rfl, q1⟩
theorem Zix (ha : PE X a ta) : PE X (.UnaryOp .Not a pos) (Zk8 ta) := by
 intro pins s σ H Q I h
 refine UnaryOp_ (thn (ha pins s σ H _ I h) fun v s1 ⟨x, H1, I1, r1, q1⟩ => ?_)
 obtain ⟨c, rfl, q1⟩ := q1
 cases r1
 exact not_of (wpAny_truthy_bool ⟨.bl (!c), H1, I1, rfl, q1⟩)
def tIf (t : TT) (ta tb : TE) : TE := fun σ H Q => t σ H fun c H1 => if c = true then ta σ H1 Q else tb σ H1 Q
theorem Zen {c : Expr} (hc : PT X c tA) (ha : PE X a ta) (hb : PE X b tb) : PE X (.IfExp c a b pos) (tIf tA ta tb) := by
 intro pins s σ H Q I h
 refine wpAny_IfExp (thn (hc pins s σ H _ I h) fun d s1 ⟨H1, I1, q1⟩ => ?_)
 cases d with
 | true => exact ha pins s1 σ H1 Q I1 q1
 | false => exact hb pins s1 σ H1 Q I1 q1
end
def SqL (K : PySem.W.Frag) (H : Hp) (a : Addr) (xs : List V) : Prop :=
 Rd H a (.lst xs) ∨
  ∃ (o : Obj) (its : Array Value) (n : Nat), K.lookup a = some o /\ o.cls = .type "list" /\ o.dict = none /\ o.data = .seq its n /\ its.size <= sizeLine /\ Vals xs its.toList
def SqT (K : PySem.W.Frag) (H : Hp) (a : Addr) (xs : List V) : Prop :=
 Rd H a (.tup xs) ∨
  ∃ (o : Obj) (its : Array Value) (n : Nat), K.lookup a = some o /\ o.cls = .type "tuple" /\ o.data = .seq its n /\ its.size <= sizeLine /\ Vals xs its.toList
def Zln : Value -> Option V
 | .none => some .non
 | .bool b => some (.bl b)
 | .int i _ => some (.int i)
 | .str x _ => some (.str x)
 | .bytes b _ => some (.byt b)
 | .float b _ => some (.flt b)
 | .ref a => some (.ref a)
 | .type n => some (.ty n)
 | _ => none
theorem RelV.abs {x : V} {u : Value} (r : RelV x u) : Zln u = some x := by
 cases x with
 | non => cases r; rfl
 | bl _ => cases r; rfl
 | int _ => obtain ⟨t, rfl⟩ := r; rfl
 | str _ => obtain ⟨t, rfl⟩ := r; rfl
 | byt _ => obtain ⟨t, rfl⟩ := r; rfl
 | flt _ => obtain ⟨t, rfl⟩ := r; rfl
 | ref _ => cases r; rfl
 | ty _ => cases r; rfl
theorem RelV.inj {x y : V} {u : Value} (r : RelV x u) (q : RelV y u) : x = y := Option.some.inj (r.abs.symm.trans q.abs)
theorem Vals.inj : ∀ {xs ys : List V} {us : List Value}, Vals xs us -> Vals ys us -> xs = ys
 | _, _, _, .nil, .nil => rfl
 | _, _, _, .cons r t, .cons r' t' => by rw [r.inj r', Vals.inj t t']
section
variable {X : Cx} {pins : List (Addr × Obj)} {σ : St} {H : Hp} {s : Shared} {a : Addr} {xs ys : List V}
theorem SqL.of {K : PySem.W.Frag} (h : H a = some (.lst xs)) : SqL K H a xs := .inl (.inl h)
theorem SqT.of {K : PySem.W.Frag} (h : H a = some (.tup xs)) : SqT K H a xs := .inl (.inl h)
theorem Inv.list (I : Inv X pins σ H s) (h : SqL X.K H a xs) : ∃ its : List Value, Vals xs its /\ PlainL s.heap a its.toArray /\ xs.length <= sizeLine := by
 rcases h with h | ⟨o, its, n, hk, hc, hd, hs, hz, r⟩
 ·obtain ⟨z, its, n, r, e⟩ := h.ok I.hok
  exact ⟨its, r, ⟨_, n, e, rfl, rfl, rfl⟩, z⟩
 ·refine ⟨its.toList, r, ⟨o, n, I.kIn a o hk, hc, hd, by simpa using hs⟩, ?_⟩
  have e := r.length
  simp only [Array.length_toList] at e
  omega
theorem Inv.tuple (I : Inv X pins σ H s) (h : SqT X.K H a xs) : ∃ its : List Value, Vals xs its /\ IsTup s.heap a its.toArray /\ xs.length <= sizeLine := by
 rcases h with h | ⟨o, its, n, hk, hc, hs, hz, r⟩
 ·obtain ⟨z, its, r, p⟩ := h.ok I.hok
  exact ⟨its, r, p, z⟩
 ·refine ⟨its.toList, r, ⟨o, I.kIn a o hk, hc, n, by simpa using hs⟩, ?_⟩
  have e := r.length
  simp only [Array.length_toList] at e
  omega
theorem Inv.list_inj (I : Inv X pins σ H s) (h : SqL X.K H a xs) (h' : SqL X.K H a ys) : xs = ys := by
 obtain ⟨its, r, ⟨o, n, e, _, _, d⟩, _⟩ := I.list h
 obtain ⟨its', r', ⟨o', n', e', _, _, d'⟩, _⟩ := I.list h'
 rw [e] at e'; cases e'
 rw [d] at d'
 injection d' with d1 _
 have : its = its' := by simpa using congrArg Array.toList d1
 subst this
 exact r.inj r'
theorem Inv.tuple_inj (I : Inv X pins σ H s) (h : SqT X.K H a xs) (h' : SqT X.K H a ys) : xs = ys := by
 obtain ⟨its, r, ⟨o, e, _, n, d⟩, _⟩ := I.tuple h
 obtain ⟨its', r', ⟨o', e', _, n', d'⟩, _⟩ := I.tuple h'
 rw [e] at e'; cases e'
 rw [d] at d'
 injection d' with d1 _
 have : its = its' := by simpa using congrArg Array.toList d1
 subst this
 exact r.inj r'
end
abbrev Cx.wish (X : Cx) (E : Value -> Shared -> Prop) : Cx := { X with xe := E }
abbrev Cx.nox (X : Cx) : Cx := X.wish fun _ _ => False
theorem Cx.Ok.wish {X : Cx} (ok : X.Ok) (E : Value -> Shared -> Prop) : (X.wish E).Ok :=
 ⟨ok.mod, ok.kind, ok.glob, ok.blt, ok.above, ok.inj, ok.has, ok.cab, ok.hd, ok.frames, ok.stk, ok.exf, ok.bs, ok.bsz, ok.noex, ok.exfs, ok.funs, ok.frf⟩
theorem Cx.Ok.unwish {X : Cx} {E : Value -> Shared -> Prop} (ok : (X.wish E).Ok) : X.Ok :=
 ⟨ok.mod, ok.kind, ok.glob, ok.blt, ok.above, ok.inj, ok.has, ok.cab, ok.hd, ok.frames, ok.stk, ok.exf, ok.bs, ok.bsz, ok.noex, ok.exfs, ok.funs, ok.frf⟩
section
variable {X : Cx} {pins : List (Addr × Obj)} {σ : St} {H : Hp} {s : Shared} {E : Value -> Shared -> Prop}
theorem Inv.wish (I : Inv X pins σ H s) (E : Value -> Shared -> Prop) : Inv (X.wish E) pins σ H s := ⟨I.ok.wish E, I.os, I.bare, I.base, I.loc, I.cell, I.free, I.freeC, I.pin, I.hok, I.len⟩
theorem Inv.unwish (I : Inv (X.wish E) pins σ H s) : Inv X pins σ H s := ⟨I.ok.unwish, I.os, I.bare, I.base, I.loc, I.cell, I.free, I.freeC, I.pin, I.hok, I.len⟩
theorem SP.unwish {D : Ends} {f : Flow} {s' : Shared} (h : SP (X.wish E) pins D f s') : SP X pins D f s' := by
 cases f with
 | next => obtain ⟨σ', H', I, q⟩ := h; exact ⟨σ', H', I.unwish, q⟩
 | brk => obtain ⟨σ', H', I, q⟩ := h; exact ⟨σ', H', I.unwish, q⟩
 | cont => obtain ⟨σ', H', I, q⟩ := h; exact ⟨σ', H', I.unwish, q⟩
 | ret u => obtain ⟨v, σ', H', I, r, q⟩ := h; exact ⟨v, σ', H', I.unwish, r, q⟩
theorem PSs.nox {st : List Stmt} {t : TS} (h : PSs X.nox st t) : PSs X st t := fun pins s σ H D I hw =>
 wpAny_mono (h pins s σ H D (I.wish _) hw) (fun _ _ q => q.unwish) fun _ _ z => False.elim z
end
section
variable {X : Cx} {st : Stmt} {rest : List Stmt} {t u : TS} {e : Expr} {te : TE} {pos : Pos}
def tNext : TS := fun D σ H => D.nx σ H
def Zlo (t u : TS) : TS := fun D σ H => t { D with nx := u D } σ H
theorem Z0k : PSs X [] tNext := fun _ _ σ H _ I h => wpAny_execs_nil ⟨σ, H, I, h⟩
theorem Z05 (h1 : PS X st t) (h2 : PSs X rest u) : PSs X (st :: rest) (Zlo t u) := by
 intro pins s σ H D I h
 refine wpAny_execs_cons (thn (h1 pins s σ H { D with nx := u D } I h) fun f s1 q => ?_)
 cases f with
 | next =>
  obtain ⟨σ', H', I', q⟩ := q
  exact h2 pins s1 σ' H' D I' q
 | ret v => exact q
 | brk => exact q
 | cont => exact q
theorem Z07 (h1 : PS X st t) : PSs X [st] t := by
 intro pins s σ H D I h
 refine wpAny_execs_cons (thn (h1 pins s σ H D I h) fun f s1 q => ?_)
 cases f with
 | next => exact wpAny_execs_nil q
 | ret v => exact q
 | brk => exact q
 | cont => exact q
theorem Inv.quiet {pins : List (Addr × Obj)} {σ : St} {H : Hp} {s : Shared} (I : Inv X pins σ H s) : interactive X.env = false := by simp [interactive, I.ok.kind]
def Zk9 (te : TE) : TS := fun D σ H => te σ H fun _ H1 => D.nx σ H1
theorem Z2o (he : PE X e te) (hs : swapsWith e none pos.line X.env = pure false := by rfl) : PS X (.Expr e pos) (Zk9 te) := by
 intro pins s σ H D I h
 exact wpAny_Expr_any (thn (he pins s σ H _ I h) fun v s1 ⟨x, H1, I1, r1, q1⟩ => ⟨σ, H1, I1, q1⟩) I.quiet hs
def Zlp (te : TE) : TS := fun D σ H => te σ H D.rt
theorem Z0m (he : PE X e te) : PS X (.Return (some e) pos) (Zlp te) := by
 intro pins s σ H D I h
 exact wpAny_Return_some (thn (he pins s σ H _ I h) fun v s1 ⟨x, H1, I1, r1, q1⟩ => ⟨x, σ, H1, I1, r1, q1⟩)
def Zlq (c : TT) (t u : TS) : TS := fun D σ H => c σ H fun b H1 => if b = true then t D σ H1 else u D σ H1
theorem Z10 {c : Expr} {a b : List Stmt} {tc : TT} (hc : PT X c tc) (ha : PSs X a t) (hb : PSs X b u) : PS X (.If c a b pos) (Zlq tc t u) := by
 intro pins s σ H D I h
 refine wpAny_If (thn (hc pins s σ H _ I h) fun d s1 ⟨H1, I1, q1⟩ => ?_)
 cases d with
 | true => exact ha pins s1 σ H1 D I1 q1
 | false => exact hb pins s1 σ H1 D I1 q1
end
abbrev TG := V -> St -> Hp -> (St -> Hp -> Prop) -> Prop
abbrev TGs := List V -> St -> Hp -> (St -> Hp -> Prop) -> Prop
def PG (X : Cx) (target : Expr) (t : TG) : Prop :=
 ∀ (pins : List (Addr × Obj)) (s : Shared) (σ : St) (H : Hp) (v : V) (u : Value) (Q : St -> Hp -> Prop), Inv X pins σ H s -> RelV v u -> t v σ H Q →
  wpAny (model X.prog X.w) X.A (assign target X.env u) (fun _ s' => ∃ σ' H', Inv X pins σ' H' s' /\ Q σ' H') X.xe s
def PGs (X : Cx) (ts : List Expr) (t : TGs) : Prop :=
 ∀ (pins : List (Addr × Obj)) (s : Shared) (σ : St) (H : Hp) (vs : List V) (us : List Value) (Q : St -> Hp -> Prop), Inv X pins σ H s -> Vals vs us -> t vs σ H Q →
  wpAny (model X.prog X.w) X.A (assignInOrder ((assignEach ts X.env).map (·.2)) us) (fun _ s' => ∃ σ' H', Inv X pins σ' H' s' /\ Q σ' H') X.xe s
section
variable {X : Cx} {pos : Pos}
def Z8r (i : Nat) : TG := fun v σ H Q => Q (σ.set i (some v)) H
theorem Z0x {i : Nat} {x : Str} (hN : X.N.Nodup) (hi : X.N[i]? = some x) (hx : Loc X.env.scope x) (hf : X.fn x = true ∨ X.env.scope.names.lookup x = some .local := by first | exact .inl rfl | exact .inr rfl | assumption) : PG X (.Name x pos) (Z8r i) := by
 intro pins s σ H v u Q I r h
 exact wpAny_assign_Name (Z3g I hN hi hx r (fun s' I' => ⟨_, H, I', h⟩) hf)
def gNil : TGs := fun vs σ H Q => vs = [] /\ Q σ H
def Zgy (t : TG) (u : TGs) : TGs := fun vs σ H Q => ∃ v r, vs = v :: r /\ t v σ H fun σ' H' => u r σ' H' Q
theorem Z8s : PGs X [] gNil := by
 intro pins s σ H vs us Q I r h
 obtain ⟨e, h⟩ := h
 subst e
 cases r
 exact assignInOrder_nil ⟨σ, H, I, h⟩
theorem Z2y {e : Expr} {es : List Expr} {t : TG} {u : TGs} (h1 : PG X e t) (h2 : PGs X es u)
  (hs : (assignEach (e :: es) X.env).map (·.2) = assign e X.env :: (assignEach es X.env).map (·.2) := by rfl) : PGs X (e :: es) (Zgy t u) := by
 intro pins s σ H vs us Q I r h
 obtain ⟨v, vr, e1, h⟩ := h
 subst e1
 cases r with
 | cons r rr =>
  rw [hs]
  refine assignInOrder_cons (thn (h1 pins s σ H _ _ _ I r h) fun _ s1 ⟨σ1, H1, I1, q1⟩ => ?_)
  exact h2 pins s1 σ1 H1 _ _ Q I1 rr q1
def Zla (K : PySem.W.Frag) (n : Nat) (t : TGs) : TG := fun v σ H Q => ∃ a xs, v = .ref a /\ SqT K H a xs /\ xs.length = n /\ t xs σ H Q
theorem Zbx {es : List Expr} {k : Nat} {t : TGs} {n : Nat} (hc : X.calm = true) (h : PGs X es t)
  (hn : (assignEach es X.env).length = n := by rfl) (hst : (assignEach es X.env).findIdx? (·.1) = none := by rfl) : PG X (.Tuple es k pos) (Zla X.K n t) := by
 intro pins s σ H v u Q I r hw
 obtain ⟨a, xs, e1, hq, hl, hw⟩ := hw
 subst e1
 cases r
 obtain ⟨its, rv, ht, hz⟩ := I.tuple hq
 refine assign_Tuple_tuple (I.ok.hd hc) ht (by simp [hn, <- hl, rv.length]) hst fun h' hx => ?_
 have I1 : Inv X pins σ H { s with heap := h' } := I.kept (t' := s.toks) fun b o e => hx b o (Nat.ne_of_lt (Heap.lt_size e)) e
 exact h pins _ σ H xs _ Q I1 (by simpa using rv) hw
def Ziy (te : TE) (g : TG) : TS := fun D σ H => te σ H fun x H1 => g x σ H1 D.nx
theorem Ziz {tg e : Expr} {te : TE} {g : TG} (he : PE X e te) (hg : PG X tg g) (hs : swapsWithSole [tg] e pos.line X.env = pure false := by rfl) (hw : swappedStores [tg] e X.env = pure none := by rfl)
  (h1 : (assignEach [tg] X.env).map (·.2) = [assign tg X.env] := by rfl) : PS X (.Assign [tg] e pos) (Ziy te g) := by
 intro pins s σ H D I h
 refine wpAny_Assign_stores (thn (he pins s σ H _ I h) fun v s1 ⟨x, H1, I1, r1, q1⟩ => ?_) hs hw
 rw [h1]
 exact thn (hg pins s1 σ H1 x v _ I1 r1 q1) fun _ s2 q => q
theorem Z0j {i : Nat} {x : Str} {e : Expr} {te : TE} {pos' : Pos} (hN : X.N.Nodup) (hi : X.N[i]? = some x) (hx : Loc X.env.scope x) (he : PE X e te) (hs : swapsWith e (some (.Name x pos')) pos.line X.env = pure false := by rfl) (hf : X.fn x = true ∨ X.env.scope.names.lookup x = some .local := by first | exact .inl rfl | exact .inr rfl | assumption) :
  PS X (.Assign [.Name x pos'] e pos) (Ziy te (Z8r i)) := by
 intro pins s σ H D I h
 refine wpAny_Assign_Name (thn (he pins s σ H _ I h) fun v s1 ⟨y, H1, I1, r1, q1⟩ => ?_) hs
 exact Z3g I1 hN hi hx r1 (fun s2 I2 => ⟨_, H1, I2, q1⟩) hf
end
section
variable {X : Cx} {pos : Pos}
def Zby (c : TT) (tb : TS) : TS := fun D σ H => ∃ W : Nat -> St -> Hp -> Prop, (∃ m, W m σ H) /\ ∀ m σ H, W m σ H →
 c σ H fun b H1 => if b = true then ∃ N : St -> Hp -> Prop, (∀ σ' H', N σ' H' -> ∃ m', m' < m /\ W m' σ' H') /\ tb { D with nx := N, ct := N, bk := D.nx } σ H1 else D.nx σ H1
theorem Z9j {c : Expr} {body : List Stmt} {tc : TT} {tb : TS} (hp : PassesOwn (model X.prog X.w) X.A X.env X.xe) (hc : PT X c tc) (hb : PSs X body tb) : PS X (.While c body [] pos) (Zby tc tb) := by
 intro pins s σ H D I h
 obtain ⟨W, ⟨m0, w0⟩, turn⟩ := h
 refine wpAny_While (codeAny_whileLoop (fun n s' => ∃ σ' H', Inv X pins σ' H' s' /\ W n σ' H') ?_ m0 ⟨σ, H, I, w0⟩)
 rintro n s1 ⟨σ1, H1, I1, w1⟩
 refine wpAny_passesOwn hp (thn (hc pins s1 σ1 H1 _ I1 (turn n σ1 H1 w1)) fun b s2 ⟨H2, I2, q2⟩ => ?_)
 cases b with
 | true =>
  obtain ⟨N, hN, q2⟩ := q2
  rw [if_pos rfl]
  refine wpAny_passesOwn hp (thn (hb pins s2 σ1 H2 _ I2 q2) fun f s3 q3 => ?_)
  cases f with
  | next =>
   obtain ⟨σ3, H3, I3, n3⟩ := q3
   obtain ⟨m', hm, w3⟩ := hN σ3 H3 n3
   exact ⟨m', hm, σ3, H3, I3, w3⟩
  | cont =>
   obtain ⟨σ3, H3, I3, n3⟩ := q3
   obtain ⟨m', hm, w3⟩ := hN σ3 H3 n3
   exact ⟨m', hm, σ3, H3, I3, w3⟩
  | brk => exact q3
  | ret v => exact q3
 | false =>
  rw [if_neg Bool.false_ne_true]
  exact wpAny_execs_nil ⟨σ1, H2, I2, q2⟩
end
structure It where
 go : Nat -> Hp -> Prop
 yld : Nat -> Hp -> V -> Hp -> Prop
 stop : Nat -> Hp -> Prop
def Z3i (X : Cx) (pins : List (Addr × Obj)) (H : Hp) (b : Addr) : Prop :=
 H b = none /\ b ≠ X.env.locals /\ b ∉ X.fs /\ (b ∈ X.ex ∨ X.s₀.heap.objs.size <= b) /\ (∀ x c, X.env.cells.lookup x = some c -> c ≠ b) /\ ∀ p ∈ X.pn ++ pins, p.1 ≠ b
theorem Inv.fpOk {X : Cx} {pins : List (Addr × Obj)} {σ : St} {H H' : Hp} {s : Shared} {b : Addr} (I : Inv X pins σ H s) (hb : s.heap.objs.size <= b) (hn : H' b = none) : Z3i X pins H' b := by
 refine ⟨hn, Nat.ne_of_gt (Nat.lt_of_lt_of_le I.lt hb), I.nofs hb, .inr (Nat.le_trans I.sz hb), fun x c e z => ?_, fun p hp z => ?_⟩
 ·obtain ⟨v, q⟩ := I.cell x c e
  exact absurd (Nat.lt_of_lt_of_le q.lt (by rw [z]; exact hb)) (Nat.lt_irrefl _)
 ·exact absurd (Nat.lt_of_lt_of_le (Heap.lt_size (I.pin p hp).1) (by rw [z]; exact hb)) (Nat.lt_irrefl _)
structure Turn (P : Program) (w : World) (K : PySem.W.Frag) (tg : Expr) (J : It) (fp : List Addr) (it : Addr) (tn : Nat -> Heap -> Prop) : Prop where
 mem : it ∈ fp
 obj : ∀ i h, tn i h -> ∀ b ∈ fp, ∃ o, h.get? b = some o /\ ∀ v, o.data ≠ .cell v
 keep : ∀ i h h', tn i h -> (∀ b ∈ fp, ∀ o, h.get? b = some o -> h'.get? b = some o) -> tn i h'
 item : ∀ (X : Cx), X.prog = P -> X.w = w -> X.K = K -> X.calm = true -> ∀ (i : Nat) (pins : List (Addr × Obj)) (s : Shared) (σ : St) (H : Hp) (E : Value -> Shared -> Prop), Inv X pins σ H s -> (∀ b ∈ fp, Z3i X pins H b) -> tn i s.heap -> J.go i H →
  wpAny (model P w) X.A (pyNext (.ref it)) (fun r s1 => ∃ u, r = some u ∧
   wpAny (model P w) X.A (letOwnedTupleGo tg (.ref it) u) (fun _ s2 => ∃ x H', Inv X pins σ H' s2 /\ RelV x u /\ J.yld i H x H' /\ tn (i + 1) s2.heap /\ ∀ b ∈ fp, H' b = none) E s1) E s
 done : ∀ (X : Cx), X.prog = P -> X.w = w -> X.K = K -> X.calm = true -> ∀ (i : Nat) (pins : List (Addr × Obj)) (s : Shared) (σ : St) (H : Hp) (E : Value -> Shared -> Prop), Inv X pins σ H s -> (∀ b ∈ fp, Z3i X pins H b) -> tn i s.heap -> J.stop i H →
  wpAny (model P w) X.A (pyNext (.ref it)) (fun r s1 => r = none /\ Inv X pins σ H s1) E s
 self : ∀ (A : Around) (i : Nat) (s : Shared) (Q : Value -> Shared -> Prop) (E : Value -> Shared -> Prop), tn i s.heap -> Q (.ref it) s -> wpAny (model P w) A (pyIter (.ref it)) Q E s
abbrev TI := St -> Hp -> (It -> Hp -> Prop) -> Prop
def PIE (X : Cx) (pins : List (Addr × Obj)) (σ : St) (tg : Expr) (R : It -> Hp -> Prop) (itv : Value) (s2 : Shared) : Prop :=
 ∃ (it : Addr) (fp : List Addr) (tn : Nat -> Heap -> Prop) (J : It) (H' : Hp), itv = .ref it /\ Inv X pins σ H' s2 /\ Turn X.prog X.w X.K tg J fp it tn /\ tn 0 s2.heap /\ (∀ b ∈ fp, Z3i X pins H' b) /\ R J H'
def PI (X : Cx) (tg iter : Expr) (wi : TI) : Prop :=
 ∀ (pins : List (Addr × Obj)) (s : Shared) (σ : St) (H : Hp) (R : It -> Hp -> Prop), Inv X pins σ H s -> wi σ H R →
  wpAny (model X.prog X.w) X.A (eval iter X.env) (fun v s1 => wpAny (model X.prog X.w) X.A (pyIter v) (PIE X pins σ tg R) X.xe s1) X.xe s
theorem Zeo {M : Model} {A : Around} {E : Value -> Shared -> Prop} {s : Shared} {tg : Expr} {it : Addr} {u : Value} {o : Obj} {n : String} {vs : Array Value} {Q : Unit -> Shared -> Prop} (ho : s.heap.get? it = some o) (hc : o.cls = .type n) (hd : o.data = .fields vs)
  (hn : ["enumerate", "zip", "dict_itemiterator", "dict_reverseitemiterator", "odict_iterator", "itertools.zip_longest", "itertools.pairwise"].contains n = false) (hQ : Q () s) : wpAny M A (letOwnedTupleGo tg (.ref it) u) Q E s := by
 unfold letOwnedTupleGo
 cases tg <;> first
  | exact wpAny_pure hQ
  | (cases u <;> first
    | exact wpAny_pure hQ
    | (refine wpAny_bind (wpAny_load ho ?_)
       rw [hc, hd]
       show wpAny M A (if (["enumerate", "zip", "dict_itemiterator", "dict_reverseitemiterator", "odict_iterator", "itertools.zip_longest", "itertools.pairwise"].contains n && vs[0]? == some (rawInt _)) = true then _ else _) Q E s
       rw [if_neg (by intro h; rw [hn, Bool.false_and] at h; cases h)]
       exact wpAny_pure hQ))
def Itl (K : PySem.W.Frag) (a : Addr) : It :=
 ⟨fun i H => ∃ xs x, SqL K H a xs /\ xs[i]? = some x, fun i H x H' => H' = H /\ ∀ xs, SqL K H a xs -> xs[i]? = some x, fun i H => ∃ xs, SqL K H a xs /\ xs.length <= i⟩
def Itt (K : PySem.W.Frag) (a : Addr) : It :=
 ⟨fun i H => ∃ xs x, SqT K H a xs /\ xs[i]? = some x, fun i H x H' => H' = H /\ ∀ xs, SqT K H a xs -> xs[i]? = some x, fun i H => ∃ xs, SqT K H a xs /\ xs.length <= i⟩
def Itr (lo : Int) (n : Nat) : It := ⟨fun i _ => i < n, fun i H x H' => H' = H /\ x = .int (lo + i), fun i _ => n <= i⟩
theorem Zbz {P : Program} {w : World} {K : PySem.W.Frag} {tg : Expr} (a it : Addr) : Turn P w K tg (Itl K a) [it] it (fun i h => h.IsListIter it a i) where
 mem := by simp
 obj := fun i h st b hb => by
  have e : b = it := by simpa using hb
  subst e
  obtain ⟨o, e, c, d⟩ := st
  exact ⟨o, e, fun v z => by rw [d] at z; cases z⟩
 keep := fun i h h' st k => st.at fun o e => k it (by simp) o e
 item := by
  intro X hP hw hK hc i pins s σ H E I hf st hg
  subst hP hw hK
  obtain ⟨xs, x, hq, hx⟩ := hg
  obtain ⟨its, rv, p, hz⟩ := I.list hq
  obtain ⟨u, hu, ru⟩ := rv.get hx
  obtain ⟨f0, f1, f2, f3, f4, f5⟩ := hf it (by simp)
  refine wpAny_pyNext_list_item st p.isList (x := u) (by simpa using hu) fun h' st' sb => ?_
  have I1 : Inv X pins σ H { s with heap := h' } := I.turned (t' := s.toks) (fun b o hb e => (sb.2 b hb).trans e) f0 f1 f3 f4 f5
  obtain ⟨o, e, c, d⟩ := id st'
  exact ⟨u, rfl, Zeo (s := { s with heap := h' }) e c d (by decide) ⟨x, H, I1, ru, ⟨rfl, fun ys hy => by rw [I.list_inj hy hq]; exact hx⟩, st', fun b hb => (hf b hb).1⟩⟩
 done := by
  intro X hP hw hK hc i pins s σ H E I hf st hg
  subst hP hw hK
  obtain ⟨xs, hq, hx⟩ := hg
  obtain ⟨its, rv, p, hz⟩ := I.list hq
  obtain ⟨f0, f1, f2, f3, f4, f5⟩ := hf it (by simp)
  have hl := rv.length
  exact wpAny_pyNext_list_end (I.ok.hd hc) st p.isList (by simp; omega) fun h' eb => ⟨rfl, I.turned (t' := s.toks) (fun b o hb e => eb b o hb e) f0 f1 f3 f4 f5⟩
 self := fun _ _ _ _ _ st h => wpAny_pyIter_listiter st h
theorem Zao {P : Program} {w : World} {K : PySem.W.Frag} {tg : Expr} (a it : Addr) : Turn P w K tg (Itt K a) [it] it (fun i h => h.IsTupleIter it a i) where
 mem := by simp
 obj := fun i h st b hb => by
  have e : b = it := by simpa using hb
  subst e
  obtain ⟨o, e, c, d⟩ := st
  exact ⟨o, e, fun v z => by rw [d] at z; cases z⟩
 keep := fun i h h' st k => st.at fun o e => k it (by simp) o e
 item := by
  intro X hP hw hK hc i pins s σ H E I hf st hg
  subst hP hw hK
  obtain ⟨xs, x, hq, hx⟩ := hg
  obtain ⟨its, rv, p, hz⟩ := I.tuple hq
  obtain ⟨u, hu, ru⟩ := rv.get hx
  obtain ⟨f0, f1, f2, f3, f4, f5⟩ := hf it (by simp)
  refine wpAny_pyNext_tuple_item st (show s.heap.IsTuple a its.toArray from p) (x := u) (by simpa using hu) fun h' st' sb => ?_
  have I1 : Inv X pins σ H { s with heap := h' } := I.turned (t' := s.toks) (fun b o hb e => (sb.2 b hb).trans e) f0 f1 f3 f4 f5
  obtain ⟨o, e, c, d⟩ := id st'
  exact ⟨u, rfl, Zeo (s := { s with heap := h' }) e c d (by decide) ⟨x, H, I1, ru, ⟨rfl, fun ys hy => by rw [I.tuple_inj hy hq]; exact hx⟩, st', fun b hb => (hf b hb).1⟩⟩
 done := by
  intro X hP hw hK hc i pins s σ H E I hf st hg
  subst hP hw hK
  obtain ⟨xs, hq, hx⟩ := hg
  obtain ⟨its, rv, p, hz⟩ := I.tuple hq
  obtain ⟨f0, f1, f2, f3, f4, f5⟩ := hf it (by simp)
  have hl := rv.length
  exact wpAny_pyNext_tuple_end (I.ok.hd hc) st (show s.heap.IsTuple a its.toArray from p) (by simp; omega) fun h' eb => ⟨rfl, I.turned (t' := s.toks) (fun b o hb e => eb b o hb e) f0 f1 f3 f4 f5⟩
 self := fun _ _ _ _ _ st h => wpAny_pyIter_tupleiter st h
theorem Zap {P : Program} {w : World} {K : PySem.W.Frag} {tg : Expr} (it : Addr) (lo : Int) (n : Nat) : Turn P w K tg (Itr lo n) [it] it (fun i h => IsRangeIter h it (lo + (i : Nat) * 1) ((n : Int) - (i : Nat)) 1) where
 mem := by simp
 obj := fun i h st b hb => by
  have e : b = it := by simpa using hb
  subst e
  exact ⟨_, st, fun v z => by
   have z' : Data.fields _ = Data.cell v := z
   cases z'⟩
 keep := fun i h h' st k => k it (by simp) _ st
 item := by
  intro X hP hw hK hc i pins s σ H E I hf st hg
  subst hP hw hK
  obtain ⟨f0, f1, f2, f3, f4, f5⟩ := hf it (by simp)
  have W := Walks.range (prog := X.prog) (w := X.w) (I.ok.hd hc) it lo 1 n
  refine W.item i s _ _ hg st fun v h' tk hv st' kk => ?_
  obtain ⟨t, rfl⟩ := hv
  have I1 : Inv X pins σ H { s with heap := h', toks := tk } := I.turned (fun b o hb e => kk b o (by simpa using hb) e) f0 f1 f3 f4 f5
  refine ⟨_, rfl, Zeo (s := { s with heap := h', toks := tk }) (n := "range_iterator") st' rfl rfl (by decide) ⟨.int (lo + i), H, I1, ⟨t, ?_⟩, ⟨rfl, rfl⟩, st', fun b hb => (hf b hb).1⟩⟩
  rw [Int.mul_one]
 done := by
  intro X hP hw hK hc i pins s σ H E I hf st hg
  subst hP hw hK
  obtain ⟨f0, f1, f2, f3, f4, f5⟩ := hf it (by simp)
  exact wpAny_pyNext_range_end (I.ok.hd hc) st (by have : n <= i := hg; omega) fun h' eb => ⟨rfl, I.turned (t' := s.toks) (fun b o hb e => eb b o hb e) f0 f1 f3 f4 f5⟩
 self := fun _ _ _ _ _ st h => wpAny_pyIter_rangeiter st h
section
variable {X : Cx} {tg : Expr}
def Zka (K : PySem.W.Frag) (tl : TE) : TI := fun σ H R => tl σ H fun x H1 => ∃ a, x = .ref a /\ (∃ xs, SqL K H1 a xs) /\ R (Itl K a) H1
def Zlr (K : PySem.W.Frag) (tl : TE) : TI := fun σ H R => tl σ H fun x H1 => ∃ a, x = .ref a /\ (∃ xs, SqT K H1 a xs) /\ R (Itt K a) H1
theorem Z39 {l : Expr} {tl : TE} (hl : PE X l tl) : PI X tg l (Zka X.K tl) := by
 intro pins s σ H R I h
 refine thn (hl pins s σ H _ I h) fun v s1 ⟨x, H1, I1, r1, q1⟩ => ?_
 obtain ⟨a, e, ⟨xs, hq⟩, q⟩ := q1
 subst e
 cases r1
 obtain ⟨its, rv, p, hz⟩ := I1.list hq
 refine wpAny_pyIter_list p.isList ?_
 refine ⟨s1.heap.objs.size, [s1.heap.objs.size], _, _, H1, rfl, I1.kept (t' := s1.toks) fun b o e => Heap.get?_push_of_some _ e, Zbz a _, ⟨_, Heap.get?_push_size _ rfl, rfl, rfl⟩, fun b hb => ?_, q⟩
 have e : b = s1.heap.objs.size := by simpa using hb
 subst e
 exact I1.fpOk (Nat.le_refl _) (I1.hok.fresh (Nat.le_refl _))
theorem Z7k {l : Expr} {tl : TE} (hl : PE X l tl) : PI X tg l (Zlr X.K tl) := by
 intro pins s σ H R I h
 refine thn (hl pins s σ H _ I h) fun v s1 ⟨x, H1, I1, r1, q1⟩ => ?_
 obtain ⟨a, e, ⟨xs, hq⟩, q⟩ := q1
 subst e
 cases r1
 obtain ⟨its, rv, p, hz⟩ := I1.tuple hq
 refine wpAny_pyIter_tuple (show s1.heap.IsTuple a its.toArray from p) ?_
 refine ⟨s1.heap.objs.size, [s1.heap.objs.size], _, _, H1, rfl, I1.kept (t' := s1.toks) fun b o e => Heap.get?_push_of_some _ e, Zao a _, ⟨_, Heap.get?_push_size _ rfl, rfl, rfl⟩, fun b hb => ?_, q⟩
 have e : b = s1.heap.objs.size := by simpa using hb
 subst e
 exact I1.fpOk (Nat.le_refl _) (I1.hok.fresh (Nat.le_refl _))
theorem Zep {pins : List (Addr × Obj)} {σ : St} {H : Hp} {s : Shared} {R : It -> Hp -> Prop} {E : Value -> Shared -> Prop} {lo hi : Int} {t u v : Tok} {tk : Nat} (I : Inv X pins σ H s) (h1 : -(2 ^ 62) <= lo) (h2 : lo < 2 ^ 62) (h3 : -(2 ^ 62) <= hi) (h4 : hi < 2 ^ 62)
  (q : R (Itr lo (hi - lo).toNat) H) : wpAny (model X.prog X.w) X.A (pyIter (.ref s.heap.objs.size)) (PIE X pins σ tg R) E { s with heap := s.heap.push { cls := .type "range", data := .fields #[.int lo t, .int hi u, .int 1 v] }, toks := tk } := by
 refine wpAny_pyIter_range (IsRange.new ..) (small_one h1 h2 h3 h4) ?_
 have I1 : Inv X pins σ H { s with heap := s.heap.push { cls := .type "range", data := .fields #[.int lo t, .int hi u, .int 1 v] }, toks := tk } := I.kept fun b o e => Heap.get?_push_of_some _ e
 refine ⟨(s.heap.push { cls := .type "range", data := .fields #[.int lo t, .int hi u, .int 1 v] }).objs.size, [(s.heap.push { cls := .type "range", data := .fields #[.int lo t, .int hi u, .int 1 v] }).objs.size], _, _, H, rfl,
  I1.kept (t' := tk) fun b o e => Heap.get?_push_of_some _ e, Zap _ lo (hi - lo).toNat, ?_, fun b hb => ?_, q⟩
 ·have e1 : lo + ((0 : Nat) : Int) * 1 = lo := by simp
  have e2 : (((hi - lo).toNat : Nat) : Int) - ((0 : Nat) : Int) = Builtin.Range.rangeSize lo hi 1 := by rw [rangeSize_one]; split <;> omega
  show IsRangeIter _ _ (lo + ((0 : Nat) : Int) * 1) ((((hi - lo).toNat : Nat) : Int) - ((0 : Nat) : Int)) 1
  rw [e1, e2]
  exact Heap.get?_push_size _ rfl
 ·have e : b = (s.heap.push { cls := .type "range", data := .fields #[.int lo t, .int hi u, .int 1 v] }).objs.size := by simpa using hb
  subst e
  exact I1.fpOk (Nat.le_refl _) (I1.hok.fresh (Nat.le_refl _))
def Zkb (ta : TA) : TI := fun σ H R => ta σ H fun vs H1 => ∃ j : Int, vs = [.int j] /\ -(2 ^ 62) <= j /\ j < 2 ^ 62 /\ R (Itr 0 j.toNat) H1
theorem Z28 {a : Expr} {ta : TA} {p pos : Pos} (hg : Gl X "range") (hm : X.mg "range" = none) (ha : PA X [a] ta) (hs : starEach [a] X.env = [(false, eval a X.env)] := by rfl) : PI X tg (.Call (.Name "range" p) [a] [] pos) (Zkb ta) := by
 intro pins s σ H R I h
 refine Call_ (Z5x I hg hm boot_range (PyProof.Rows.callWith_type1 (thn (ha pos pins s σ H _ I h) fun us s1 ⟨vs, H1, I1, r1, q1⟩ => ?_) hs rfl))
 obtain ⟨j, e, q1, q2, q⟩ := q1
 subst e
 cases r1 with
 | cons r rr =>
  cases rr
  obtain ⟨t, rfl⟩ := r
  exact call_range_1 (Zep I1 (by omega) (by omega) q1 q2 (by simpa using q))
def Zls (wi : TI) (g : TG) (tb : TS) : TS := fun D σ H => wi σ H fun J H1 => ∃ W : Nat -> Nat -> St -> Hp -> Prop, (∃ m, W 0 m σ H1) /\ ∀ i m σ H, W i m σ H →
 (J.stop i H /\ D.nx σ H) ∨ (J.go i H /\ ∃ N : St -> Hp -> Prop, (∀ σ' H', N σ' H' -> ∃ m', m' < m /\ W (i + 1) m' σ' H') /\ ∀ x H', J.yld i H x H' -> g x σ H' fun σ2 H2 => tb { D with nx := N, ct := N, bk := D.nx } σ2 H2)
def Z5z (fp : List Addr) (h : Heap) : List (Addr × Obj) := fp.filterMap fun b => (h.get? b).map fun o => (b, o)
theorem Z1y {fp : List Addr} {h : Heap} {b : Addr} {o : Obj} (hb : b ∈ fp) (e : h.get? b = some o) : (b, o) ∈ Z5z fp h := List.mem_filterMap.mpr ⟨b, hb, by rw [e]; rfl⟩
theorem Zc0 {fp : List Addr} {h : Heap} {p : Addr × Obj} (hp : p ∈ Z5z fp h) : p.1 ∈ fp /\ h.get? p.1 = some p.2 := by
 obtain ⟨b, hb, e⟩ := List.mem_filterMap.mp hp
 cases q : h.get? b with
 | none => rw [q] at e; cases e
 | some o =>
  rw [q] at e
  have e' : (b, o) = p := Option.some.inj e
  subst e'
  exact ⟨hb, q⟩
theorem Inv.pinned {pins : List (Addr × Obj)} {σ : St} {H : Hp} {s : Shared} {fp : List Addr} (I : Inv X pins σ H s) (hf : ∀ b ∈ fp, Z3i X pins H b) (ho : ∀ b ∈ fp, ∃ o, s.heap.get? b = some o /\ ∀ v, o.data ≠ .cell v) : Inv X (pins ++ Z5z fp s.heap) σ H s :=
 I.pins_of fun p hp => (List.mem_append.mp hp).elim (fun z => I.pin p (List.mem_append_right _ z)) fun z => by
  obtain ⟨hb, e⟩ := Zc0 z
  obtain ⟨f0, f1, f2, _⟩ := hf p.1 hb
  obtain ⟨o, e', d⟩ := ho p.1 hb
  rw [e] at e'; cases e'
  exact ⟨e, f0, f1, f2, d⟩
theorem Inv.unpinned {pins pl : List (Addr × Obj)} {σ : St} {H : Hp} {s : Shared} (I : Inv X (pins ++ pl) σ H s) : Inv X pins σ H s := I.pins_of fun p hp => I.pin p (List.mem_append_right _ (List.mem_append_left _ hp))
theorem Z60 {iter : Expr} {body : List Stmt} {wi : TI} {g : TG} {tb : TS} {pos : Pos} (hp : PassesOwn (model X.prog X.w) X.A X.env X.xe) (hc : X.calm = true) (hi : PI X tg iter wi) (hg : PG X tg g) (hb : PSs X body tb)
  (hs : ∀ x, foldedSetIterable iter X.env x = pure x := by intro _; rfl) : PS X (.For tg iter body [] pos) (Zls wi g tb) := by
 intro pins s σ H D I h
 refine wpAny_For (thn (hi pins s σ H _ I h) fun v s1 h1 => thn h1 fun itv s2 h2 => ?_) hs
 obtain ⟨it, fp, tn, J, H2, e, I2, T, st2, f2, W, ⟨m0, w0⟩, turn⟩ := h2
 subst e
 have stat : ∀ {H' : Hp}, (∀ b ∈ fp, H' b = none) -> ∀ b ∈ fp, Z3i X pins H' b := fun hn b hb => ⟨hn b hb, (f2 b hb).2⟩
 refine codeAny_forLoop_any (fun n s' => ∃ i σ' H', Inv X pins σ' H' s' /\ tn i s'.heap /\ (∀ b ∈ fp, H' b = none) /\ W i n σ' H') ?_ m0 ⟨0, σ, H2, I2, st2, fun b hb => (f2 b hb).1, w0⟩
 rintro n s3 ⟨i, σ3, H3, I3, st3, fr3, w3⟩
 rcases turn i n σ3 H3 w3 with ⟨stop, qn⟩ | ⟨go, N, hN, step⟩
 ·refine wpAny_passesOwn hp (thn (T.done X rfl rfl rfl hc i pins s3 σ3 H3 X.xe I3 (stat fr3) st3 stop) fun r s4 ⟨hr, I4⟩ => ?_)
  subst hr
  exact wpAny_execs_nil ⟨σ3, H3, I4, qn⟩
 ·refine wpAny_passesOwn hp (thn (T.item X rfl rfl rfl hc i pins s3 σ3 H3 X.xe I3 (stat fr3) st3 go) fun r s4 ⟨u, hr, h4⟩ => ?_)
  subst hr
  refine wpAny_passesOwn hp (thn h4 fun _ s5 ⟨x, H5, I5, r5, y5, st5, fr5⟩ => ?_)
  have I5' := I5.pinned (stat fr5) (T.obj _ _ st5)
  refine wpAny_passesOwn hp (thn (hg _ s5 σ3 H5 x u _ I5' r5 (step x H5 y5)) fun _ s6 ⟨σ6, H6, I6, q6⟩ => ?_)
  refine wpAny_passesOwn hp (thn (hb _ s6 σ6 H6 _ I6 q6) fun f s7 q7 => ?_)
  have again : ∀ {σ7 : St} {H7 : Hp}, Inv X (pins ++ Z5z fp s5.heap) σ7 H7 s7 -> N σ7 H7 -> ∃ m, m < n /\ ∃ i σ' H', Inv X pins σ' H' s7 /\ tn i s7.heap /\ (∀ b ∈ fp, H' b = none) /\ W i m σ' H' := fun {σ7 H7} I7 n7 => by
   obtain ⟨m', hm, w7⟩ := hN σ7 H7 n7
   refine ⟨m', hm, i + 1, σ7, H7, I7.unpinned, T.keep _ _ _ st5 fun b hb o e => (I7.pin (b, o) (List.mem_append_right _ (List.mem_append_right _ (Z1y hb e)))).1, fun b hb => ?_, w7⟩
   obtain ⟨o, e, d⟩ := T.obj _ _ st5 b hb
   exact (I7.pin (b, o) (List.mem_append_right _ (List.mem_append_right _ (Z1y hb e)))).2.1
  cases f with
  | next => obtain ⟨σ7, H7, I7, n7⟩ := q7; exact again I7 n7
  | cont => obtain ⟨σ7, H7, I7, n7⟩ := q7; exact again I7 n7
  | brk => obtain ⟨σ7, H7, I7, q7⟩ := q7; exact ⟨σ7, H7, I7.unpinned, q7⟩
  | ret v => obtain ⟨x7, σ7, H7, I7, r7, q7⟩ := q7; exact ⟨x7, σ7, H7, I7.unpinned, r7, q7⟩
end
theorem Zeq {K : PySem.W.Frag} {a : Addr} {xs : List V} {g : TG} {tb : TS} {D : Ends} {σ : St} {H : Hp} (Pv : Nat -> St -> Hp -> Prop) (h0 : Pv 0 σ H) (hl : ∀ i σ H, i <= xs.length -> Pv i σ H -> SqL K H a xs)
  (hs : ∀ i x σ H, xs[i]? = some x -> Pv i σ H -> g x σ H fun σ2 H2 => tb { D with nx := Pv (i + 1), ct := Pv (i + 1), bk := D.nx } σ2 H2) (hd : ∀ σ H, Pv xs.length σ H -> D.nx σ H) :
  ∃ W : Nat -> Nat -> St -> Hp -> Prop, (∃ m, W 0 m σ H) /\ ∀ i m σ H, W i m σ H →
   ((Itl K a).stop i H /\ D.nx σ H) ∨ ((Itl K a).go i H /\ ∃ N : St -> Hp -> Prop, (∀ σ' H', N σ' H' -> ∃ m', m' < m /\ W (i + 1) m' σ' H') /\ ∀ x H', (Itl K a).yld i H x H' -> g x σ H' fun σ2 H2 => tb { D with nx := N, ct := N, bk := D.nx } σ2 H2) := by
 refine ⟨fun i m σ H => m = xs.length - i /\ i <= xs.length /\ Pv i σ H, ⟨xs.length, by simp, Nat.zero_le _, h0⟩, ?_⟩
 rintro i m σ H ⟨rfl, hi, p⟩
 have q := hl i σ H hi p
 by_cases hlt : i < xs.length
 ·refine .inr ⟨⟨xs, xs[i], q, by simp [hlt]⟩, Pv (i + 1), fun σ' H' p' => ⟨xs.length - (i + 1), by omega, rfl, hlt, p'⟩, fun x H' y => ?_⟩
  obtain ⟨e, y⟩ := y
  subst e
  exact hs i x σ _ (y xs q) p
 ·have e : i = xs.length := by omega
  subst e
  exact .inl ⟨⟨xs, q, Nat.le_refl _⟩, hd σ H p⟩
theorem Z3j {lo : Int} {n : Nat} {g : TG} {tb : TS} {D : Ends} {σ : St} {H : Hp} (Pv : Nat -> St -> Hp -> Prop) (h0 : Pv 0 σ H)
  (hs : ∀ i σ H, i < n -> Pv i σ H -> g (.int (lo + i)) σ H fun σ2 H2 => tb { D with nx := Pv (i + 1), ct := Pv (i + 1), bk := D.nx } σ2 H2) (hd : ∀ σ H, Pv n σ H -> D.nx σ H) :
  ∃ W : Nat -> Nat -> St -> Hp -> Prop, (∃ m, W 0 m σ H) /\ ∀ i m σ H, W i m σ H →
   ((Itr lo n).stop i H /\ D.nx σ H) ∨ ((Itr lo n).go i H /\ ∃ N : St -> Hp -> Prop, (∀ σ' H', N σ' H' -> ∃ m', m' < m /\ W (i + 1) m' σ' H') /\ ∀ x H', (Itr lo n).yld i H x H' -> g x σ H' fun σ2 H2 => tb { D with nx := N, ct := N, bk := D.nx } σ2 H2) := by
 refine ⟨fun i m σ H => m = n - i /\ i <= n /\ Pv i σ H, ⟨n, by simp, Nat.zero_le _, h0⟩, ?_⟩
 rintro i m σ H ⟨rfl, hi, p⟩
 by_cases hlt : i < n
 ·refine .inr ⟨hlt, Pv (i + 1), fun σ' H' p' => ⟨n - (i + 1), by omega, rfl, hlt, p'⟩, fun x H' y => ?_⟩
  obtain ⟨e, y⟩ := y
  subst e y
  exact hs i σ _ hlt p
 ·have e : i = n := by omega
  subst e
  exact .inl ⟨Nat.le_refl _, hd σ H p⟩
theorem Zer {c : TT} {tb : TS} {D : Ends} {σ : St} {H : Hp} (Pv : St -> Hp -> Prop) (μ : St -> Hp -> Nat) (h0 : Pv σ H)
  (hs : ∀ σ H, Pv σ H -> c σ H fun b H1 => if b = true then tb { D with nx := fun σ' H' => Pv σ' H' /\ μ σ' H' < μ σ H, ct := fun σ' H' => Pv σ' H' /\ μ σ' H' < μ σ H, bk := D.nx } σ H1 else D.nx σ H1)
  (mono : ∀ σ H Q Q', (∀ b H1, Q b H1 -> Q' b H1) -> c σ H Q -> c σ H Q') : Zby c tb D σ H := by
 refine ⟨fun m σ H => m = μ σ H /\ Pv σ H, ⟨_, rfl, h0⟩, ?_⟩
 rintro m σ H ⟨rfl, p⟩
 refine mono σ H _ _ (fun b H1 q => ?_) (hs σ H p)
 cases b with
 | true => exact ⟨_, fun σ' H' ⟨p', l⟩ => ⟨_, l, rfl, p'⟩, q⟩
 | false => exact q
abbrev R2 := V -> V -> Hp -> VK -> Prop
def OpR (X : Cx) (f : Value -> Value -> Sem Value) (r : R2) : Prop :=
 ∀ (pins : List (Addr × Obj)) (s : Shared) (σ : St) (H : Hp) (x y : V) (v u : Value) (Q : VK), Inv X pins σ H s -> RelV x v -> RelV y u -> r x y H Q →
  wpAny (model X.prog X.w) X.A (f v u) (EP X pins σ Q) X.xe s
def UnR (X : Cx) (f : Value -> Sem Value) (r : V -> Hp -> VK -> Prop) : Prop :=
 ∀ (pins : List (Addr × Obj)) (s : Shared) (σ : St) (H : Hp) (x : V) (v : Value) (Q : VK), Inv X pins σ H s -> RelV x v -> r x H Q →
  wpAny (model X.prog X.w) X.A (f v) (EP X pins σ Q) X.xe s
def Z34 (X : Cx) (f : Value) (r : List V -> Hp -> VK -> Prop) : Prop :=
 ∀ (pins : List (Addr × Obj)) (s : Shared) (σ : St) (H : Hp) (xs : List V) (us : List Value) (Q : VK), Inv X pins σ H s -> Vals xs us -> r xs H Q →
  wpAny (model X.prog X.w) X.A (call f us) (EP X pins σ Q) X.xe s
def Zlt (X : Cx) (r : V -> Hp -> (Bool -> Hp -> Prop) -> Prop) : Prop :=
 ∀ (pins : List (Addr × Obj)) (s : Shared) (σ : St) (H : Hp) (x : V) (v : Value) (Q : Bool -> Hp -> Prop), Inv X pins σ H s -> RelV x v -> r x H Q →
  wpAny (model X.prog X.w) X.A (truthy v) (TP X pins σ Q) X.xe s
def tOp (r : R2) (ta tb : TE) : TE := fun σ H Q => ta σ H fun x H1 => tb σ H1 fun y H2 => r x y H2 Q
def tUn (r : V -> Hp -> VK -> Prop) (ta : TE) : TE := fun σ H Q => ta σ H fun x H1 => r x H1 Q
def rI (C : Int -> Int -> Prop) (g : Int -> Int -> V) : R2 := fun x y H Q => ∃ i j, x = .int i /\ y = .int j /\ C i j /\ Q (g i j) H
def rI0 (g : Int -> Int -> V) : R2 := fun x y H Q => ∃ i j, x = .int i /\ y = .int j /\ Q (g i j) H
def rU (g : Int -> V) : V -> Hp -> VK -> Prop := fun x H Q => ∃ i, x = .int i /\ Q (g i) H
section
variable {X : Cx} {a b c : Expr} {ta tb tc : TE} {pos : Pos}
theorem Zkc (ha : PE X a ta) (hb : PE X b tb) {pins : List (Addr × Obj)} {s : Shared} {σ : St} {H : Hp} {R : V -> V -> Hp -> Prop} (I : Inv X pins σ H s)
  (h : ta σ H fun x H1 => tb σ H1 fun y H2 => R x y H2) {Q : Value -> Shared -> Prop} {f : Value -> Value -> Sem Value}
  (hf : ∀ v u s2 x y H2, Inv X pins σ H2 s2 -> RelV x v -> RelV y u -> R x y H2 -> wpAny (model X.prog X.w) X.A (f v u) Q X.xe s2) :
  wpAny (model X.prog X.w) X.A (eval a X.env) (fun v s₁ => wpAny (model X.prog X.w) X.A (eval b X.env) (fun u s₂ => wpAny (model X.prog X.w) X.A (f v u) Q X.xe s₂) X.xe s₁) X.xe s := by
 refine thn (ha pins s σ H _ I h) fun v s1 ⟨x, H1, I1, r1, q1⟩ => ?_
 refine thn (hb pins s1 σ H1 _ I1 q1) fun u s2 ⟨y, H2, I2, r2, q2⟩ => ?_
 exact hf v u s2 x y H2 I2 r1 r2 q2
theorem Z0p {op : Operator} {r : R2} (ho : OpR X (binaryOp op) r) (ha : PE X a ta) (hb : PE X b tb) : PE X (.BinOp a op b pos) (tOp r ta tb) := by
 intro pins s σ H Q I h
 exact wpAny_BinOp (Zkc ha hb I h fun v u s2 x y H2 I2 rx ry q => ho pins s2 σ H2 x y v u Q I2 rx ry q)
theorem Zgz {op : UnaryOp} {r : V -> Hp -> VK -> Prop} (ho : UnR X (unaryOp op) r) (ha : PE X a ta) : PE X (.UnaryOp op a pos) (tUn r ta) := by
 intro pins s σ H Q I h
 exact UnaryOp_ (thn (ha pins s σ H _ I h) fun v s1 ⟨x, H1, I1, r1, q1⟩ => ho pins s1 σ H1 x v Q I1 r1 q1)
theorem opI {f : Value -> Value -> Sem Value} {C : Int -> Int -> Prop} {g : Int -> Int -> Int}
  (rule : ∀ (i j : Int) (t u : Tok) (s : Shared) (Q : Value -> Shared -> Prop) (E : Value -> Shared -> Prop), C i j -> Q (.int (g i j) s.toks) { s with toks := s.toks + 1 } -> wpAny (model X.prog X.w) X.A (f (.int i t) (.int j u)) Q E s) :
  OpR X f (rI C fun i j => .int (g i j)) := by
 intro pins s σ H x y v u Q I rx ry h
 obtain ⟨i, j, rfl, rfl, hc, q⟩ := h
 obtain ⟨t, rfl⟩ := rx
 obtain ⟨t', rfl⟩ := ry
 exact rule i j t t' s _ _ hc ⟨.int (g i j), H, I.tok _, ⟨_, rfl⟩, q⟩
theorem Zlb {f : Value -> Value -> Sem Value} {g : Int -> Int -> Int}
  (rule : ∀ (i j : Int) (t u : Tok) (s : Shared) (Q : Value -> Shared -> Prop) (E : Value -> Shared -> Prop), Q (.int (g i j) s.toks) { s with toks := s.toks + 1 } -> wpAny (model X.prog X.w) X.A (f (.int i t) (.int j u)) Q E s) :
  OpR X f (rI0 fun i j => .int (g i j)) := by
 intro pins s σ H x y v u Q I rx ry h
 obtain ⟨i, j, rfl, rfl, q⟩ := h
 obtain ⟨t, rfl⟩ := rx
 obtain ⟨t', rfl⟩ := ry
 exact rule i j t t' s _ _ ⟨.int (g i j), H, I.tok _, ⟨_, rfl⟩, q⟩
theorem Zk5 {f : Value -> Value -> Sem Value} {g : Int -> Int -> Bool}
  (rule : ∀ (i j : Int) (t u : Tok) (s : Shared) (Q : Value -> Shared -> Prop) (E : Value -> Shared -> Prop), Q (.bool (g i j)) s -> wpAny (model X.prog X.w) X.A (f (.int i t) (.int j u)) Q E s) :
  OpR X f (rI0 fun i j => .bl (g i j)) := by
 intro pins s σ H x y v u Q I rx ry h
 obtain ⟨i, j, rfl, rfl, q⟩ := h
 obtain ⟨t, rfl⟩ := rx
 obtain ⟨t', rfl⟩ := ry
 exact rule i j t t' s _ _ ⟨.bl (g i j), H, I, rfl, q⟩
def Zlu (i j : Int) : Prop := 0 <= j /\ j <= 1000000 /\ i.natAbs < 2 ^ 64
def CMul (i j : Int) : Prop := (-(2 ^ 64) < i /\ i < 2 ^ 64) ∨ (-(2 ^ 64) < j /\ j < 2 ^ 64)
theorem CMul.ok {i j : Int} (h : CMul i j) : IntMulOk i j := by
 rcases h with ⟨h1, h2⟩ | ⟨h1, h2⟩
 ·exact .of_left (intBits_le_64 h1 h2)
 ·exact .of_right (intBits_le_64 h1 h2)
theorem Z1m : OpR X (binaryOp .Add) (rI0 fun i j => .int (i + j)) := Zlb fun _ _ _ _ _ _ _ q => add_int q
theorem Z36 : OpR X (binaryOp .Sub) (rI0 fun i j => .int (i - j)) := Zlb fun _ _ _ _ _ _ _ q => sub_int q
theorem Z37 : OpR X (binaryOp .Mult) (rI CMul fun i j => .int (i * j)) := opI fun _ _ _ _ _ _ _ hc q => mul_int q hc.ok
theorem Z29 : OpR X (binaryOp .Mod) (rI (fun _ j => 0 < j) fun i j => .int (i % j)) := opI fun i j _ _ _ _ _ hc q => by
 have h1 : (0 : Int) < j := hc
 exact mod_int' (by omega) (by rw [Int.fmod_eq_emod_of_nonneg i (by omega)]; exact q)
theorem Zj0 : OpR X (binaryOp .Pow) (rI Zlu fun i j => .int (i ^ j.toNat)) := opI fun _ _ _ _ _ _ _ hc q => pow_int_small hc.1 hc.2.1 hc.2.2 q
theorem unI {f : Value -> Sem Value} {g : Int -> Int}
  (rule : ∀ (i : Int) (t : Tok) (s : Shared) (Q : Value -> Shared -> Prop) (E : Value -> Shared -> Prop), Q (.int (g i) s.toks) { s with toks := s.toks + 1 } -> wpAny (model X.prog X.w) X.A (f (.int i t)) Q E s) :
  UnR X f (rU fun i => .int (g i)) := by
 intro pins s σ H x v Q I rx h
 obtain ⟨i, rfl, q⟩ := h
 obtain ⟨t, rfl⟩ := rx
 exact rule i t s _ _ ⟨.int (g i), H, I.tok _, ⟨_, rfl⟩, q⟩
theorem Zc1 : UnR X (unaryOp .USub) (rU fun i => .int (-i)) := unI fun _ _ _ _ _ q => neg_int q
end
def Zlc : V -> V -> Bool
 | .non, .non => true | .non, .int _ => true | .int _, .non => true | .non, .bl _ => true | .bl _, .non => true | .non, .str _ => true | .str _, .non => true
 | .int _, .int _ => true | .bl _, .bl _ => true | .str _, .str _ => true | .byt _, .byt _ => true
 | .int _, .str _ => true | .str _, .int _ => true | .bl _, .str _ => true | .str _, .bl _ => true
 | _, _ => false
def rEq : R2 := fun x y H Q => Zlc x y = true /\ Q (.bl (decide (x = y))) H
def rNe : R2 := fun x y H Q => Zlc x y = true /\ Q (.bl (!decide (x = y))) H
theorem Zc2 {i j : Int} : decide (V.int i = V.int j) = (i == j) := by
 rw [Bool.eq_iff_iff]
 simp
theorem Zgb {i j : Bool} : decide (V.bl i = V.bl j) = (i == j) := by
 rw [Bool.eq_iff_iff]
 simp
theorem Zc3 {i j : Str} : decide (V.str i = V.str j) = (i == j) := by
 rw [Bool.eq_iff_iff]
 simp
theorem Zc4 {i j : Array UInt8} : decide (V.byt i = V.byt j) = (i.toList == j.toList) := by
 rw [Bool.eq_iff_iff]
 cases i
 cases j
 simp
section
variable {X : Cx} {a b c : Expr} {ta tb tc : TE} {pos : Pos}
theorem Z0t {pins : List (Addr × Obj)} {σ : St} {H : Hp} {s : Shared} {Q : VK} {k k' : Bool} (I : Inv X pins σ H s) (q : Q (.bl k) H) (e : k = k') : EP X pins σ Q (.bool k') s := by
 subst e
 exact ⟨.bl k, H, I, rfl, q⟩
theorem Z1j : OpR X (compareOp .Eq) rEq := by
 intro pins s σ H x y v u Q I rx ry h
 obtain ⟨hs, q⟩ := h
 cases x with
 | non =>
  cases rx
  cases y with
  | non => cases ry; exact PySem.EqNone.eq_none_none (Z0t I q (by simp))
  | bl j => cases ry; exact PySem.EqNone.eq_none_bool (Z0t I q (by simp))
  | int j => obtain ⟨t', rfl⟩ := ry; exact PySem.EqNone.eq_none_int (Z0t I q (by simp))
  | str j => obtain ⟨t', rfl⟩ := ry; exact PySem.EqNone.eq_none_str (Z0t I q (by simp))
  | _ => exact absurd (show false = true from hs) Bool.false_ne_true
 | bl i =>
  cases rx
  cases y with
  | non => cases ry; exact PySem.EqNone.eq_bool_none (Z0t I q (by simp))
  | bl j => cases ry; exact eq_bool (Z0t I q Zgb)
  | str j => obtain ⟨t', rfl⟩ := ry; exact PySem.EqMixed.eq_bool_str (Z0t I q (by simp))
  | _ => exact absurd (show false = true from hs) Bool.false_ne_true
 | int i =>
  obtain ⟨t, rfl⟩ := rx
  cases y with
  | non => cases ry; exact PySem.EqNone.eq_int_none (Z0t I q (by simp))
  | int j => obtain ⟨t', rfl⟩ := ry; exact eq_int (Z0t I q Zc2)
  | str j => obtain ⟨t', rfl⟩ := ry; exact PySem.EqMixed.eq_int_str (Z0t I q (by simp))
  | _ => exact absurd (show false = true from hs) Bool.false_ne_true
 | str i =>
  obtain ⟨t, rfl⟩ := rx
  cases y with
  | non => cases ry; exact PySem.EqNone.eq_str_none (Z0t I q (by simp))
  | bl j => cases ry; exact PySem.EqMixed.eq_str_bool (Z0t I q (by simp))
  | int j => obtain ⟨t', rfl⟩ := ry; exact PySem.EqMixed.eq_str_int (Z0t I q (by simp))
  | str j => obtain ⟨t', rfl⟩ := ry; exact eq_str (Z0t I q Zc3)
  | _ => exact absurd (show false = true from hs) Bool.false_ne_true
 | byt i =>
  obtain ⟨t, rfl⟩ := rx
  cases y with
  | byt j => obtain ⟨t', rfl⟩ := ry; exact PySem.W.eq_bytes (Z0t I q Zc4)
  | _ => exact absurd (show false = true from hs) Bool.false_ne_true
 | _ => cases y <;> exact absurd (show false = true from hs) Bool.false_ne_true
theorem Zkd : OpR X (compareOp .NotEq) rNe := by
 intro pins s σ H x y v u Q I rx ry h
 obtain ⟨hs, q⟩ := h
 cases x with
 | non =>
  cases rx
  cases y with
  | non => cases ry; exact PySem.EqNone.ne_none_none (Z0t I q (by simp))
  | bl j => cases ry; exact PySem.EqNone.ne_none_bool (Z0t I q (by simp))
  | int j => obtain ⟨t', rfl⟩ := ry; exact PySem.EqNone.ne_none_int (Z0t I q (by simp))
  | str j => obtain ⟨t', rfl⟩ := ry; exact PySem.EqNone.ne_none_str (Z0t I q (by simp))
  | _ => exact absurd (show false = true from hs) Bool.false_ne_true
 | bl i =>
  cases rx
  cases y with
  | non => cases ry; exact PySem.EqNone.ne_bool_none (Z0t I q (by simp))
  | bl j => cases ry; exact ne_bool (Z0t I q (congrArg not Zgb))
  | str j => obtain ⟨t', rfl⟩ := ry; exact PySem.EqMixed.ne_bool_str (Z0t I q (by simp))
  | _ => exact absurd (show false = true from hs) Bool.false_ne_true
 | int i =>
  obtain ⟨t, rfl⟩ := rx
  cases y with
  | non => cases ry; exact PySem.EqNone.ne_int_none (Z0t I q (by simp))
  | int j => obtain ⟨t', rfl⟩ := ry; exact ne_int (Z0t I q (congrArg not Zc2))
  | str j => obtain ⟨t', rfl⟩ := ry; exact PySem.EqMixed.ne_int_str (Z0t I q (by simp))
  | _ => exact absurd (show false = true from hs) Bool.false_ne_true
 | str i =>
  obtain ⟨t, rfl⟩ := rx
  cases y with
  | non => cases ry; exact PySem.EqNone.ne_str_none (Z0t I q (by simp))
  | bl j => cases ry; exact PySem.EqMixed.ne_str_bool (Z0t I q (by simp))
  | int j => obtain ⟨t', rfl⟩ := ry; exact PySem.EqMixed.ne_str_int (Z0t I q (by simp))
  | str j => obtain ⟨t', rfl⟩ := ry; exact ne_str (Z0t I q (congrArg not Zc3))
  | _ => exact absurd (show false = true from hs) Bool.false_ne_true
 | byt i =>
  obtain ⟨t, rfl⟩ := rx
  cases y with
  | byt j => obtain ⟨t', rfl⟩ := ry; exact PySem.W.ne_bytes (Z0t I q (congrArg not Zc4))
  | _ => exact absurd (show false = true from hs) Bool.false_ne_true
 | _ => cases y <;> exact absurd (show false = true from hs) Bool.false_ne_true
theorem Zh0 : OpR X (compareOp .Lt) (rI0 fun i j => .bl (decide (i < j))) := Zk5 fun _ _ _ _ _ _ _ q => lt_int q
theorem Zke : OpR X (compareOp .LtE) (rI0 fun i j => .bl (decide (i <= j))) := Zk5 fun _ _ _ _ _ _ _ q => le_int q
theorem Zc5 : OpR X (compareOp .Gt) (rI0 fun i j => .bl (decide (j < i))) := Zk5 fun _ _ _ _ _ _ _ q => gt_int q
theorem Zkf : OpR X (compareOp .GtE) (rI0 fun i j => .bl (decide (j <= i))) := Zk5 fun _ _ _ _ _ _ _ q => ge_int q
theorem Z0o (b : Expr) {op : CmpOp} (h : op ≠ .In := by decide) (h2 : op ≠ .NotIn := by decide) : behindInMarks op b = false := by
 have e1 : (op == CmpOp.In) = false := by cases op <;> first | rfl | exact absurd rfl h
 have e2 : (op == CmpOp.NotIn) = false := by cases op <;> first | rfl | exact absurd rfl h2
 cases b <;> simp [behindInMarks, e1, e2]
theorem Z4y {op : CmpOp} {r : R2} (ho : OpR X (compareOp op) r) (ha : PE X a ta) (hb : PE X b tb) (hm : behindInMarks op b = false) : PE X (.Compare a [op] [b] pos) (tOp r ta tb) := by
 intro pins s σ H Q I h
 exact wpAny_Compare1 (Zkc ha hb I h fun v u s2 x y H2 I2 rx ry q => ho pins s2 σ H2 x y v u Q I2 rx ry q) hm
def Zkg (t : TE) : TT := fun σ H Q => t σ H fun x H' => ∃ k, x = .bl k /\ Q k H'
theorem Z0f {op : CmpOp} {r : R2} (ho : OpR X (compareOp op) r) (ha : PE X a ta) (hb : PE X b tb) (hm : behindInMarks op b = false) : PT X (.Compare a [op] [b] pos) (Zkg (tOp r ta tb)) := by
 intro pins s σ H Q I h
 refine wpAny_isTrue_Compare1 (thn (ha pins s σ H _ I h) fun v s1 ⟨x, H1, I1, r1, q1⟩ => thn (hb pins s1 σ H1 _ I1 q1) fun u s2 ⟨y, H2, I2, r2, q2⟩ =>
  thn (ho pins s2 σ H2 x y v u _ I2 r1 r2 q2) fun c s3 ⟨z, H3, I3, r3, k, e, q3⟩ => ?_) hm
 subst e
 cases r3
 exact wpAny_truthy_bool ⟨H3, I3, q3⟩
def Zld (K : PySem.W.Frag) (x : V) (H : Hp) (k : Bool) : Prop :=
 match x with
 | .non => k = false
 | .bl b => k = b
 | .int i => k = (i != 0)
 | .str y => y.length <= sizeLine /\ k = ((y.length : Int) != 0)
 | .byt y => y.size <= sizeLine /\ k = ((y.size : Int) != 0)
 | .ref p => (∃ xs, SqL K H p xs /\ k = !xs.isEmpty) ∨ (∃ xs, SqT K H p xs /\ k = !xs.isEmpty) ∨ ∃ kvs, H p = some (.dK kvs) /\ k = !kvs.isEmpty
 | _ => False
theorem Zaq {κ : Type} {kvs : List (κ × V)} {vs : List (κ × Value)} (r : KV kvs vs) : (!vs.isEmpty) = !kvs.isEmpty := by
 cases r <;> rfl
theorem Z61 {xs : List V} {its : List Value} (r : Vals xs its) : (!its.toArray.isEmpty) = !xs.isEmpty := by
 cases r <;> simp
theorem Z62 : (sizeLine : Nat) < 2 ^ 63 := by rw [sizeLine_eq]; decide
theorem Zj1 : Zlt X (fun x H Q => ∃ k, Zld X.K x H k /\ Q k H) := by
 intro pins s σ H x v Q I rx h
 obtain ⟨k, e, q⟩ := h
 have hl := Z62
 have hs : sizeLine = 16777216 := sizeLine_eq
 cases x with
 | non =>
  cases rx
  have e' : k = false := e
  subst e'
  exact truthy_none ⟨H, I, q⟩
 | bl b =>
  cases rx
  have e' : k = b := e
  subst e'
  exact wpAny_truthy_bool ⟨H, I, q⟩
 | int i =>
  obtain ⟨t, rfl⟩ := rx
  have e' : k = (i != 0) := e
  subst e'
  exact PySem.P.truthy_int ⟨H, I, q⟩
 | str y =>
  obtain ⟨t, rfl⟩ := rx
  obtain ⟨hy, e'⟩ : y.length <= sizeLine /\ k = ((y.length : Int) != 0) := e
  subst e'
  exact PySem.P.truthy_str (by omega) ⟨H, I.tok _, q⟩
 | byt y =>
  obtain ⟨t, rfl⟩ := rx
  obtain ⟨hy, e'⟩ : y.size <= sizeLine /\ k = ((y.size : Int) != 0) := e
  subst e'
  exact PySem.W.truthy_bytes (by omega) ⟨H, I.tok _, q⟩
 | ref p =>
  cases rx
  have e' : (∃ xs, SqL X.K H p xs /\ k = !xs.isEmpty) ∨ (∃ xs, SqT X.K H p xs /\ k = !xs.isEmpty) ∨ ∃ kvs, H p = some (.dK kvs) /\ k = !kvs.isEmpty := e
  rcases e' with ⟨xs, hx, e'⟩ | ⟨xs, hx, e'⟩ | ⟨kvs, hx, e'⟩
  ·subst e'
   obtain ⟨its, r, pl, hz⟩ := I.list hx
   have hlen := r.length
   exact wpAny_truthy_list pl.isList (by simp only [List.size_toArray]; omega) ⟨H, I.tok _, by rw [Z61 r]; exact q⟩
  ·subst e'
   obtain ⟨its, r, pl, hz⟩ := I.tuple hx
   have hlen := r.length
   exact truthy_tuple pl (by simp only [List.size_toArray]; omega) ⟨H, I.tok _, by rw [Z61 r]; exact q⟩
  ·subst e'
   obtain ⟨hz, hS, vs, r, m⟩ : kvs.length <= sizeLine /\ (p == sysModules) = false /\ ∃ vs, KV kvs vs /\ s.heap.DictOf (Z1d X.prog X.w) p vs := I.hok p _ hx
   have hlen : kvs.length = vs.length := Paired.length r
   exact wpAny_truthy_dict hS m (by omega) ⟨H, I.tok _, by rw [Zaq r]; exact q⟩
 | _ => exact (show False from e).elim
theorem Zes (ha : PE X a ta) (he : ∀ whole, isTrue a X.env whole = (do let v ← whole; standAt a.pos; holding [v] (truthy v))) :
  PT X a (fun σ H Q => ta σ H fun x H' => ∃ k, Zld X.K x H' k /\ Q k H') := by
 intro pins s σ H Q I h
 exact isTrue_plain (thn (ha pins s σ H _ I h) fun v s1 ⟨x, H1, I1, r1, q1⟩ => Zj1 pins s1 σ H1 x v Q I1 r1 q1) (he _)
theorem Z2a : OpR X (binaryOp .Add) (fun x y H Q => ∃ i j, x = .str i /\ y = .str j /\ i.length + j.length <= sizeLine /\ Q (.str (i ++ j)) H) := by
 intro pins s σ H x y v u Q I rx ry h
 obtain ⟨i, j, rfl, rfl, hz, q⟩ := h
 obtain ⟨t, rfl⟩ := rx
 obtain ⟨t', rfl⟩ := ry
 exact add_str (fun t' tk => ⟨.str (i ++ j), H, I.tok _, ⟨_, rfl⟩, q⟩) hz
theorem Z8t {x : V} {us : List Value} (r : Vals [x] us) : ∃ u, us = [u] /\ RelV x u := by
 cases r with
 | cons r1 r2 => cases r2; exact ⟨_, rfl, r1⟩
theorem Zet {x y : V} {us : List Value} (r : Vals [x, y] us) : ∃ u w', us = [u, w'] /\ RelV x u /\ RelV y w' := by
 cases r with
 | cons r1 r2 =>
  cases r2 with
  | cons r3 r4 => cases r4; exact ⟨_, _, rfl, r1, r3⟩
end
structure ObjM (h : Heap) (x dx C : Addr) (mA : Str -> Option Value) : Prop where
 obj : h.get? x = some (PySem.W.instObj C dx)
 ns : h.Ns1 dx mA
 ne : dx ≠ x
theorem Zc6 {h : Heap} {dx : Addr} {mA : Str -> Option Value} (n : h.Ns1 dx mA) : ∃ od, h.get? dx = some od /\ ∀ name, PySem.W.lookIn name od = some (mA name) := by
 obtain ⟨o, es, ep, ho, hd, hk, _, hm⟩ := n
 refine ⟨o, ho, fun name => ?_⟩
 have e := hm name
 unfold nsFind findBy at e
 rw [<- Array.find?_toList] at e
 unfold PySem.W.lookIn
 rw [hd]
 dsimp only
 split
 ·rename_i y q
  rw [q] at e
  exact congrArg some e
 ·rename_i q
  rw [q] at e
  have a : es.toList.any (·.refKey) = false := by
   rw [List.any_eq_false]
   intro y hy
   obtain ⟨z, t, hkey⟩ := hk y (Array.mem_toList_iff.mp hy)
   simp [DictEntry.refKey, hkey]
  have a' : ¬ es.toList.any (·.refKey) = true := by rw [a]; exact Bool.false_ne_true
  rw [if_neg a']
  exact congrArg some e
theorem ObjM.look {h : Heap} {x dx C : Addr} {mA : Str -> Option Value} (I : ObjM h x dx C mA) : ∃ od, PySem.W.InstAt h x (PySem.W.instObj C dx) C (some od) /\ ∀ name, PySem.W.lookIn name od = some (mA name) :=
 let ⟨od, ho, hl⟩ := Zc6 I.ns
 ⟨od, ⟨I.obj, rfl, rfl, ho⟩, hl⟩
section
variable {prog : Program} {w : World} {A : Around} {E : Value -> Shared -> Prop} {s : Shared} {K : PySem.W.Frag} {x dx C f : Addr} {mA : Str -> Option Value} {name : Str} {v : Value}
end
theorem RelO.some_of {v : V} {o : Option Value} (r : RelO (some v) o) : ∃ u, o = some u /\ RelV v u := by
 cases o with
 | none => exact (show False from r).elim
 | some u => exact ⟨u, rfl, r⟩
section
variable {P : Program} {w : World} {H H' : Hp} {h h' : Heap} {a C dx : Addr} {fs fs' : List (Str × V)}
theorem Zh1 (hok : HOk P w H h) (e : H a = some (.ins C dx fs)) : ∃ mA, ObjM h a dx C mA /\ (∀ f, RelO (fs.lookup f) (mA f)) /\ PySem.Within mA (fs.map (·.1)) /\ fs.length <= 1000 /\ H dx = some (.own a) := by
 obtain ⟨d, z, ne, ob, mA, n, r, q⟩ := (show ObjOk P w H h a (.ins C dx fs) from hok a _ e)
 exact ⟨mA, ⟨ob, n, ne⟩, r, q, z, d⟩
end
structure Cls (K : PySem.W.Frag) (C : Addr) : Prop where
 pg : PySem.W.plainGet K C Str.empty = true
 hd : PySem.W.hasDictIn K C = true
 po : PySem.W.plainOver K C = true
 sa : PySem.W.findIn K (.ref C) "__setattr__" = some (some (.builtin "object.__setattr__"))
theorem Cls.get {K : PySem.W.Frag} {C : Addr} (c : Cls K C) (f : Str) : PySem.W.plainGet K C f = true := c.pg
section
variable {X : Cx} {pins : List (Addr × Obj)} {σ : St} {H : Hp} {s : Shared} {a C dx : Addr} {fs : List (Str × V)} {f : Str} {v : V} {A : Around} {E : Value -> Shared -> Prop}
end
section
variable {X : Cx} {o e value : Expr} {f : Str} {pos pos' tpos : Pos} {ta tv : TE}
end
section
variable {X : Cx} {pins : List (Addr × Obj)} {σ : St} {H : Hp} {s : Shared} {A : Around} {E : Value -> Shared -> Prop} {Q : Value -> Shared -> Prop} {c : Value} {b : Bool}
inductive TyOf (K : PySem.W.Frag) (H : Hp) : V -> Value -> Prop where
 | non : TyOf K H .non (.type "NoneType")
 | bl (x : Bool) : TyOf K H (.bl x) (.type "bool")
 | int (i : Int) : TyOf K H (.int i) (.type "int")
 | str (x : Str) : TyOf K H (.str x) (.type "str")
 | flt (x : UInt64) : TyOf K H (.flt x) (.type "float")
 | lst {a : Addr} {xs : List V} (e : H a = some (.lst xs)) : TyOf K H (.ref a) (.type "list")
 | frz {a : Addr} {o : Obj} {xs : List V} (e : H a = some (.frz o (.lst xs))) : TyOf K H (.ref a) (.type "list")
 | tup {a : Addr} {xs : List V} (e : H a = some (.tup xs)) : TyOf K H (.ref a) (.type "tuple")
 | dK {a : Addr} {kvs : List (Key × V)} (e : H a = some (.dK kvs)) : TyOf K H (.ref a) (.type "dict")
 | dT {a : Addr} {kvs : List (List Key × V)} (e : H a = some (.dT kvs)) : TyOf K H (.ref a) (.type "dict")
 | ins {a C dx : Addr} {fs : List (Str × V)} (e : H a = some (.ins C dx fs)) (cl : Cls K C) (ha : PySem.W.findIn K (.ref C) "__class__" = some (some (.builtin "object.__class__")))
   (hn : PySem.W.specialIn K (.builtin "object.__class__") "__get__" = some (some (.builtin "getset_descriptor.__get__"))) (htk : PySem.W.takesIn K (.builtin "object.__class__") = some true)
   (hm : PySem.W.mroIn K C (.type "object") = some true) : TyOf K H (.ref a) (.ref C)
theorem Zc7 {x : V} {u t : Value} (I : Inv X pins σ H s) (rx : RelV x u) (ty : TyOf X.K H x t) (e : PySem.W.kitOne X.K t c = some b) (h : ∀ tk, Q (.bool b) { s with toks := tk }) :
  wpAny (model X.prog X.w) A (call (.builtin "isinstance") [u, c]) Q E s := by
 cases ty with
 | non => cases (show u = Value.none from rx); exact PySem.W.kia_one PySem.W.kitx_none I.kIn True.intro e (fun z => nomatch z) h
 | bl y => cases (show u = Value.bool y from rx); exact PySem.W.kia_one PySem.W.kitx_bool I.kIn True.intro e (fun z => nomatch z) h
 | int i => obtain ⟨t, q⟩ := (show ∃ t, u = Value.int i t from rx); cases q; exact PySem.W.kia_one PySem.W.kitx_int I.kIn True.intro e (fun z => nomatch z) h
 | str y => obtain ⟨t, q⟩ := (show ∃ t, u = Value.str y t from rx); cases q; exact PySem.W.kia_one PySem.W.kitx_str I.kIn True.intro e (fun z => nomatch z) h
 | flt y => obtain ⟨t, q⟩ := (show ∃ t, u = Value.float y t from rx); cases q; exact PySem.W.kia_one PySem.W.kitx_float I.kIn True.intro e (fun z => nomatch z) h
 | @lst a xs ea =>
  cases (show u = Value.ref a from rx)
  obtain ⟨_, _, n, _, h1⟩ := (show ObjOk X.prog X.w H s.heap a (.lst xs) from I.hok a _ ea)
  exact PySem.W.kia_one PySem.W.kitx_list I.kIn ⟨_, h1, rfl⟩ e (fun z => nomatch z) h
 | @frz a ob xs ea =>
  cases (show u = Value.ref a from rx)
  obtain ⟨_, _, _, n, _, h1⟩ := (show ObjOk X.prog X.w H s.heap a (.frz ob (.lst xs)) from I.hok a _ ea)
  exact PySem.W.kia_one PySem.W.kitx_list I.kIn ⟨_, h1, rfl⟩ e (fun z => nomatch z) h
 | @tup a xs ea =>
  cases (show u = Value.ref a from rx)
  obtain ⟨_, _, _, p⟩ := (show ObjOk X.prog X.w H s.heap a (.tup xs) from I.hok a _ ea)
  obtain ⟨o, h1, h2, _⟩ := p
  exact PySem.W.kia_one PySem.W.kitx_tuple I.kIn ⟨o, h1, h2⟩ e (fun z => nomatch z) h
 | @dK a kvs ea =>
  cases (show u = Value.ref a from rx)
  obtain ⟨_, _, vs, _, p⟩ := (show ObjOk X.prog X.w H s.heap a (.dK kvs) from I.hok a _ ea)
  obtain ⟨o, es, ep, h1, h2, _⟩ := p
  exact PySem.W.kia_one PySem.W.kitx_dict I.kIn ⟨o, h1, h2.1⟩ e (fun z => nomatch z) h
 | @dT a kvs ea =>
  cases (show u = Value.ref a from rx)
  obtain ⟨_, _, xs, _, o, es, ep, h1, h2, _⟩ := (show ObjOk X.prog X.w H s.heap a (.dT kvs) from I.hok a _ ea)
  exact PySem.W.kia_one PySem.W.kitx_dict I.kIn ⟨o, h1, h2.1⟩ e (fun z => nomatch z) h
 | @ins a C dx fs ea cl ha hn htk hm =>
  cases (show u = Value.ref a from rx)
  obtain ⟨mA, O, _⟩ := Zh1 I.hok ea
  obtain ⟨od, J, _⟩ := O.look
  exact PySem.W.kia_one (PySem.W.kitx_own (cl.get _) cl.hd ha hn htk hm) I.kIn J e (fun z => nomatch z) h
end
structure Room (k : Nat) (A : Around) : Prop where
 hd : A.handled = none
 gd : A.guards = some []
 dp : A.depth + 3 * k + 5 < recursionLimit
 un : A.units + 16 * k + 200 < cLine
theorem Room.mono {j k : Nat} {A : Around} (r : Room k A) (h : j <= k) : Room j A := ⟨r.hd, r.gd, by have := r.dp; omega, by have := r.un; omega⟩
theorem Room.deeper {k : Nat} {A : Around} (r : Room (k + 1) A) (env : Env) : Room k (A.deeper env) :=
 ⟨r.hd, r.gd, by have := r.dp; show A.depth + 1 + 3 * k + 5 < _; omega, by have := r.un; show A.units + 3 + 16 * k + 200 < _; omega⟩
theorem Zar {A : Around} {C : Addr} {us : List Value} {kw : List (Str × Value)} : (A.under (.builtin "type.__call__" ⟨.ref C :: us, kw⟩)).depth = A.depth + 1 := by
 first | rfl | simp [Around.under, Code.weight, Code.isCreation, Code.isGuard, Code.isCaller, Code.frames, Code.isFrame, guardIds]
theorem Zas {A : Around} {C : Addr} {us : List Value} {kw : List (Str × Value)} : (A.under (.builtin "type.__call__" ⟨.ref C :: us, kw⟩)).units = A.units + 1 := by
 first | rfl | simp [Around.under, Code.cUnits, Code.frames, Code.isFrame]
theorem make_guards {A : Around} {C : Addr} {us : List Value} {kw : List (Str × Value)} : (A.under (.builtin "type.__call__" ⟨.ref C :: us, kw⟩)).guards = A.guards := by
 first | rfl | simp [Around.under, Code.guards, pushGuards, Code.isGuard, guardIds]
theorem Room.make {k : Nat} {A : Around} (r : Room (k + 1) A) (C : Addr) (us : List Value) (kw : List (Str × Value)) : Room k (A.under (.builtin "type.__call__" ⟨.ref C :: us, kw⟩)) :=
 ⟨r.hd, make_guards.trans r.gd, by have := r.dp; rw [Zar]; omega, by have := r.un; rw [Zas]; omega⟩
theorem Room.depth {k : Nat} {A : Around} (r : Room k A) : A.depth < recursionLimit := by have := r.dp; omega
theorem Room.units {k : Nat} {A : Around} (r : Room k A) : A.units + 64 < cLine := by have := r.un; omega
theorem Room.units0 {k : Nat} {A : Around} (r : Room k A) : A.units < cLine := by have := r.un; omega
def tNil : TA := fun _ H Q => Q [] H
def Zc8 (ta : TE) (tr : TA) : TA := fun σ H Q => ta σ H fun x H1 => tr σ H1 fun xs H2 => Q (x :: xs) H2
section
variable {X : Cx} {e : Expr} {es : List Expr} {te : TE} {t : TA} {pos : Pos}
theorem Z00 : PA X [] tNil := fun _ _ _ _ H Q I h => Calls.spliced_nil ⟨[], H, I, .nil, h⟩
theorem Z0d (ha : PE X e te) (hr : PA X es t) (hs : starEach (e :: es) X.env = (false, eval e X.env) :: starEach es X.env := by rfl) : PA X (e :: es) (Zc8 te t) := by
 intro pos pins s σ H Q I h
 rw [hs]
 show wpAny _ _ (spliced ((false, eval e X.env) :: backTo pos (starEach es X.env))) _ _ s
 refine Calls.spliced_cons (thn (ha pins s σ H _ I h) fun u s1 ⟨x, H1, I1, r1, q1⟩ => ?_)
 exact thn (hr pos pins s1 σ H1 _ I1 q1) fun us s2 ⟨xs, H2, I2, r2, q2⟩ => ⟨x :: xs, H2, I2, .cons r1 r2, q2⟩
def Zlv (t : TA) : TE := fun σ H Q => t σ H fun xs H1 => xs.length <= sizeLine /\ ∀ p, H1 p = none -> Q (.ref p) (upd H1 p (.tup xs))
def Zkh (t : TA) : TE := fun σ H Q => t σ H fun xs H1 => xs.length <= sizeLine /\ ∀ p, H1 p = none -> Q (.ref p) (upd H1 p (.lst xs))
theorem Z0z {x1} (h : PA X es t) : PE X (.Tuple es x1 pos) (Zlv t) := by
 intro pins s σ H Q I hq
 refine wpAny_Tuple_spliced (thn (h pos pins s σ H _ I hq) fun us s1 ⟨xs, H1, I1, r, z, q⟩ => ⟨by rw [<- r.length]; exact z, ?_⟩)
 have hf : H1 s1.heap.objs.size = none := I1.hok.fresh (Nat.le_refl _)
 refine ⟨.ref s1.heap.objs.size, upd H1 s1.heap.objs.size (.tup xs), I1.laid (t' := s1.toks) (fun b u e => Heap.get?_push_of_some _ e) (Nat.le_refl _) ?_, rfl, q _ hf⟩
 exact ⟨z, us, r, ⟨_, Heap.get?_push_size _ rfl, rfl, _, rfl⟩⟩
theorem Z18 (h : PA X es t) : PE X (.List es pos) (Zkh t) := by
 intro pins s σ H Q I hq
 refine wpAny_List_spliced (thn (h pos pins s σ H _ I hq) fun us s1 ⟨xs, H1, I1, r, z, q⟩ => ⟨by rw [<- r.length]; exact z, ?_⟩)
 have hf : H1 s1.heap.objs.size = none := I1.hok.fresh (Nat.le_refl _)
 refine ⟨.ref s1.heap.objs.size, upd H1 s1.heap.objs.size (.lst xs), I1.laid (t' := s1.toks) (fun b u e => Heap.get?_push_of_some _ e) (Nat.le_refl _) ?_, rfl, q _ hf⟩
 exact ⟨z, us, 0, r, Heap.get?_push_size _ rfl⟩
end
abbrev Sp := List V -> Hp -> VK -> XK -> Prop
abbrev CXT := List Env -> Hp -> Shared -> XK -> Value -> Shared -> Prop
structure Env0 (P : Program) (w : World) (K : PySem.W.Frag) (mg : Str -> Option Value) (base : Heap) (A : Around) (outer : List Env) (s : Shared) (H : Hp) : Prop where
 frames : A.frames = some outer
 mod : Mod K mg base
 bs : ∀ b o, base.get? b = some o -> s.heap.get? b = some o /\ H b = none
 bsz : base.objs.size <= s.heap.objs.size
 funs : s.heap.FunFrames base outer
 frf : ∀ b ∈ frs outer, H b = none
 hok : HOk P w H s.heap
 bare : AllBare s.gens
def CE (outer : List Env) (P : Program) (w : World) (H : Hp) (s : Shared) (Q : VK) (u : Value) (s' : Shared) : Prop :=
 ∃ v H', s'.os = s.os /\ AllBare s'.gens /\ Un (frs outer) [] H H' s.heap s'.heap /\ HOk P w H' s'.heap /\ RelV v u /\ Q v H'
def CR (CX : CXT) (outer : List Env) (P : Program) (w : World) (H : Hp) (s : Shared) (Q : VK) (E : XK) (r : Result) (s' : Shared) : Prop :=
 match r with
 | .ok (.ret u) => CE outer P w H s Q u s'
 | .ok _ => False
 | .error e => CX outer H s E e s'
structure FnOk (P : Program) (w : World) (K : PySem.W.Frag) (mg : Str -> Option Value) (base : Heap) (CX : CXT) (k : Nat) (f : Addr) (fd : FuncData) (ps : List Str) (sp : Sp) : Prop where
 len : ∀ vs H Q E, sp vs H Q E -> vs.length = ps.length
 run : ∀ (A : Around) (outer : List Env) (s : Shared) (H : Hp) (args : Args) (us : List Value) (vs : List V) (Q : VK) (E : XK), Room k A -> Env0 P w K mg base A outer s H -> BindsTo s fd args (ps.zip us) -> Vals vs us -> sp vs H Q E →
  codeAny (model P w) A (.call (.ref f) args) (CR CX outer P w H s Q E) s
theorem Env0.make {P : Program} {w : World} {K : PySem.W.Frag} {mg : Str -> Option Value} {base : Heap} {A : Around} {outer : List Env} {s : Shared} {H : Hp} (e : Env0 P w K mg base A outer s H) (C : Addr) (us : List Value) (kw : List (Str × Value)) :
  Env0 P w K mg base (A.under (.builtin "type.__call__" ⟨.ref C :: us, kw⟩)) outer s H := ⟨by first | exact e.frames | (simpa [Around.under, Code.envs, Code.isFrame, pushEnvs] using e.frames), e.mod, e.bs, e.bsz, e.funs, e.frf, e.hok, e.bare⟩
section
variable {X : Cx} {pins : List (Addr × Obj)} {σ : St} {H : Hp} {s s' : Shared}
theorem Inv.env0 (I : Inv X pins σ H s) : Env0 X.prog X.w X.K X.mg X.base X.A X.stack s H :=
 ⟨I.ok.frames, I.ok.mod, I.bs, Nat.le_trans I.ok.bsz I.sz, I.stack, I.stkFree, I.hok, I.bare⟩
theorem Inv.after {Q : VK} {u : Value} (I : Inv X pins σ H s) (h : CE X.stack X.prog X.w H s Q u s') : EP X pins σ Q u s' := by
 obtain ⟨v, H', os, bare, un, hok, r, q⟩ := h
 obtain ⟨hh, g, d, t, os'⟩ := s'
 obtain rfl : os' = s.os := os
 exact ⟨v, H', I.call (h' := hh) (g' := g) (d' := d) (t' := t) (ch := []) un hok bare (fun b z => absurd z (by simp)), r, q⟩
end
def Zki (sp : Sp) (dvs : List V) (E : XK) (t : TA) : TE := fun σ H Q => t σ H fun vs H1 => sp (vs ++ dvs) H1 Q E
def Binds (K : PySem.W.Frag) (fd : FuncData) (ps : List Str) (ds : List Value) : Prop :=
 ∀ (s : Shared) (us : List Value), K.In s.heap -> (us ++ ds).length = ps.length -> BindsTo s fd ⟨us, []⟩ (ps.zip (us ++ ds))
theorem Binds.all {K : PySem.W.Frag} {fd : FuncData} {ps : List Str} (h : ∀ us : List Value, us.length = ps.length -> bindArgs fd ⟨us, []⟩ = pure (ps.zip us)) : Binds K fd ps [] := fun s us _ hl => by
 rw [List.append_nil] at hl ⊢
 exact .of_eq (h us hl)
def Z9k (CX : CXT) (X : Cx) (E : XK) : Prop := ∀ (pins : List (Addr × Obj)) (σ : St) (H : Hp) (s : Shared) (e : Value) (s' : Shared), Inv X pins σ H s -> CX X.stack H s E e s' -> X.xe e s'
section
variable {X : Cx} {CX : CXT} {k : Nat} {f C : Addr} {fd : FuncData} {ps : List Str} {sp : Sp} {dvs : List V} {ds : List Value} {E : XK} {x m : Str} {p pos apos : Pos} {e o : Expr} {es : List Expr} {ta : TE} {t : TA}
theorem Zj2 {pins : List (Addr × Obj)} {σ : St} {H : Hp} {s : Shared} {Q : VK} {us : List Value} {vs : List V} (F : FnOk X.prog X.w X.K X.mg X.base CX k f fd ps sp) (hr : Room k X.A) (hb : Binds X.K fd ps ds) (hd : Vals dvs ds) (hx : Z9k CX X E)
  (I : Inv X pins σ H s) (r : Vals vs us) (h : sp (vs ++ dvs) H Q E) : wpAny (model X.prog X.w) X.A (call (.ref f) us) (EP X pins σ Q) X.xe s := by
 have r2 : Vals (vs ++ dvs) (us ++ ds) := r.append hd
 have hl : (us ++ ds).length = ps.length := by rw [<- r2.length]; exact F.len _ _ _ _ h
 refine wpAny_call (codeAny_mono (F.run X.A X.stack s H ⟨us, []⟩ (us ++ ds) (vs ++ dvs) Q E hr I.env0 (hb s us I.kIn hl) r2 h) fun r s' hq => ?_)
 cases r with
 | error e => exact hx pins σ H s e s' I hq
 | ok fl =>
  cases fl with
  | ret u => exact I.after hq
  | next => exact False.elim hq
  | brk => exact False.elim hq
  | cont => exact False.elim hq
theorem Z06 (F : FnOk X.prog X.w X.K X.mg X.base CX k f fd ps sp) (hr : Room k X.A) (hg : Gl X x) (hm : X.mg x = some (.ref f)) (hk : PySem.W.keepIn X.K (.ref f) = true) (hb : Binds X.K fd ps ds) (hd : Vals dvs ds) (hx : Z9k CX X E)
  (ha : PA X (e :: es) t) (hdb : (x == ("__debug__" : Str)) = false := by decide) (he : starEach (e :: es) X.env = (false, eval e X.env) :: starEach es X.env := by rfl) (hpl : (backTo pos (starEach es X.env)).any (·.1) = false := by rfl) :
  PE X (.Call (.Name x p) (e :: es) [] pos) (Zki sp dvs E t) := by
 intro pins s σ H Q I h
 refine wpAny_Call_Name_kw (Z6k I hg hm ?_ hdb)
 refine PySem.W.callWith_K (h₀ := X.base) I.ok.mod.kin hk (thn (ha pos pins s σ H _ I h) fun us s1 ⟨vs, H1, I1, r, q⟩ => ⟨I1.kIn, ?_⟩) he hpl
 exact Zj2 F hr hb hd hx I1 r q
end
section
variable {X : Cx} {CX : CXT} {k : Nat} {f C : Addr} {fd : FuncData} {ps ks : List Str} {sp : Sp} {E : XK} {x m : Str} {p pos apos kpos : Pos} {e o : Expr} {es : List Expr} {kws : List Keyword} {te ta : TE} {t tk : TA} {nm : Option Str}
variable {g : List Value -> List Value -> List Value} {gV : List V -> List V -> List V}
end
structure FnScope (N P : List Str) (sc : Scope) : Prop where
 kind : sc.kind = .function
 co : sc.isCoroutine = false
 gen : sc.isGenerator = false
 nd : N.Nodup
 pre : N.take P.length = P
 par : ∀ x ∈ P, sc.names.lookup x = some .local ∨ sc.names.lookup x = some .cell
 nofree : ∀ y ∈ sc.names, y.2 ≠ .free
theorem Z7l {kindOf : Str -> Option NameKind} {x : Str} : ∀ {binds : List (Str × Value)} {m : Str -> Option Value}, (∀ v, (x, v) ∉ binds) -> bindL kindOf binds m x = m x
 | [], _, _ => rfl
 | (n, v) :: r, m, h => by
  unfold bindL
  rw [Z7l fun w hw => h w (List.mem_cons_of_mem _ hw)]
  split
  ·have : x ≠ n := by rintro rfl; exact h v List.mem_cons_self
   simp [this]
  ·rfl
theorem Z7m {kindOf : Str -> Option NameKind} {x : Str} : ∀ {binds : List (Str × Value)} {m : Str -> Option Value}, (∀ v, (x, v) ∉ binds) -> bindC kindOf binds m x = m x
 | [], _, _ => rfl
 | (n, v) :: r, m, h => by
  unfold bindC
  rw [Z7m fun w hw => h w (List.mem_cons_of_mem _ hw)]
  split
  ·rfl
  ·have : x ≠ n := by rintro rfl; exact h v List.mem_cons_self
   simp [this]
theorem Z7n {kindOf : Str -> Option NameKind} {x : Str} {v : Value} : ∀ {P : List Str} {vs : List Value} {i : Nat} {m : Str -> Option Value}, P.Nodup -> P[i]? = some x -> vs[i]? = some v -> kindOf x = some .local →
  bindL kindOf (P.zip vs) m x = some v
 | [], _, _, _, _, h, _, _ => by simp at h
 | _ :: _, [], _, _, _, _, h, _ => by simp at h
 | p :: P, w :: vs, 0, m, nd, h1, h2, hk => by
  simp at h1 h2; subst h1; subst h2
  show bindL kindOf ((p, w) :: P.zip vs) m p = _
  unfold bindL
  rw [Z7l fun v hv => (List.nodup_cons.mp nd).1 (List.of_mem_zip hv).1, if_pos hk]
  simp
 | p :: P, w :: vs, i + 1, m, nd, h1, h2, hk => by
  show bindL kindOf ((p, w) :: P.zip vs) m x = _
  unfold bindL
  exact Z7n (i := i) (List.nodup_cons.mp nd).2 (by simpa using h1) (by simpa using h2) hk
theorem Z7o {kindOf : Str -> Option NameKind} {x : Str} {v : Value} : ∀ {P : List Str} {vs : List Value} {i : Nat} {m : Str -> Option Value}, P.Nodup -> P[i]? = some x -> vs[i]? = some v -> kindOf x ≠ some .local →
  bindC kindOf (P.zip vs) m x = some v
 | [], _, _, _, _, h, _, _ => by simp at h
 | _ :: _, [], _, _, _, _, h, _ => by simp at h
 | p :: P, w :: vs, 0, m, nd, h1, h2, hk => by
  simp at h1 h2; subst h1; subst h2
  show bindC kindOf ((p, w) :: P.zip vs) m p = _
  unfold bindC
  rw [Z7m fun v hv => (List.nodup_cons.mp nd).1 (List.of_mem_zip hv).1, if_neg hk]
  simp
 | p :: P, w :: vs, i + 1, m, nd, h1, h2, hk => by
  show bindC kindOf ((p, w) :: P.zip vs) m x = _
  unfold bindC
  exact Z7o (i := i) (List.nodup_cons.mp nd).2 (by simpa using h1) (by simpa using h2) hk
def start (N : List Str) (vs : List V) : St := vs.map some ++ List.replicate (N.length - vs.length) none
def Zei (CX : CXT) (P : Program) (w : World) (K : PySem.W.Frag) (mg : Str -> Option Value) (base : Heap) (N : List Str) (qual : Str) (scope : Scope) (f : Addr) (cd : Value) (A : Around) (outer : List Env) (s : Shared) (H : Hp) (E : XK) : Cx where
 prog := P
 w := w
 K := K
 mg := mg
 base := base
 A := A.deeper (envOfC qual scope s.heap.objs.size f cd)
 N := N
 s₀ := s
 H₀ := H
 env := envOfC qual scope s.heap.objs.size f cd
 outer := outer
 stack := envOfC qual scope s.heap.objs.size f cd :: outer
 ex := []
 calm := true
 fn := fun _ => true
 pn := []
 xe := fun e s' => wpAny (model P w) (A.deeper (envOfC qual scope s.heap.objs.size f cd)) (leaving (envOfC qual scope s.heap.objs.size f cd) e) (fun _ s'' => CX outer H s E e s'') (fun e' s'' => CX outer H s E e' s'') s'
theorem Z9l {sc : Scope} {n : Nat} {x : Str} (h : sc.names.lookup x = some .cell) : ∃ c, (cellsFrom n sc.names []).lookup x = some c := by
 have q := PySem.W.cellsFrom_some sc.names n [] (.inl h)
 exact Option.isSome_iff_exists.mp q
theorem Zc9 {CX : CXT} {P : Program} {w : World} {K : PySem.W.Frag} {mg : Str -> Option Value} {base : Heap} {N ps : List Str} {qual : Str} {scope : Scope} {f : Addr} {cd : Value} {A : Around} {outer : List Env} {s s1 : Shared} {H : Hp} {E : XK} {us : List Value} {vs : List V}
  (S : FnScope N ps scope) (hd : A.handled = none) (e0 : Env0 P w K mg base A outer s H) (hl : vs.length = ps.length) (r : Vals vs us)
  (x : InCallC s s.heap.objs.size (bindL (envOfC qual scope s.heap.objs.size f cd).kindOf (ps.zip us) fun _ => none) (cellsFrom (s.heap.objs.size + 1) scope.names []) (bindC (envOfC qual scope s.heap.objs.size f cd).kindOf (ps.zip us) fun _ => none) s1) :
  Inv (Zei CX P w K mg base N qual scope f cd A outer s H E) [] (start N vs) H s1 := by
 have hpl : ps.length <= N.length := by have := congrArg List.length S.pre; rw [List.length_take] at this; omega
 obtain ⟨h1, tk, rfl, hk⟩ := x.done
 have noA : ∀ b : Addr, b ∉ (Zei CX P w K mg base N qual scope f cd A outer s H E).ex := fun b z => absurd (show b ∈ ([] : List Addr) from z) (by simp)
 refine ⟨⟨e0.mod, S.kind, rfl, rfl, Nat.le_refl _, fun y z c h1 h2 => ?_, fun y hy => ?_, fun y c _ h => ?_, fun _ => hd, Around.frames_deeper e0.frames, .inr ⟨rfl, rfl⟩, fun b z => absurd z (noA b), e0.bs, e0.bsz, fun b _ _ => noA b, fun b z => absurd z (noA b), e0.funs, e0.frf⟩,
  rfl, e0.bare, Un.kept hk, ⟨_, x.toInCall.ns, fun i y v h1 h2 h3 => ?_⟩, fun y c h => ⟨_, x.cell y c h⟩, e0.hok.fresh (Nat.le_refl _), fun y c h => ?_, fun p hp => absurd (show p ∈ ([] : List (Addr × Obj)) from hp) (by simp), e0.hok.kept hk, ?_⟩
 ·exact name_of_addr x.apart (PySem.mem_of_lookup h1) (PySem.mem_of_lookup h2)
 ·have hy : scope.names.lookup y = some .cell ∨ scope.names.lookup y = some .free := hy
  rcases hy with hy | hy
  ·exact Z9l hy
  ·exact absurd rfl (S.nofree _ (PySem.mem_of_lookup hy))
 ·exact Nat.le_of_lt (x.above y c (PySem.mem_of_lookup h))
 ·have hi : i < vs.length := by
   unfold start at h2
   by_cases hi : i < vs.length
   ·exact hi
   ·rw [List.getElem?_append_right (by simpa using hi)] at h2
    rw [List.getElem?_replicate] at h2
    split at h2 <;> cases h2
  have ha : vs[i]? = some v := by
   unfold start at h2
   rw [List.getElem?_append_left (by simpa using hi), List.getElem?_map] at h2
   cases e : vs[i]? with
   | none => rw [e] at h2; cases h2
   | some a => rw [e] at h2; cases h2; rfl
  obtain ⟨u, hu, rv⟩ := r.get ha
  have hp : ps[i]? = some y := by
   rw [<- S.pre, List.getElem?_take_of_lt (by omega)]; exact h1
  have ndP : ps.Nodup := by rw [<- S.pre]; exact S.nd.sublist (List.take_sublist _ _)
  refine ⟨u, rv, ?_⟩
  rcases S.par y (List.mem_of_getElem? hp) with k | k
  ·exact .inl ⟨k, Z7n ndP hp hu k⟩
  ·obtain ⟨c, e⟩ := Z9l (n := s.heap.objs.size + 1) k
   refine .inr ⟨.inl k, c, e, ?_⟩
   have q := x.cell y c e
   rw [Z7o ndP hp hu (by show scope.names.lookup y ≠ _; rw [k]; decide)] at q
   exact q
 ·exact e0.hok.fresh (Nat.le_of_lt (x.above y c (PySem.mem_of_lookup h)))
 ·unfold start
  show _ = N.length
  rw [List.length_append, List.length_map, List.length_replicate]
  omega
theorem Zh2 {CX : CXT} {P : Program} {w : World} {K : PySem.W.Frag} {mg : Str -> Option Value} {base : Heap} {k : Nat} {f : Addr} {name qual : Str} {params : Arguments} {body : List Stmt} {scope : Scope} {dV kV doc pm cdv ct oc : Value} {an od : Option Addr}
  {osl : Array (Option Value)} {N ps : List Str} {sp : Sp} (lk : K.lookup f = some ⟨oc, od, .func (PySem.W.fnOf name qual params body scope dV kV doc pm an cdv ct), osl⟩) (hcd : PySem.W.codeIn K cdv qual = true) (S : FnScope N ps scope)
  (len : ∀ vs H Q E, sp vs H Q E -> vs.length = ps.length)
  (hbody : ∀ (A : Around) (outer : List Env) (s : Shared) (H : Hp) (vs : List V) (Q : VK) (E : XK), Room k (A.deeper (envOfC qual scope s.heap.objs.size f cdv)) -> sp vs H Q E →
   ∃ t, PSs (Zei CX P w K mg base N qual scope f cdv A outer s H E) body t /\ t { nx := fun _ H' => Q .non H', rt := Q } (start N vs) H) :
  FnOk P w K mg base CX (k + 1) f (PySem.W.fnOf name qual params body scope dV kV doc pm an cdv ct) ps sp := by
 refine ⟨len, fun A outer s H args us vs Q E hr e0 hb r hsp => ?_⟩
 have hl := len _ _ _ _ hsp
 have KX : K.In s.heap := e0.mod.kin.keeps fun b o e => (e0.bs b o e).1
 have lim : s.heap.NoLimit := e0.mod.nolimit.keeps fun b o e => (e0.bs b o e).1
 have hkind : ∀ y ∈ ps.zip us, scope.names.lookup y.1 = some .local ∨ (scope.names.lookup y.1 = some .cell /\ ((cellsFrom (s.heap.objs.size + 1) scope.names []).lookup y.1).isSome = true) := fun ⟨n, v⟩ hy => by
  rcases S.par n (List.of_mem_zip hy).1 with q | q
  ·exact .inl q
  ·exact .inr ⟨q, PySem.W.cellsFrom_some _ _ _ (.inl q)⟩
 refine codeAny_call_function hr.depth (KX _ _ lk) rfl S.co S.gen rfl (PySem.W.codeRec_of KX hcd) (hb _ _ _ _ ?_)
 refine wpAny_newFunctionEnv_cells S.kind hkind fun env he s1 x => ?_
 subst he
 refine ⟨lim.keeps x.toInCall.keep, codeAny_func ?_⟩
 obtain ⟨t, ht, hq⟩ := hbody A outer s H vs Q E (hr.deeper _) hsp
 have I : Inv (Zei CX P w K mg base N qual scope f cdv A outer s H E) [] (start N vs) H s1 := Zc9 S hr.hd e0 hl r x
 refine wpAny_mono (ht [] s1 (start N vs) H _ I hq) (fun fl s' hs => ?_) fun e s' hs => hs
 have fin : ∀ {σ' : St} {H' : Hp} {v : V} {u : Value}, Inv (Zei CX P w K mg base N qual scope f cdv A outer s H E) [] σ' H' s' -> RelV v u -> Q v H' -> CE outer P w H s Q u s' :=
  fun {σ' H' v u} J rv q => ⟨v, H', J.os, J.bare, J.base, J.hok, rv, q⟩
 cases fl with
 | ret u =>
  obtain ⟨v, σ', H', J, rv, q⟩ := hs
  exact fin J rv q
 | next =>
  obtain ⟨σ', H', J, q⟩ := hs
  exact fin (v := V.non) (u := Value.none) J rfl q
 | brk =>
  obtain ⟨_, _, _, q⟩ := hs
  exact False.elim q
 | cont =>
  obtain ⟨_, _, _, q⟩ := hs
  exact False.elim q
section
variable {X : Cx} {x : Str} {p pos : Pos} {e : Expr} {es : List Expr} {t : TA} {id T : String} {r : List V -> Hp -> VK -> Prop}
def tCB (r : List V -> Hp -> VK -> Prop) (t : TA) : TE := fun σ H Q => t σ H fun vs H1 => r vs H1 Q
theorem Z0b (hc : Z34 X (.builtin id) r) (hg : Gl X x) (hm : X.mg x = none) (hv : bootBuiltins x = some (.builtin id)) (ha : PA X (e :: es) t) (hn : x ≠ "__name__" := by decide) (hdb : (x == ("__debug__" : Str)) = false := by decide)
  (he : starEach (e :: es) X.env = (false, eval e X.env) :: starEach es X.env := by rfl) (hpl : (backTo pos (starEach es X.env)).any (·.1) = false := by rfl) : PE X (.Call (.Name x p) (e :: es) [] pos) (tCB r t) := by
 intro pins s σ H Q I h
 refine wpAny_Call_Name_kw (Z5x I hg hm hv ?_ hn hdb)
 exact PyProof.Rows.callWith_builtin1 (thn (ha pos pins s σ H _ I h) fun us s1 ⟨vs, H1, I1, r1, q1⟩ => hc pins s1 σ H1 vs us Q I1 r1 q1) he hpl
theorem Z19 (hc : Z34 X (.type T) r) (hg : Gl X x) (hm : X.mg x = none) (hv : bootBuiltins x = some (.type T)) (ha : PA X (e :: es) t) (hn : x ≠ "__name__" := by decide) (hdb : (x == ("__debug__" : Str)) = false := by decide)
  (he : starEach (e :: es) X.env = (false, eval e X.env) :: starEach es X.env := by rfl) (hpl : (backTo pos (starEach es X.env)).any (·.1) = false := by rfl) : PE X (.Call (.Name x p) (e :: es) [] pos) (tCB r t) := by
 intro pins s σ H Q I h
 refine wpAny_Call_Name_kw (Z5x I hg hm hv ?_ hn hdb)
 exact PyProof.Rows.callWith_type1 (thn (ha pos pins s σ H _ I h) fun us s1 ⟨vs, H1, I1, r1, q1⟩ => hc pins s1 σ H1 vs us Q I1 r1 q1) he hpl
end
end L2
namespace HT
open PySem PyProof.Rows
section
open PySem.SeqAt
open PySem.AutoSeq1 (wpAny_loadPart')
open PySem.MeetsSeq PySem.MeetsSeq2 PySem.MeetsSeq3
end
section
variable {prog : Program} {w : World} {A : Around} {E : Value -> Shared -> Prop} {s : Shared}
theorem cat_tup {t b : Addr} {vs ws : List Value} {Q : Value -> Shared -> Prop} (ht : IsTup s.heap t vs.toArray) (hb : IsTup s.heap b ws.toArray) (hv : vs ≠ [])
  (h1 : ws = [] -> Q (.ref t) s) (h2 : ws ≠ [] -> Q (.ref s.heap.objs.size) { s with heap := s.heap.push { cls := .type "tuple", data := .seq (vs ++ ws).toArray } })
  (hsz : vs.length + ws.length <= sizeLine) : wpAny (model prog w) A (binaryOp .Add (.ref t) (.ref b)) Q E s := by
 obtain ⟨⟨cls, dd, data, sl⟩, ho, hc, n, hd⟩ := id ht
 obtain ⟨⟨cls2, dd2, data2, sl2⟩, ho2, hc2, n2, hd2⟩ := id hb
 simp only at hc hd hc2 hd2
 subst hc hd hc2 hd2
 have e : vs.toArray ++ ws.toArray = (vs ++ ws).toArray := by simp
 by_cases hw : ws = []
 ·exact concat_meets ⟨_, ho, rfl⟩ ⟨_, ho2, rfl⟩ noFill_tuple_add seq_tuple_add PySem.F.slot_tuple_add PySem.F.entry_tuple_add (PySem.F.args_tuple_add_2 _ _)
   (tuple_addW1 t b vs.toArray ws.toArray n n2 dd dd2 sl sl2 (by simpa using hv) (by simp [hw])) ⟨ho, ho2, h1 hw⟩
 ·refine concat_meets ⟨_, ho, rfl⟩ ⟨_, ho2, rfl⟩ noFill_tuple_add seq_tuple_add PySem.F.slot_tuple_add PySem.F.entry_tuple_add (PySem.F.args_tuple_add_2 _ _)
   (tuple_addW2 t b vs.toArray ws.toArray n n2 dd dd2 sl sl2 (by simpa using hv) (by simpa using hw) (by rw [List.size_toArray, List.size_toArray]; exact hsz)) ⟨ho, ho2, ?_⟩
  rw [e]
  exact h2 hw
def sIx (n d : Nat) : Option Int -> Nat
 | none => d
 | some v => if v < 0 then (v + (n : Int)).toNat else min v.toNat n
theorem Zj3 (n d : Nat) (hd : d <= n) (o : Option Int) : sIx n d o <= n := by
 cases o with
 | none => exact hd
 | some v =>
  show (if v < 0 then (v + (n : Int)).toNat else min v.toNat n) <= n
  by_cases hv : v < 0
  ·rw [if_pos hv]; omega
  ·rw [if_neg hv]; exact Nat.min_le_right _ _
theorem Zca (v : Int) (n d : Nat) : (if v < 0 then max (v + (n : Int)) 0 else min v (n : Int)) = ((sIx n d (some v) : Nat) : Int) := by
 show (if v < 0 then max (v + (n : Int)) 0 else min v (n : Int)) = (((if v < 0 then (v + (n : Int)).toNat else min v.toNat n) : Nat) : Int)
 by_cases hv : v < 0
 ·simp only [if_pos hv]; omega
 ·simp only [if_neg hv]; omega
theorem Zat (lo hi : Option Int) (n : Nat) : Builtin.Slice.sliceAdjust lo hi 1 (n : Int) = (((sIx n 0 lo : Nat) : Int), ((sIx n n hi : Nat) : Int)) := by
 have h1 : ¬ ((1 : Int) < 0) := by omega
 unfold Builtin.Slice.sliceAdjust
 simp only [h1, if_false]
 refine Prod.ext ?_ ?_
 ·cases lo with
  | none => rfl
  | some v => exact Zca v n 0
 ·cases hi with
  | none => rfl
  | some v => exact Zca v n n
theorem Zau (i j : Nat) : Builtin.Slice.slicePlaces (i : Int) (j : Int) 1 = j - i := by
 unfold Builtin.Slice.slicePlaces
 have h1 : (1 : Int) > 0 := by omega
 simp only [h1, if_true, Int.ediv_one]
 split <;> omega
theorem Z63 {v : Value} {o : Option Int} {Q : Option Int -> Shared -> Prop} (p : IsPart v o) (h : Q o s) : wpAny (model prog w) A (Builtin.Slice.slicePartIndex v) Q E s := by
 cases p with
 | none => exact slicePart_none h
 | int i t => exact slicePart_int h
theorem Z2m {sl : Addr} {vl vu : Value} {lo hi : Option Int} {n : Nat} {Q : Int × Int × Nat -> Shared -> Prop} (hs : s.heap.IsSliceOf sl vl vu .none) (pl : IsPart vl lo) (pu : IsPart vu hi)
  (h : Q (((sIx n 0 lo : Nat) : Int), 1, sIx n n hi - sIx n 0 lo) s) : wpAny (model prog w) A (Builtin.Slice.sliceApplied (.ref sl) (pure (n : Int))) Q E s := by
 obtain ⟨os, hos, hcs, hds⟩ := id hs
 unfold Builtin.Slice.sliceApplied Builtin.Slice.sliceFields
 refine wpAny_bind (wpAny_bind (wpAny_field hos hds (x := vl) rfl (wpAny_bind (wpAny_field hos hds (x := vu) rfl (wpAny_bind (wpAny_field hos hds (x := .none) rfl (wpAny_pure ?_)))))))
 refine wpAny_bind (slicePart_none ?_)
 show wpAny _ _ (if ((1 : Int) == 0) = true then _ else _) _ _ s
 rw [if_neg (by decide)]
 refine wpAny_bind (Z63 pl (wpAny_bind (Z63 pu (wpAny_bind (wpAny_pure ?_)))))
 show wpAny _ _ (match Builtin.Slice.sliceAdjust lo hi 1 (n : Int) with | (lo, hi) => pure (lo, (1 : Int), Builtin.Slice.slicePlaces lo hi 1)) _ _ s
 rw [Zat lo hi n]
 show wpAny _ _ (pure (((sIx n 0 lo : Nat) : Int), (1 : Int), Builtin.Slice.slicePlaces ((sIx n 0 lo : Nat) : Int) ((sIx n n hi : Nat) : Int) 1)) _ _ s
 rw [Zau]
 exact wpAny_pure h
theorem Zeu (xs : Array Value) (i k : Nat) : ((List.range k).filterMap fun (m : Nat) => xs[((i : Int) + (m : Int) * 1).toNat]?).toArray = ((xs.toList.drop i).take k).toArray := by
 have e : (fun (m : Nat) => xs[((i : Int) + (m : Int) * 1).toNat]?) = fun m => xs[i + m]? := by
  funext m
  have : ((i : Int) + (m : Int) * 1).toNat = i + m := by omega
  rw [this]
 rw [e]
 have := pick_run xs i k
 rw [List.filterMap_map] at this
 have e2 : ((fun x => xs[x]?) ∘ fun x => i + x) = fun m => xs[i + m]? := rfl
 rw [e2] at this
 rw [this]
theorem getItem_tuple_cut {t sl : Addr} {items : Array Value} {vl vu : Value} {lo hi : Option Int} {Q : Value -> Shared -> Prop} (ht : IsTup s.heap t items) (hs : s.heap.IsSliceOf sl vl vu .none) (pl : IsPart vl lo) (pu : IsPart vu hi)
  (hw : ¬ (sIx items.size 0 lo = 0 /\ sIx items.size items.size hi = items.size))
  (h : Q (.ref s.heap.objs.size) { s with heap := s.heap.push { cls := .type "tuple", data := .seq ((items.toList.drop (sIx items.size 0 lo)).take (sIx items.size items.size hi - sIx items.size 0 lo)).toArray } })
  (hsz : items.size <= sizeLine) : wpAny (model prog w) A (getItem (.ref t) (.ref sl)) Q E s := by
 have htake : sizeOk (.seq ((items.toList.drop (sIx items.size 0 lo)).take (sIx items.size items.size hi - sIx items.size 0 lo)).toArray) := by
  show ((items.toList.drop (sIx items.size 0 lo)).take (sIx items.size items.size hi - sIx items.size 0 lo)).toArray.size <= sizeLine
  rw [List.size_toArray, List.length_take, List.length_drop, Array.length_toList]
  omega
 have hj : sIx items.size items.size hi <= items.size := Zj3 _ _ (Nat.le_refl _) hi
 obtain ⟨os, hos, hcs, hds⟩ := id hs
 have hTs : s.TypeIs (.ref sl) "slice" := ⟨os, hos, hcs⟩
 unfold getItem
 try with_reducible refine wpAny_holding ?_
 first | refine wpAny_bind (wpAny_pure ?_) | skip
 refine wpAny_bind (wpAny_sequenceKey ht.typeIs (by decide) ?_)
 refine wpAny_bind (wpAny_callSpecial?_slot (name := Str.ofString "__getitem__") ht.typeIs PyProof.Rows.slot_tuple_getitem
  (wpAny_call_entry PyProof.Rows.slot_tuple_getitem ht.typeIs entry_tuple_getitem ?_ (args_tuple_getitem _ _)))
 show wpAny _ _ (Builtin.Tuple.tupleItemsOf (.ref t) >>= _) _ _ s
 refine wpAny_bind (tupleItemsOf_ ht ?_)
 refine wpAny_bind (wpAny_typeOf hTs ?_)
 rw [if_pos (by decide)]
 refine wpAny_bind (Z2m hs pl pu ?_)
 have hno : ¬ ((((sIx items.size 0 lo : Nat) : Int) == 0 && (1 : Int) == 1 && (sIx items.size items.size hi - sIx items.size 0 lo) == items.size) = true) := by
  intro q
  rw [Bool.and_eq_true, Bool.and_eq_true] at q
  have q1 : ((sIx items.size 0 lo : Nat) : Int) = 0 := eq_of_beq q.1.1
  have q2 : sIx items.size items.size hi - sIx items.size 0 lo = items.size := eq_of_beq q.2
  exact hw ⟨by omega, by omega⟩
 show wpAny _ _ (if (((sIx items.size 0 lo : Nat) : Int) == 0 && (1 : Int) == 1 && (sIx items.size items.size hi - sIx items.size 0 lo) == items.size) = true then _ else _) _ _ s
 rw [if_neg hno, Zeu]
 first
  | exact wpAny_bind (m := Builtin.Tuple.tupleExact _) (wpAny_newObj_type (wpAny_pure ⟨_, rfl, wpAny_pure h⟩) htake)
  | exact wpAny_bind (m := Builtin.Tuple.tupleExact _) (wpAny_newObj_type (wpAny_bind (wpAny_pure (wpAny_pure ⟨_, rfl, wpAny_pure h⟩))) htake)
  | exact wpAny_bind (wpAny_bind (m := Builtin.Tuple.tupleExact _) (wpAny_newObj_type (wpAny_pure (wpAny_pure ⟨_, rfl, wpAny_pure h⟩)) htake))
  | exact wpAny_bind (wpAny_bind (m := Builtin.Tuple.tupleExact _) (wpAny_newObj_type (wpAny_pure ⟨_, rfl, wpAny_pure h⟩) htake))
end
end HT
namespace L2
open PySem PySem.Spec PyProof.Rows
abbrev TO := St -> Hp -> (Option Int -> Hp -> Prop) -> Prop
def PO (X : Cx) (e : Option Expr) (t : TO) : Prop :=
 ∀ (pins : List (Addr × Obj)) (s : Shared) (σ : St) (H : Hp) (Q : Option Int -> Hp -> Prop), Inv X pins σ H s -> t σ H Q →
  wpAny (model X.prog X.w) X.A (evalPart e X.env) (fun u s' => ∃ o H', Inv X pins σ H' s' /\ IsPart u o /\ Q o H') X.xe s
def tNoPart : TO := fun _ H Q => Q none H
def Zkj (t : TE) : TO := fun σ H Q => t σ H fun x H1 => ∃ i, x = .int i /\ Q (some i) H1
theorem Zav {ns : List Int} : ∀ {us : List Value}, Vals (ns.map V.int) us -> IntsAre us ns := by
 induction ns with
 | nil => intro us r; rw [List.map_nil] at r; cases r; exact .nil
 | cons n ns ih =>
  intro us r
  rw [List.map_cons] at r
  cases r with
  | cons r1 r2 =>
   obtain ⟨t, e⟩ := r1
   subst e
   exact .cons n t (ih r2)
section
variable {X : Cx} {e : Expr} {te : TE} {lo hi : Option Expr} {tl th : TO} {pos p2 : Pos}
theorem Z2p : PO X none tNoPart := by
 intro pins s σ H Q I h
 rw [evalPart_none]
 exact wpAny_pure ⟨none, H, I, .none, h⟩
theorem Z2g (h : PE X e te) : PO X (some e) (Zkj te) := by
 intro pins s σ H Q I hw
 rw [evalPart_some]
 refine thn (h pins s σ H _ I hw) fun u s1 ⟨x, H1, I1, r1, q1⟩ => ?_
 obtain ⟨i, rfl, q⟩ := q1
 obtain ⟨t, rfl⟩ := r1
 exact ⟨some i, H1, I1, .int i t, q⟩
def SlR (X : Cx) (r : V -> Option Int -> Option Int -> Hp -> VK -> Prop) : Prop :=
 ∀ (pins : List (Addr × Obj)) (s : Shared) (σ : St) (H : Hp) (x : V) (v vl vu : Value) (lo hi : Option Int) (sl : Addr) (Q : VK), Inv X pins σ H s -> RelV x v -> s.heap.IsSliceOf sl vl vu .none -> IsPart vl lo -> IsPart vu hi -> r x lo hi H Q →
  ∃ T id, typeLookup (.type T) "__getitem__" = pure (some (.builtin id)) /\ s.TypeIs v T /\ wpAny (model X.prog X.w) X.A (getItem v (.ref sl)) (EP X pins σ Q) X.xe s
def tSl (r : V -> Option Int -> Option Int -> Hp -> VK -> Prop) (te : TE) (tl th : TO) : TE := fun σ H Q => te σ H fun x H1 => tl σ H1 fun l H2 => th σ H2 fun u H3 => r x l u H3 Q
theorem Z22 {r : V -> Option Int -> Option Int -> Hp -> VK -> Prop} (hr : SlR X r) (he : PE X e te) (hl : PO X lo tl) (hu : PO X hi th) : PE X (.Subscript e (.Slice lo hi none p2) pos) (tSl r te tl th) := by
 intro pins s σ H Q I h
 refine Subscript_ (thn (he pins s σ H _ I h) fun v s1 ⟨x, H1, I1, r1, q1⟩ => ?_)
 refine wpAny_Slice (thn (hl pins s1 σ H1 _ I1 q1) fun vl s2 ⟨l, H2, I2, pl, q2⟩ => thn (hu pins s2 σ H2 _ I2 q2) fun vu s3 ⟨u, H3, I3, pu, q3⟩ => ?_)
 rw [evalPart_none]
 refine wpAny_pure ?_
 have I4 : Inv X pins σ H3 { s3 with heap := s3.heap.push { cls := .type "slice", data := .fields #[vl, vu, .none] } } := I3.kept (t' := s3.toks) fun b ob q => Heap.get?_push_of_some _ q
 obtain ⟨T, id, hT, ht, hg⟩ := hr pins { s3 with heap := s3.heap.push { cls := .type "slice", data := .fields #[vl, vu, .none] } } σ H3 x v vl vu l u s3.heap.objs.size Q I4 r1 (Heap.IsSliceOf.new ..) pl pu q3
 show wpAny (model X.prog X.w) X.A (subscriptTail e (.Slice lo hi none p2) v (.ref s3.heap.objs.size)) (EP X pins σ Q) X.xe { s3 with heap := s3.heap.push { cls := .type "slice", data := .fields #[vl, vu, .none] } }
 exact tail_any (ops := [.ref s3.heap.objs.size, v]) ht hT hg (by with_unfolding_all rfl)
def Z5r (xs : List V) (lo hi : Option Int) : List V := (xs.drop (HT.sIx xs.length 0 lo)).take (HT.sIx xs.length xs.length hi - HT.sIx xs.length 0 lo)
theorem Z4z (xs : List V) (lo hi : Option Int) : (Z5r xs lo hi).length <= xs.length := by
 unfold Z5r
 rw [List.length_take, List.length_drop]
 omega
def Zlw (K : PySem.W.Frag) : V -> Option Int -> Option Int -> Hp -> VK -> Prop := fun x lo hi H Q => ∃ a xs, x = .ref a /\ SqT K H a xs ∧
 ¬ (HT.sIx xs.length 0 lo = 0 /\ HT.sIx xs.length xs.length hi = xs.length) /\ ∀ p, H p = none -> Q (.ref p) (upd H p (.tup (Z5r xs lo hi)))
theorem Zj4 : SlR X (Zlw X.K) := by
 intro pins s σ H x v vl vu lo hi sl Q I rx hs pl pu h
 obtain ⟨a, xs, rfl, hx, hw, q⟩ := h
 cases rx
 obtain ⟨its, r, ht, hz⟩ := I.tuple hx
 have hlen : its.toArray.size = xs.length := by rw [List.size_toArray]; exact r.length.symm
 refine ⟨"tuple", _, PyProof.Rows.slot_tuple_getitem.lookup, ht.typeIs, ?_⟩
 refine HT.getItem_tuple_cut ht hs pl pu (by rw [hlen]; exact hw) ?_ (by rw [hlen]; exact hz)
 rw [hlen]
 refine ⟨.ref s.heap.objs.size, _, I.laid (t' := s.toks) (o := .tup (Z5r xs lo hi)) (fun b ob q => Heap.get?_push_of_some _ q) (Nat.le_refl _) ?_, rfl, q _ (I.hok.fresh (Nat.le_refl _))⟩
 exact ⟨Nat.le_trans (Z4z xs lo hi) hz, _, (r.drop (HT.sIx xs.length 0 lo)).take (HT.sIx xs.length xs.length hi - HT.sIx xs.length 0 lo), IsTup.new _ _⟩
def Zkk (K : PySem.W.Frag) : R2 := fun x y H Q => ∃ a b xs ys, x = .ref a /\ y = .ref b /\ SqT K H a xs /\ SqT K H b ys /\ xs ≠ [] /\ xs.length + ys.length <= sizeLine ∧
 (ys = [] -> Q (.ref a) H) /\ (ys ≠ [] -> ∀ p, H p = none -> Q (.ref p) (upd H p (.tup (xs ++ ys))))
theorem Vals.nil_iff {xs : List V} {us : List Value} (r : Vals xs us) : us = [] ↔ xs = [] := by
 cases r with
 | nil => simp
 | cons _ _ => simp
theorem Zh3 : OpR X (binaryOp .Add) (Zkk X.K) := by
 intro pins s σ H x y v u Q I rx ry h
 obtain ⟨a, b, xs, ys, rfl, rfl, ha, hb, hx, hz, q1, q2⟩ := h
 cases rx
 cases ry
 obtain ⟨its, r1, p1, _⟩ := I.tuple ha
 obtain ⟨its2, r2, p2, _⟩ := I.tuple hb
 refine HT.cat_tup p1 p2 (fun z => hx (r1.nil_iff.mp z)) (fun z => ⟨.ref a, H, I, rfl, q1 (r2.nil_iff.mp z)⟩) (fun z => ?_) (by rw [<- r1.length, <- r2.length]; exact hz)
 refine ⟨.ref s.heap.objs.size, _, I.laid (t' := s.toks) (o := .tup (xs ++ ys)) (fun b ob q => Heap.get?_push_of_some _ q) (Nat.le_refl _) ?_, rfl, q2 (fun w => z (r2.nil_iff.mpr w)) _ (I.hok.fresh (Nat.le_refl _))⟩
 exact ⟨by rw [List.length_append]; exact hz, _, r1.append r2, IsTup.new _ _⟩
end
def ixN (n : Nat) (i : Int) : Option Nat := if 0 <= i then (if i < n then some i.toNat else none) else if -(n : Int) <= i then some (i + n).toNat else none
def atI {α : Type} (xs : List α) (i : Int) : Option α := (ixN xs.length i).bind fun j => xs[j]?
theorem Zh4 {n : Nat} {i : Int} {j : Nat} (h : ixN n i = some j) : seqIndex? i n = some j /\ j < n /\ -(n : Int) <= i /\ i < n := by
 unfold ixN at h
 by_cases h0 : 0 <= i
 ·rw [if_pos h0] at h
  by_cases h1 : i < n
  ·rw [if_pos h1] at h
   have e : i.toNat = j := Option.some.inj h
   exact ⟨by rw [seqIndex_of h0 h1, e], by omega, by omega, h1⟩
  ·rw [if_neg h1] at h; cases h
 ·rw [if_neg h0] at h
  by_cases h1 : -(n : Int) <= i
  ·rw [if_pos h1] at h
   have e : (i + n).toNat = j := Option.some.inj h
   exact ⟨by rw [seqIndex_neg (by omega) h1, e], by omega, h1, by omega⟩
  ·rw [if_neg h1] at h; cases h
theorem Z6m {α : Type} {xs : List α} {i : Int} {v : α} (h : atI xs i = some v) : ∃ j, seqIndex? i xs.length = some j /\ xs[j]? = some v /\ j < xs.length /\ -(xs.length : Int) <= i /\ i < xs.length := by
 unfold atI at h
 cases e : ixN xs.length i with
 | none => rw [e] at h; cases h
 | some j =>
  rw [e] at h
  obtain ⟨h1, h2, h3, h4⟩ := Zh4 e
  exact ⟨j, h1, h, h2, h3, h4⟩
theorem Z2h {α : Type} {xs : List α} {j : Nat} {v : α} (h : xs[j]? = some v) : atI xs (j : Int) = some v := by
 have hj : j < xs.length := (List.getElem?_eq_some_iff.mp h).1
 have e : ixN xs.length (j : Int) = some j := by
  unfold ixN
  rw [if_pos (by omega), if_pos (by omega)]; simp
 unfold atI; rw [e]; exact h
def Zcb (b : Expr) : Prop := ∀ o i, subscripted b false o i = operate [o, i] (getItem o i)
def IxR (X : Cx) (r : R2) : Prop :=
 ∀ (value slice : Expr) (pins : List (Addr × Obj)) (s : Shared) (σ : St) (H : Hp) (x y : V) (v u : Value) (Q : VK), Inv X pins σ H s -> RelV x v -> RelV y u -> r x y H Q →
  subscripted slice false v u = operate [v, u] (getItem v u) -> wpAny (model X.prog X.w) X.A (subscriptTail value slice v u) (EP X pins σ Q) X.xe s
def MtR (X : Cx) (id : String) (r : V -> List V -> Hp -> VK -> Prop) : Prop :=
 ∀ (pins : List (Addr × Obj)) (s : Shared) (σ : St) (H : Hp) (x : V) (xs : List V) (v : Value) (us : List Value) (Q : VK), Inv X pins σ H s -> RelV x v -> Vals xs us -> r x xs H Q →
  wpAny (model X.prog X.w) X.A (call (.builtin id) (v :: us)) (EP X pins σ Q) X.xe s
section
variable {X : Cx} {a b : Expr} {ta tb : TE} {pos : Pos}
theorem IxR.or {r r' : R2} (h : IxR X r) (h' : IxR X r') : IxR X (fun x y H Q => r x y H Q ∨ r' x y H Q) := by
 intro value slice pins s σ H x y v u Q I rx ry q hs
 rcases q with q | q
 ·exact h value slice pins s σ H x y v u Q I rx ry q hs
 ·exact h' value slice pins s σ H x y v u Q I rx ry q hs
theorem Z15 {r : R2} (hr : IxR X r) (ha : PE X a ta) (hb : PE X b tb) (hs : Zcb b) : PE X (.Subscript a b pos) (tOp r ta tb) := by
 intro pins s σ H Q I h
 exact Subscript_ (Zkc ha hb I h fun v u s2 x y H2 I2 rx ry q => hr a b pins s2 σ H2 x y v u Q I2 rx ry q (hs _ _))
def Zle (K : PySem.W.Frag) : R2 := fun x y H Q => ∃ p xs i v, x = .ref p /\ y = .int i /\ SqL K H p xs /\ atI xs i = some v /\ Q v H
def Zlf (K : PySem.W.Frag) : R2 := fun x y H Q => ∃ p xs i v, x = .ref p /\ y = .int i /\ SqT K H p xs /\ atI xs i = some v /\ Q v H
def rIxS : R2 := fun x y H Q => ∃ z i c, x = .str z /\ y = .int i /\ z.length <= sizeLine /\ atI z.cps.toList i = some c /\ Q (.str ⟨#[c]⟩) H
theorem Z1a : IxR X (Zle X.K) := by
 intro value slice pins s σ H x y v u Q I rx ry h hs
 obtain ⟨p, xs, i, z, rfl, rfl, hq, he, q⟩ := h
 cases rx
 obtain ⟨t, rfl⟩ := ry
 obtain ⟨its, r, pl, hz⟩ := I.list hq
 obtain ⟨j, h1, h2, h3, h4, h5⟩ := Z6m he
 obtain ⟨w, ew, rw'⟩ := r.get h2
 have hl := r.length
 have hn := Z62
 have fin : EP X pins σ Q w s := ⟨z, H, I, rw', q⟩
 by_cases h0 : 0 <= i
 ·have hj : i.toNat = j := by
   rw [seqIndex_of h0 h5] at h1
   exact Option.some.inj h1
  exact item_listR pl.isList h0 (by omega) (by rw [hj]; simpa using ew) fin hs
 ·have hj : (i + (its.toArray.size : Int)).toNat = j := by
   rw [seqIndex_neg (by omega) h4] at h1
   rw [List.size_toArray, <- hl]
   exact Option.some.inj h1
  exact subscriptTail_builtinR (x := w) pl.isList.typeIs slot_list_getitem.lookup
   (wpAny_getItem_list_neg (Q := fun r s' => r = w /\ EP X pins σ Q r s') pl.isList (by omega) (by rw [List.size_toArray] <;> omega) (by omega) (by rw [hj]; simpa using ew) ⟨rfl, fin⟩) hs
theorem Z23 : IxR X (Zlf X.K) := by
 intro value slice pins s σ H x y v u Q I rx ry h hs
 obtain ⟨p, xs, i, z, rfl, rfl, hq, he, q⟩ := h
 cases rx
 obtain ⟨t, rfl⟩ := ry
 obtain ⟨its, r, pl, hz⟩ := I.tuple hq
 obtain ⟨j, h1, h2, h3, h4, h5⟩ := Z6m he
 obtain ⟨w, ew, rw'⟩ := r.get h2
 have hl := r.length
 have hn := Z62
 have fin : EP X pins σ Q w s := ⟨z, H, I, rw', q⟩
 exact subscriptTail_builtinR (x := w) pl.typeIs slot_tuple_getitem.lookup
  (getItem_tuple (j := j) (Q := fun r s' => r = w /\ EP X pins σ Q r s') pl (by omega) (by omega) (by rw [List.size_toArray, <- hl]; exact h1) (by simpa using ew) ⟨rfl, fin⟩) hs
theorem Z9m : IxR X rIxS := by
 intro value slice pins s σ H x y v u Q I rx ry h hs
 obtain ⟨z, i, c, rfl, rfl, hz, he, q⟩ := h
 obtain ⟨t, rfl⟩ := rx
 obtain ⟨t', rfl⟩ := ry
 obtain ⟨j, h1, h2, h3, h4, h5⟩ := Z6m he
 have hl : z.cps.toList.length = z.length := by simp [Str.length]
 rw [hl] at h1 h4 h5
 have hn := Z62
 exact tail_any (typeIs_str s z t) slot_str_getitem.lookup (getItem_str (c := c) (by
  have e1 : decide (i < -(2 ^ 63 : Int)) = false := decide_eq_false (by omega)
  have e2 : decide (i ≥ 2 ^ 63) = false := decide_eq_false (by omega)
  rw [e1, e2, Bool.or_false]) (by rw [h1]; simpa using h2) ⟨.str ⟨#[c]⟩, H, I.tok _, ⟨_, rfl⟩, q⟩) hs
theorem Z7p (lo hi : Option Int) (n : Nat) : (sliceBounds lo hi none n).1 = ((HT.sIx n 0 lo : Nat) : Int) /\ (sliceBounds lo hi none n).2.1 = ((HT.sIx n n hi : Nat) : Int) /\ (sliceBounds lo hi none n).2.2 = 1 := by
 refine ⟨?_, ?_, rfl⟩
 ·cases lo with
  | none => simp [sliceBounds, HT.sIx]
  | some i =>
   simp only [sliceBounds, HT.sIx, Option.getD_none, show (1 : Int) > 0 by decide, if_true]
   by_cases h : i < 0
   ·simp only [h, if_true] <;> omega
   ·simp only [h, if_false] <;> omega
 ·cases hi with
  | none => simp [sliceBounds, HT.sIx]
  | some i =>
   simp only [sliceBounds, HT.sIx, Option.getD_none, show (1 : Int) > 0 by decide, if_true]
   by_cases h : i < 0
   ·simp only [h, if_true] <;> omega
   ·simp only [h, if_false] <;> omega
theorem Z6n (its : List Value) (lo hi : Option Int) : slicePick its.toArray lo hi none = ((its.drop (HT.sIx its.length 0 lo)).take (HT.sIx its.length its.length hi - HT.sIx its.length 0 lo)).toArray := by
 obtain ⟨h1, h2, h3⟩ := Z7p lo hi its.toArray.size
 unfold slicePick
 rw [h1, h2, h3]
 simp only [sliceRange_one, pick_run, List.size_toArray] <;> rfl
def Zlx (K : PySem.W.Frag) : V -> Option Int -> Option Int -> Hp -> VK -> Prop := fun x lo hi H Q => ∃ a xs, x = .ref a /\ SqL K H a xs /\ ∀ p, H p = none -> Q (.ref p) (upd H p (.lst (Z5r xs lo hi)))
theorem Z8u : SlR X (Zlx X.K) := by
 intro pins s σ H x v vl vu lo hi sl Q I rx hs pl pu h
 obtain ⟨a, xs, rfl, hx, q⟩ := h
 cases rx
 obtain ⟨its, r, ht, hz⟩ := I.list hx
 have hlen := r.length
 refine ⟨"list", _, slot_list_getitem.lookup, ht.isList.typeIs, ?_⟩
 refine wpAny_getItem_list_slice ht.isList hs pl pu .none (by simp) ?_ (by rw [List.size_toArray] <;> omega)
 rw [Z6n, <- hlen]
 refine ⟨.ref s.heap.objs.size, _, I.laid (t' := s.toks) (o := .lst (Z5r xs lo hi)) (fun b ob q => Heap.get?_push_of_some _ q) (Nat.le_refl _) ?_, rfl, q _ (I.hok.fresh (Nat.le_refl _))⟩
 exact ⟨Nat.le_trans (Z4z xs lo hi) hz, _, 0, (r.drop (HT.sIx xs.length 0 lo)).take (HT.sIx xs.length xs.length hi - HT.sIx xs.length 0 lo), Heap.get?_push_size _ rfl⟩
def Z3k : V -> Bool
 | .non => true
 | .bl _ => true
 | .int _ => true
 | .str _ => true
 | _ => false
def eqV : V -> V -> Bool
 | .non, .non => true
 | .bl a, .bl b => a == b
 | .bl a, .int b => (if a then 1 else 0) == b
 | .int a, .bl b => a == (if b then 1 else 0)
 | .int a, .int b => a == b
 | .str a, .str b => a == b
 | _, _ => false
theorem Zcc {A : Around} {s : Shared} {y x : V} {u v : Value} (ry : RelV y u) (rx : RelV x v) (fy : Z3k y = true) (fx : Z3k x = true) : SeqAt.EqAt A s u v (eqV y x) := by
 cases y with
 | non =>
  cases ry
  cases x with
  | non => cases rx; exact SeqAt.EqAt.same _
  | bl b => cases rx; exact SeqAt.EqAt.none_bool b
  | int b => obtain ⟨t, rfl⟩ := rx; exact SeqAt.EqAt.none_int b t
  | str b => obtain ⟨t, rfl⟩ := rx; exact SeqAt.EqAt.none_str b t
  | _ => exact absurd (show false = true from fx) Bool.false_ne_true
 | bl a =>
  cases ry
  cases x with
  | non => cases rx; exact SeqAt.EqAt.bool_none a
  | bl b => cases rx; exact SeqAt.EqAt.bool_bool a b
  | int b => obtain ⟨t, rfl⟩ := rx; exact SeqAt.EqAt.bool_int a b t
  | str b => obtain ⟨t, rfl⟩ := rx; exact SeqAt.EqAt.bool_str a b t
  | _ => exact absurd (show false = true from fx) Bool.false_ne_true
 | int a =>
  obtain ⟨t', rfl⟩ := ry
  cases x with
  | non => cases rx; exact SeqAt.EqAt.int_none a t'
  | bl b => cases rx; exact SeqAt.EqAt.int_bool a t' b
  | int b => obtain ⟨t, rfl⟩ := rx; exact SeqAt.EqAt.int_int a t' b t
  | str b => obtain ⟨t, rfl⟩ := rx; exact SeqAt.EqAt.int_str a t' b t
  | _ => exact absurd (show false = true from fx) Bool.false_ne_true
 | str a =>
  obtain ⟨t', rfl⟩ := ry
  cases x with
  | non => cases rx; exact SeqAt.EqAt.str_none a t'
  | bl b => cases rx; exact SeqAt.EqAt.str_bool a t' b
  | int b => obtain ⟨t, rfl⟩ := rx; exact SeqAt.EqAt.str_int a t' b t
  | str b => obtain ⟨t, rfl⟩ := rx; exact SeqAt.EqAt.str_str a t' b t
  | _ => exact absurd (show false = true from fx) Bool.false_ne_true
 | _ => exact absurd (show false = true from fy) Bool.false_ne_true
def eqU (x : V) (u : Value) : Bool := match u with
 | .none => eqV .non x
 | .bool b => eqV (.bl b) x
 | .int i _ => eqV (.int i) x
 | .str z _ => eqV (.str z) x
 | _ => false
theorem Zgc {x y : V} {u : Value} (r : RelV y u) (f : Z3k y = true) : eqU x u = eqV y x := by
 cases y with
 | non => cases r; rfl
 | bl b => cases r; rfl
 | int i => obtain ⟨t, rfl⟩ := r; rfl
 | str z => obtain ⟨t, rfl⟩ := r; rfl
 | _ => exact absurd (show false = true from f) Bool.false_ne_true
theorem Z50 {x : V} : ∀ {xs : List V} {us : List Value}, Vals xs us -> xs.all Z3k = true -> us.any (eqU x) = xs.any fun y => eqV y x
 | _, _, .nil, _ => rfl
 | y :: xs, u :: us, .cons r t, f => by
  rw [List.all_cons, Bool.and_eq_true] at f
  rw [List.any_cons, List.any_cons, Zgc r f.1, Z50 t f.2]
theorem Z3l {A : Around} {s : Shared} {x : V} {v : Value} (rx : RelV x v) (fx : Z3k x = true) : ∀ {xs : List V} {us : List Value}, Vals xs us -> xs.all Z3k = true -> ∀ u ∈ us, SeqAt.EqAt A s u v (eqU x u)
 | _, _, .nil, _ => fun u hu => by cases hu
 | y :: xs, u :: us, .cons r t, f => fun u' hu => by
  rw [List.all_cons, Bool.and_eq_true] at f
  rcases List.mem_cons.mp hu with rfl | hu
  ·rw [Zgc r f.1]; exact Zcc r rx f.1 fx
  ·exact Z3l rx fx t f.2 u' hu
def inV (x : V) (xs : List V) : Bool := xs.any fun y => eqV y x
def rIn (K : PySem.W.Frag) (neg : Bool) : R2 := fun x y H Q => ∃ p xs, y = .ref p /\ (SqL K H p xs ∨ SqT K H p xs) /\ Z3k x = true /\ xs.all Z3k = true /\ Q (.bl (if neg then !inV x xs else inV x xs)) H
theorem Z3m : OpR X (compareOp .In) (rIn X.K false) := by
 intro pins s σ H x y v u Q I rx ry h
 obtain ⟨p, xs, rfl, hq, fx, fs, q⟩ := h
 cases ry
 rcases hq with hq | hq
 ·obtain ⟨its, r, pl, hz⟩ := I.list hq
  refine SeqAt.in_listAt (eqU x) pl.isList (fun w hw => Z3l rx fx r fs w (by simpa using hw)) ⟨.bl _, H, I, rfl, ?_⟩
  rw [show its.toArray.any (eqU x) = its.any (eqU x) by simp, Z50 r fs]
  exact q
 ·obtain ⟨its, r, pl, hz⟩ := I.tuple hq
  refine SeqAt.in_tupleAt (eqU x) pl (fun w hw => Z3l rx fx r fs w (by simpa using hw)) ⟨.bl _, H, I, rfl, ?_⟩
  rw [show its.toArray.any (eqU x) = its.any (eqU x) by simp, Z50 r fs]
  exact q
theorem Z7q : OpR X (compareOp .NotIn) (rIn X.K true) := by
 intro pins s σ H x y v u Q I rx ry h
 obtain ⟨p, xs, rfl, hq, fx, fs, q⟩ := h
 cases ry
 rcases hq with hq | hq
 ·obtain ⟨its, r, pl, hz⟩ := I.list hq
  refine SeqAt.notIn_listAt (eqU x) pl.isList (fun w hw => Z3l rx fx r fs w (by simpa using hw)) ⟨.bl _, H, I, rfl, ?_⟩
  rw [show its.toArray.any (eqU x) = its.any (eqU x) by simp, Z50 r fs]
  exact q
 ·obtain ⟨its, r, pl, hz⟩ := I.tuple hq
  refine SeqAt.notIn_tupleAt (eqU x) pl (fun w hw => Z3l rx fx r fs w (by simpa using hw)) ⟨.bl _, H, I, rfl, ?_⟩
  rw [show its.toArray.any (eqU x) = its.any (eqU x) by simp, Z50 r fs]
  exact q
theorem Z0l : Z34 X (.builtin "len") (fun xs H Q => ∃ p ys, xs = [.ref p] /\ (SqL X.K H p ys ∨ SqT X.K H p ys) /\ Q (.int ys.length) H) := by
 intro pins s σ H xs us Q I r h
 obtain ⟨p, ys, rfl, hq, q⟩ := h
 obtain ⟨u, rfl, rx⟩ := Z8t r
 cases rx
 have hn := Z62
 rcases hq with hq | hq
 ·obtain ⟨its, r', pl, hz⟩ := I.list hq
  have hlen := r'.length
  exact Calls.call_len_list pl.isList (by simp only [List.size_toArray] <;> omega) ⟨.int ys.length, H, I.tok _, ⟨s.toks + 1, by rw [List.size_toArray, hlen]⟩, q⟩
 ·obtain ⟨its, r', pl, hz⟩ := I.tuple hq
  have hlen := r'.length
  exact len_tuple pl (by simp only [List.size_toArray] <;> omega) ⟨.int ys.length, H, I.tok _, ⟨s.toks + 1, by rw [List.size_toArray, hlen]⟩, q⟩
theorem Z7r : Z34 X (.builtin "len") (fun xs H Q => ∃ z, xs = [.str z] /\ z.length <= sizeLine /\ Q (.int z.length) H) := by
 intro pins s σ H xs us Q I r h
 obtain ⟨z, rfl, hz, q⟩ := h
 obtain ⟨u, rfl, t, rfl⟩ := Z8t r
 have hn := Z62
 exact len_str (by omega) ⟨.int z.length, H, I.tok _, ⟨_, rfl⟩, q⟩
theorem Z4o : Z34 X (.type "list") (fun xs H Q => ∃ p ys, xs = [.ref p] /\ (SqL X.K H p ys ∨ SqT X.K H p ys) /\ ∀ l, H l = none -> Q (.ref l) (upd H l (.lst ys))) := by
 intro pins s σ H xs us Q I r h
 obtain ⟨p, ys, rfl, hq, q⟩ := h
 obtain ⟨u, rfl, rx⟩ := Z8t r
 cases rx
 have fin : ∀ (its : List Value), Vals ys its -> ys.length <= sizeLine -> ∀ (h' : Heap) (c' : Nat), (∀ b o', s.heap.get? b = some o' -> h'.get? b = some o') →
   h'.get? s.heap.objs.size = some { cls := .type "list", dict := none, data := .seq its.toArray c', slots := #[] } -> EP X pins σ Q (.ref s.heap.objs.size) { s with heap := h' } := fun its r' hz h' c' kp e =>
  ⟨.ref s.heap.objs.size, _, I.laid (t' := s.toks) kp (Nat.le_refl _) (show ObjOk X.prog X.w _ h' _ (.lst ys) from ⟨hz, its, c', r', e⟩), rfl, q _ (I.hok.fresh (Nat.le_refl _))⟩
 rcases hq with hq | hq
 ·obtain ⟨its, r', pl, hz⟩ := I.list hq
  have hlen := r'.length
  obtain ⟨o, ho, hc, n, hd⟩ := pl.isList
  exact call_list_seq p (.inl rfl) ho hc hd (fun h' c' kp e => fin its r' hz h' c' kp e) (by simp only [List.size_toArray] <;> omega)
 ·obtain ⟨its, r', pl, hz⟩ := I.tuple hq
  have hlen := r'.length
  obtain ⟨o, ho, hc, n, hd⟩ := pl
  exact call_list_seq p (.inr rfl) ho hc hd (fun h' c' kp e => fin its r' hz h' c' kp e) (by simp only [List.size_toArray] <;> omega)
theorem Z0v : Z34 X (.type "tuple") (fun xs H Q => ∃ p ys, xs = [.ref p] /\ ((SqL X.K H p ys /\ ∀ l, H l = none -> Q (.ref l) (upd H l (.tup ys))) ∨ (SqT X.K H p ys /\ Q (.ref p) H))) := by
 intro pins s σ H xs us Q I r h
 obtain ⟨p, ys, rfl, h⟩ := h
 obtain ⟨u, rfl, rx⟩ := Z8t r
 cases rx
 rcases h with ⟨hq, q⟩ | ⟨hq, q⟩
 ·obtain ⟨its, r', pl, hz⟩ := I.list hq
  have hlen := r'.length
  refine call_tuple_list pl.isList (fun h' kp => ?_) (by simp only [List.size_toArray] <;> omega)
  have I1 : Inv X pins σ H { s with heap := h' } := I.kept (t' := s.toks) kp
  have I2 : Inv X pins σ (upd H h'.objs.size (.tup ys)) { s with heap := h'.push { cls := .type "tuple", data := .seq its.toArray } } :=
   I1.laid (t' := s.toks) (fun b o e => Heap.get?_push_of_some _ e) (Nat.le_refl _) (show ObjOk X.prog X.w _ _ _ (.tup ys) from ⟨hz, its, r', IsTup.new _ _⟩)
  exact ⟨.ref h'.objs.size, _, I2, rfl, q _ (I1.hok.fresh (Nat.le_refl _))⟩
 ·obtain ⟨its, r', pl, hz⟩ := I.tuple hq
  exact call_tuple_same pl ⟨.ref p, H, I, rfl, q⟩
def tyV (K : PySem.W.Frag) (T : String) (x : V) (H : Hp) : Prop := match x with
 | .str _ => T = "str"
 | .int _ => T = "int"
 | .ref p => (T = "list" /\ ∃ xs, SqL K H p xs) ∨ (T = "tuple" /\ ∃ o, K.lookup p = some o /\ o.cls = .type "tuple" /\ o.dict = none) ∨
   (T = "dict" /\ ((∃ kvs, H p = some (.dK kvs)) ∨ ∃ kvs, H p = some (.dT kvs))) ∨ (T = "set" /\ ∃ S n, H p = some (.set S n))
 | _ => False
theorem Zgd {pins : List (Addr × Obj)} {σ : St} {H : Hp} {s : Shared} {T : String} {x : V} {v : Value} (I : Inv X pins σ H s) (r : RelV x v) (ty : tyV X.K T x H) :
  s.TypeIs v T /\ ∀ a, v = .ref a -> ∃ ob, s.heap.get? a = some ob /\ ob.dict = none := by
 cases x with
 | str z =>
  obtain ⟨t, rfl⟩ := r
  cases (show T = "str" from ty)
  exact ⟨typeIs_str s z t, fun _ e => nomatch e⟩
 | int i =>
  obtain ⟨t, rfl⟩ := r
  cases (show T = "int" from ty)
  exact ⟨typeIs_int s i t, fun _ e => nomatch e⟩
 | ref p =>
  cases r
  rcases ty with ⟨rfl, xs, hq⟩ | ⟨rfl, o, hk, hc, hd⟩ | ⟨rfl, hk⟩ | ⟨rfl, S, n, hk⟩
  ·obtain ⟨its, _, pl, _⟩ := I.list hq
   refine ⟨pl.isList.typeIs, fun a e => ?_⟩
   cases e
   obtain ⟨o, n, e, c, hd, _⟩ := pl
   exact ⟨o, e, hd⟩
  ·refine ⟨⟨o, I.kIn p o hk, hc⟩, fun a e => ?_⟩
   cases e
   exact ⟨o, I.kIn _ o hk, hd⟩
  ·have z : ∃ o, s.heap.get? p = some o /\ o.ExactDict := by
    rcases hk with ⟨kvs, hk⟩ | ⟨kvs, hk⟩
    ·obtain ⟨_, _, _, _, o, _, _, e, ex, _⟩ := I.hok p _ hk
     exact ⟨o, e, ex⟩
    ·obtain ⟨_, _, _, _, o, _, _, e, ex, _⟩ := I.hok p _ hk
     exact ⟨o, e, ex⟩
   obtain ⟨o, e, ex⟩ := z
   refine ⟨⟨o, e, ex.1⟩, fun a e2 => ?_⟩
   cases e2
   exact ⟨o, e, ex.2.1⟩
  ·obtain ⟨o, _, _, _, e, ex, _⟩ := I.hok p _ hk
   refine ⟨⟨o, e, ex.1⟩, fun a e2 => ?_⟩
   cases e2
   exact ⟨o, e, ex.2.1⟩
 | _ => exact False.elim ty
def Zly (K : PySem.W.Frag) (T : String) (r : V -> List V -> Hp -> VK -> Prop) (to : TE) : TE := fun σ H Q => to σ H fun x H1 => tyV K T x H1 /\ r x [] H1 Q
def tBM (K : PySem.W.Frag) (T : String) (r : V -> List V -> Hp -> VK -> Prop) (to : TE) (t : TA) : TE := fun σ H Q => to σ H fun x H1 => tyV K T x H1 /\ t σ H1 fun xs H2 => r x xs H2 Q
variable {o e : Expr} {es : List Expr} {to : TE} {t : TA} {name : Str} {apos cpos : Pos} {T id : String} {r : V -> List V -> Hp -> VK -> Prop}
theorem Zj5 (pa : PlainAttrs T) (slot : Slot T name id) (hty : typeOf (.builtin id) = pure (.type "method_descriptor")) (hm : MtR X id r) (ho : PE X o to)
  (hbase : attributeBase o name X.env (eval o X.env) = eval o X.env := by rfl) (hline : (apos.endLine == cpos.line) = true := by rfl) : PE X (.Call (.Attribute o name apos) [] [] cpos) (Zly X.K T r to) := by
 intro pins s σ H Q I h
 refine wpAny_Call_method0_late hbase hline (thn (ho pins s σ H _ I h) fun v s1 ⟨x, H1, I1, r1, ty, q1⟩ => ?_)
 obtain ⟨h1, h2⟩ := Zgd I1 r1 ty
 exact ⟨T, id, pa, slot, hty, h1, h2, Calls.callWith_builtin rfl (PySem.evalArgs_none (hm pins s1 σ H1 x [] v [] Q I1 r1 .nil q1))⟩
theorem Z7s (pa : PlainAttrs T) (slot : Slot T name id) (hty : typeOf (.builtin id) = pure (.type "method_descriptor")) (hm : MtR X id r) (ho : PE X o to) (ha : PA X (e :: es) t)
  (hbase : attributeBase o name X.env (eval o X.env) = eval o X.env := by rfl)
  (hfew : ((backTo cpos (starEach (e :: es) X.env)).all (fun x => !x.1) && (backToKw cpos (keywordEach [] X.env)).all (fun x => x.1.isSome)
   && decide ((e :: es).length + ([] : List Keyword).length + (if ([] : List Keyword).isEmpty then 0 else 1) < 30)) = true := by rfl)
  (hline : (apos.endLine == cpos.line) = true := by rfl) (hs : starEach (e :: es) X.env = (false, eval e X.env) :: starEach es X.env := by rfl) (hplain : (backTo cpos (starEach es X.env)).any (·.1) = false := by rfl) :
  PE X (.Call (.Attribute o name apos) (e :: es) [] cpos) (tBM X.K T r to t) := by
 intro pins s σ H Q I h
 refine wpAny_Call_method_late hbase hfew hline rfl (thn (ho pins s σ H _ I h) fun v s1 ⟨x, H1, I1, r1, ty, q1⟩ => ?_)
 obtain ⟨h1, h2⟩ := Zgd I1 r1 ty
 refine ⟨T, id, pa, slot, hty, h1, h2, ?_⟩
 have hA := ha cpos pins s1 σ H1 _ I1 q1
 rw [hs] at hA ⊢
 refine Calls.callWith_builtin (by show (false || (backTo cpos (starEach es X.env)).any (·.1)) = false; rw [hplain] <;> rfl) (Calls.evalArgs_plain ?_)
 exact thn hA fun us s2 ⟨vs, H2, I2, r2, q2⟩ => hm pins s2 σ H2 x vs v us Q I2 r1 r2 q2
end
def MtM (X : Cx) (id : String) (r : V -> List V -> Hp -> VK -> Prop) : Prop :=
 ∀ (pins : List (Addr × Obj)) (s : Shared) (σ : St) (H : Hp) (x : V) (xs : List V) (v : Value) (us : List Value) (Q : VK), Inv X pins σ H s -> RelV x v -> Vals xs us -> r x xs H Q →
  wpAny (model X.prog X.w) X.A (call (.builtin id) (v :: us)) (EP X pins σ Q) X.xe s
theorem Vals.one : ∀ {x : V} {us : List Value}, Vals [x] us -> ∃ u, us = [u] /\ RelV x u
 | _, _, .cons r .nil => ⟨_, rfl, r⟩
theorem Vals.zero : ∀ {us : List Value}, Vals [] us -> us = []
 | _, .nil => rfl
theorem Vals.dropLast {xs : List V} {us : List Value} (h : Vals xs us) : Vals xs.dropLast us.dropLast := by
 induction h with
 | nil => exact .nil
 | cons r t ih =>
  cases t with
  | nil => exact .nil
  | cons q t' => exact .cons r ih
theorem Vals.reverse {xs : List V} {us : List Value} (h : Vals xs us) : Vals xs.reverse us.reverse := by
 induction h with
 | nil => exact .nil
 | cons r t ih => rw [List.reverse_cons, List.reverse_cons]; exact Vals.append ih (.cons r .nil)
theorem Zaw {α : Type} (l : List α) : l.eraseIdx (l.length - 1) = l.dropLast := by
 induction l with
 | nil => rfl
 | cons a r ih =>
  cases r with
  | nil => rfl
  | cons b r =>
   have e : (a :: b :: r).length - 1 = ((b :: r).length - 1) + 1 := by
    have h1 : (a :: b :: r).length = r.length + 2 := rfl
    have h2 : (b :: r).length = r.length + 1 := rfl
    omega
   rw [e, List.eraseIdx_cons_succ, ih]
   all_goals rfl
section
variable {X : Cx} {pins : List (Addr × Obj)} {σ : St} {H : Hp} {s : Shared} {l b : Addr} {xs ys zs : List V}
theorem Inv.lset {its its' : List Value} {n : Nat} {f : Array Value -> Array Value} {t' : Nat} (I : Inv X pins σ H s) (hH : H l = some (.lst xs))
  (e : s.heap.get? l = some { cls := .type "list", data := .seq its.toArray n }) (hf : f its.toArray = its'.toArray) (hv : Vals ys its') (hz : ys.length <= sizeLine) :
  Inv X pins σ (upd H l (.lst ys)) { s with heap := s.heap.update l (Obj.mapSeq f), toks := t' } := by
 have q := PySem.IsL.update e f
 rw [hf] at q
 refine I.write (x := l) (e := l) (by rw [hH]; exact trivial) (.inl rfl) (fun b' u hb hu => (Heap.get?_update_other s.heap (Obj.mapSeq f) (Ne.symm hb)).trans hu) ⟨_, q⟩ ?_
 exact ⟨hz, its', _, hv, q⟩
theorem Inv.lnew {its : List Value} {t' : Nat} (I : Inv X pins σ H s) (hv : Vals ys its) (hz : ys.length <= sizeLine) :
  Inv X pins σ (upd H s.heap.objs.size (.lst ys)) { s with heap := s.heap.push { cls := .type "list", data := .seq its.toArray }, toks := t' } :=
 I.laid (fun _ _ q => Heap.get?_push_of_some _ q) (Nat.le_refl _) ⟨hz, its, 0, hv, Heap.get?_push_size _ rfl⟩
theorem Inv.fresh (I : Inv X pins σ H s) : H s.heap.objs.size = none := I.hok.fresh (Nat.le_refl _)
theorem Inv.lstM (I : Inv X pins σ H s) (hH : H l = some (.lst xs)) : xs.length <= sizeLine /\ ∃ (its : List Value) (n : Nat), Vals xs its /\ xs.length = its.length /\ s.heap.get? l = some { cls := .type "list", data := .seq its.toArray n } := by
 obtain ⟨z, its, n, r, e⟩ := I.hok l _ hH
 exact ⟨z, its, n, r, r.length, e⟩
theorem Zev {n : Nat} (h : n <= sizeLine) : Builtin.List.listTooLong n = false := by
 unfold Builtin.List.listTooLong
 exact decide_eq_false (by omega)
end
section
variable {X : Cx}
def rAppend : V -> List V -> Hp -> VK -> Prop := fun x vs H Q => ∃ l xs y, x = .ref l /\ vs = [y] /\ H l = some (.lst xs) /\ xs.length < sizeLine /\ Q .non (upd H l (.lst (xs ++ [y])))
theorem Z2b : MtM X "list.append" rAppend := by
 intro pins s σ H x vs v us Q I rx rv h
 obtain ⟨l, xs, y, rfl, rfl, hH, hz, q⟩ := h
 cases rx
 obtain ⟨u, rfl, ru⟩ := rv.one
 obtain ⟨z, its, n, r, hl, e⟩ := I.lstM hH
 refine call_meets F.slot_list_append ⟨_, e, rfl⟩ F.entry_list_append (F.args_list_append_2 _ _) (PySem.list_append l its.toArray n u (by rw [List.size_toArray]; omega)) ⟨e, ?_⟩
 refine ⟨.non, _, I.lset (its' := its ++ [u]) hH e (by simp) (r.append (.cons ru .nil)) ?_, rfl, q⟩
 rw [List.length_append, List.length_singleton]
 omega
def rExtend : V -> List V -> Hp -> VK -> Prop := fun x vs H Q => ∃ l b xs zs, x = .ref l /\ vs = [.ref b] /\ H l = some (.lst xs) /\ H b = some (.lst zs) /\ xs.length + zs.length <= sizeLine /\ Q .non (upd H l (.lst (xs ++ zs)))
theorem Zcd : MtM X "list.extend" rExtend := by
 intro pins s σ H x vs v us Q I rx rv h
 obtain ⟨l, b, xs, zs, rfl, rfl, hH, hB, hz, q⟩ := h
 cases rx
 obtain ⟨u, rfl, ru⟩ := rv.one
 cases ru
 obtain ⟨z, its, n, r, hl, e⟩ := I.lstM hH
 obtain ⟨z2, its2, n2, r2, hl2, e2⟩ := I.lstM hB
 have hsz : its.toArray.size + its2.toArray.size <= sizeLine := by rw [List.size_toArray, List.size_toArray]; omega
 have hlong : ¬ (!its.toArray.isEmpty && Builtin.List.listTooLong (its.toArray.size + its2.toArray.size)) = true := by
  rw [Zev hsz, Bool.and_false]
  exact Bool.false_ne_true
 refine call_meets F.slot_list_extend ⟨_, e, rfl⟩ F.entry_list_extend (F.args_list_extend_2 _ _)
  (AutoSeq1.list_extend_list_list_0 l its.toArray n b its2.toArray n2 hlong (by rw [List.size_toArray]; omega) (by omega)) ⟨e, e2, ?_⟩
 refine ⟨.non, _, I.lset (its' := its ++ its2) hH e (by simp) (r.append r2) ?_, rfl, q⟩
 rw [List.length_append]
 omega
def rPop : V -> List V -> Hp -> VK -> Prop := fun x vs H Q => ∃ l xs y, x = .ref l /\ vs = [] /\ H l = some (.lst xs) /\ xs[xs.length - 1]? = some y /\ Q y (upd H l (.lst xs.dropLast))
theorem Zj6 : MtM X "list.pop" rPop := by
 intro pins s σ H x vs v us Q I rx rv h
 obtain ⟨l, xs, y, rfl, rfl, hH, hy, q⟩ := h
 cases rx
 have hus := rv.zero
 subst hus
 obtain ⟨z, its, n, r, hl, e⟩ := I.lstM hH
 obtain ⟨u, hu, ru⟩ := r.get hy
 have hy' : its.toArray[its.toArray.size - 1]? = some u := by
  show its.toArray[its.length - 1]? = some u
  rw [<- Array.getElem?_toList, <- hl]
  exact hu
 refine call_meets F.slot_list_pop ⟨_, e, rfl⟩ F.entry_list_pop (F.args_list_pop_1 _) (MeetsSeq.list_pop_last l its.toArray n u hy' (by rw [List.size_toArray]; omega)) ⟨e, ?_⟩
 refine ⟨y, _, I.lset (its' := its.dropLast) hH e ?_ r.dropLast ?_, ru, q⟩
 ·show its.toArray.eraseIdxIfInBounds (its.toArray.size - 1) = its.dropLast.toArray
  rw [List.size_toArray, List.eraseIdxIfInBounds_toArray, Zaw]
 ·rw [List.length_dropLast]
  omega
def rCat : R2 := fun x y H Q => ∃ l b xs zs, x = .ref l /\ y = .ref b /\ H l = some (.lst xs) /\ H b = some (.lst zs) /\ xs.length + zs.length <= sizeLine /\ ∀ p, H p = none -> Q (.ref p) (upd H p (.lst (xs ++ zs)))
theorem Zce : OpR X (binaryOp .Add) rCat := by
 intro pins s σ H x y v u Q I rx ry h
 obtain ⟨l, b, xs, zs, rfl, rfl, hH, hB, hz, q⟩ := h
 cases rx
 cases ry
 obtain ⟨z, its, n, r, hl, e⟩ := I.lstM hH
 obtain ⟨z2, its2, n2, r2, hl2, e2⟩ := I.lstM hB
 refine PySem.P.add_list e e2 ?_ (by rw [List.size_toArray, List.size_toArray]; omega)
 have ea : its.toArray ++ its2.toArray = (its ++ its2).toArray := by simp
 rw [ea]
 exact ⟨.ref _, _, I.lnew (t' := s.toks) (r.append r2) (by rw [List.length_append]; omega), rfl, q _ I.fresh⟩
end
section
variable {prog : Program} {w : World} {A : Around} {E : Value -> Shared -> Prop} {s : Shared}
end
section
variable {X : Cx}
end
section
variable {κ : Type} [DecidableEq κ]
def Z6o (kvs : List (κ × V)) (k : κ) : Option V := (kvs.find? fun kv => decide (kv.1 = k)).map (·.2)
def Z6p (kvs : List (κ × V)) (k : κ) (v : V) : List (κ × V) :=
 if (kvs.any fun kv => decide (kv.1 = k)) = true then kvs.map (fun kv => if kv.1 = k then (kv.1, v) else kv) else kvs ++ [(k, v)]
theorem Z6q {p : κ × V} {r : List (κ × V)} {k : κ} (e : p.1 = k) : Z6o (p :: r) k = some p.2 := by simp [Z6o, List.find?_cons, e]
theorem Z6r {p : κ × V} {r : List (κ × V)} {k : κ} (e : ¬ p.1 = k) : Z6o (p :: r) k = Z6o r k := by simp [Z6o, List.find?_cons, e]
theorem Z9n (k : κ) : ∀ kvs : List (κ × V), (kvs.any fun kv => decide (kv.1 = k)) = (Z6o kvs k).isSome
 | [] => rfl
 | p :: r => by
  rw [List.any_cons]
  by_cases e : p.1 = k
  ·simp only [Z6q e, decide_eq_true e, Bool.true_or, Option.isSome_some]
  ·rw [Z6r e, decide_eq_false e, Bool.false_or]; exact Z9n k r
theorem Z3a (kvs : List (κ × V)) (k : κ) (v : V) : (Z6p kvs k v).length <= kvs.length + 1 := by
 unfold Z6p
 split
 ·rw [List.length_map]; omega
 ·rw [List.length_append, List.length_cons, List.length_nil]; omega
theorem RelO.isSome_eq {o : Option V} {u : Option Value} (r : RelO o u) : o.isSome = u.isSome := by
 cases o with
 | none => cases u with
  | none => rfl
  | some _ => exact (show False from r).elim
 | some _ => cases u with
  | none => exact (show False from r).elim
  | some _ => rfl
theorem KV.val {kvs : List (κ × V)} {vs : List (κ × Value)} (r : KV kvs vs) (k : κ) : RelO (Z6o kvs k) (valueAt vs k) := by
 unfold KV at r
 induction r with
 | nil => exact True.intro
 | @cons p q ps qs h t ih =>
  obtain ⟨h1, h2⟩ := h
  by_cases e : p.1 = k
  ·have e' : q.1 = k := h1.symm.trans e
   have b : valueAt (q :: qs) k = some q.2 := by simp [valueAt, List.find?_cons, e']
   rw [Z6q e, b]; exact h2
  ·have e' : ¬ q.1 = k := fun z => e (h1.trans z)
   have b : valueAt (q :: qs) k = valueAt qs k := by simp [valueAt, List.find?_cons, e']
   rw [Z6r e, b]; exact ih
theorem KV.any {kvs : List (κ × V)} {vs : List (κ × Value)} (r : KV kvs vs) (k : κ) : (kvs.any fun kv => decide (kv.1 = k)) = vs.any fun kv => decide (kv.1 = k) := by
 unfold KV at r
 induction r with
 | nil => rfl
 | cons h t ih => rw [List.any_cons, List.any_cons, ih, h.1]
theorem KV.repl {kvs : List (κ × V)} {vs : List (κ × Value)} (r : KV kvs vs) (k : κ) {y : V} {u : Value} (ry : RelV y u) :
  KV (kvs.map fun kv => if kv.1 = k then (kv.1, y) else kv) (vs.map fun kv => if kv.1 = k then (kv.1, u) else kv) := by
 unfold KV at r ⊢
 induction r with
 | nil => exact .nil
 | @cons p q ps qs h t ih =>
  rw [List.map_cons, List.map_cons]
  refine .cons ?_ ih
  obtain ⟨h1, h2⟩ := h
  by_cases e : p.1 = k
  ·rw [if_pos e, if_pos (h1.symm.trans e)]; exact ⟨h1, ry⟩
  ·rw [if_neg e, if_neg (fun z => e (h1.trans z))]; exact ⟨h1, h2⟩
theorem KV.put {kvs : List (κ × V)} {vs : List (κ × Value)} (r : KV kvs vs) (k : κ) {y : V} {u : Value} (ry : RelV y u) : KV (Z6p kvs k y) (stored vs k u) := by
 unfold Z6p stored
 rw [r.any k]
 by_cases e : (vs.any fun kv => decide (kv.1 = k)) = true
 ·rw [if_pos e, if_pos e]; exact r.repl k ry
 ·rw [if_neg e, if_neg e]; exact Paired.snoc r ⟨rfl, ry⟩
theorem KV.length {kvs : List (κ × V)} {vs : List (κ × Value)} (r : KV kvs vs) : kvs.length = vs.length := Paired.length r
end
theorem Zew {P : Program} {w : World} {k : Key} {u : Value} (r : RelV (kV k) u) : (Z1d P w).is k u = true := by
 cases k with
 | inl i => obtain ⟨t, e⟩ := (show ∃ t, u = Value.int i t from r); subst e; exact Z8p P w i t
 | inr x => obtain ⟨t, e⟩ := (show ∃ t, u = Value.str x t from r); subst e; exact Z8q P w x t
theorem Z7t {P : Program} {w : World} : ∀ {ks : List Key} {us : List Value}, Vals (ks.map kV) us -> ItemsAre (Z1d P w) ks us
 | [], _, r => by rw [List.map_nil] at r; cases r; exact .nil
 | k :: ks, _, r => by
  rw [List.map_cons] at r
  cases r with
  | cons h t => exact .cons (Zew h) (Z7t t)
abbrev KT (H : Hp) : List (List Key × V) -> List (List Key × Addr × Value) -> Prop := Paired fun p q => p.1 = q.1 /\ H q.2.1 = some (.tup (p.1.map kV)) /\ RelV p.2 q.2.2
theorem KT.val {H : Hp} {kvs : List (List Key × V)} {xs : List (List Key × Addr × Value)} (r : KT H kvs xs) (k : List Key) : RelO (Z6o kvs k) ((atKey xs k).map (·.2)) := by
 induction r with
 | nil => exact True.intro
 | @cons p q ps qs h t ih =>
  obtain ⟨h1, _, h2⟩ := h
  by_cases e : p.1 = k
  ·have e' : q.1 = k := h1.symm.trans e
   have b : atKey (q :: qs) k = some q.2 := by simp [atKey, List.find?_cons, e']
   rw [Z6q e, b]; exact h2
  ·have e' : ¬ q.1 = k := fun z => e (h1.trans z)
   have b : atKey (q :: qs) k = atKey qs k := by simp [atKey, List.find?_cons, e']
   rw [Z6r e, b]; exact ih
theorem KT.repl {H : Hp} {kvs : List (List Key × V)} {xs : List (List Key × Addr × Value)} (r : KT H kvs xs) (k : List Key) {y : V} {u : Value} (ry : RelV y u) :
  KT H (kvs.map fun kv => if kv.1 = k then (kv.1, y) else kv) (xs.map (putAt k u)) := by
 induction r with
 | nil => exact .nil
 | @cons p q ps qs h t ih =>
  rw [List.map_cons, List.map_cons]
  refine .cons ?_ ih
  obtain ⟨h1, h2, h3⟩ := h
  unfold putAt
  by_cases e : p.1 = k
  ·rw [if_pos e, if_pos (h1.symm.trans e)]; exact ⟨h1, h2, ry⟩
  ·rw [if_neg e, if_neg (fun z => e (h1.trans z))]; exact ⟨h1, h2, h3⟩
theorem KT.put {H : Hp} {kvs : List (List Key × V)} {xs : List (List Key × Addr × Value)} (r : KT H kvs xs) (k : List Key) {b : Addr} {y : V} {u : Value} (hb : H b = some (.tup (k.map kV))) (ry : RelV y u) :
  KT H (Z6p kvs k y) (storedH xs k b u) := by
 have e : (kvs.any fun kv => decide (kv.1 = k)) = (atKey xs k).isSome := by
  rw [Z9n, (r.val k).isSome_eq, Option.isSome_map]
 unfold Z6p storedH
 rw [e]
 by_cases q : (atKey xs k).isSome = true
 ·rw [if_pos q, if_pos q]; exact r.repl k ry
 ·rw [if_neg q, if_neg q]; exact Paired.snoc r ⟨rfl, hb, ry⟩
theorem KT.keeps {H H' : Hp} {kvs : List (List Key × V)} {xs : List (List Key × Addr × Value)} (r : KT H kvs xs) (ht : ∀ b ys, H b = some (.tup ys) -> H' b = some (.tup ys)) : KT H' kvs xs :=
 Paired.mapP r fun _ _ z => ⟨z.1, ht _ _ z.2.1, z.2.2⟩
section
variable {P : Program} {w : World} {H : Hp} {h : Heap} {a : Addr}
theorem Zj7 {u : HO} (ok : HOk P w H h) (e : Rd H a u) : ObjOk P w H h a u := e.ok ok
theorem Zh5 {kvs : List (Key × V)} (ok : HOk P w H h) (e : Rd H a (.dK kvs)) : kvs.length <= sizeLine /\ (a == sysModules) = false /\ ∃ vs, KV kvs vs /\ h.DictOf (Z1d P w) a vs :=
 show ObjOk P w H h a (.dK kvs) from Zj7 ok e
theorem Zj8 {kvs : List (Key × V)} (ok : HOk P w H h) (e : H a = some (.dK kvs)) : kvs.length <= sizeLine /\ (a == sysModules) = false /\ ∃ vs, KV kvs vs /\ h.DictOf (Z1d P w) a vs := Zh5 ok (.inl e)
theorem Zcf {ks : List Key} (ok : HOk P w H h) (e : H a = some (.tup (ks.map kV))) : (tupleKind (Z1d P w)).is h ks a := by
 obtain ⟨_, its, r, o, h1, h2, n, h3⟩ := (show ObjOk P w H h a (.tup (ks.map kV)) from ok a _ e)
 exact ⟨o, its.toArray, n, h1, h2, h3, by simpa using Z7t r⟩
theorem Zh6 {kvs : List (List Key × V)} (ok : HOk P w H h) (e : Rd H a (.dT kvs)) : kvs.length <= sizeLine /\ (a == sysModules) = false ∧
  ∃ xs, KT H kvs xs /\ h.DictOfH (tupleKind (Z1d P w)) a xs := by
 obtain ⟨z, y, xs, r, o, es, ep, h1, h2, h3, h4, h5⟩ := (show ObjOk P w H h a (.dT kvs) from Zj7 ok e)
 refine ⟨z, y, xs, r, o, es, ep, h1, h2, h3, h4, fun x hx => ?_, h5⟩
 have all : ∀ {l : List (List Key × V)} {m : List (List Key × Addr × Value)}, KT H l m -> ∀ x ∈ m, (tupleKind (Z1d P w)).is h x.1 x.2.1 := by
  intro l m q
  induction q with
  | nil => intro x hx; exact nomatch hx
  | @cons p q ps qs hq t ih =>
   intro x hx
   rcases List.mem_cons.mp hx with e | hx
   ·subst e
    exact Zcf ok (by rw [<- hq.1]; exact hq.2.1)
   ·exact ih x hx
 exact all r x hx
theorem Zkl {kvs : List (List Key × V)} (ok : HOk P w H h) (e : H a = some (.dT kvs)) : kvs.length <= sizeLine /\ (a == sysModules) = false ∧
  ∃ xs, KT H kvs xs /\ h.DictOfH (tupleKind (Z1d P w)) a xs := Zh6 ok (.inl e)
end
def DGet (H : Hp) (a : Addr) (y : V) (r : Option V) : Prop :=
 (∃ kvs k, Rd H a (.dK kvs) /\ y = kV k /\ r = Z6o kvs k) ∨ ∃ kvs k b, Rd H a (.dT kvs) /\ y = .ref b /\ H b = some (.tup (k.map kV)) /\ r = Z6o kvs k
def DPut (H : Hp) (a : Addr) (y v : V) (H' : Hp) : Prop :=
 (∃ kvs k, H a = some (.dK kvs) /\ y = kV k /\ kvs.length < sizeLine /\ H' = upd H a (.dK (Z6p kvs k v))) ∨
 ∃ kvs k b, H a = some (.dT kvs) /\ y = .ref b /\ H b = some (.tup (k.map kV)) /\ kvs.length < sizeLine /\ H' = upd H a (.dT (Z6p kvs k v))
theorem DGet.k {H : Hp} {a : Addr} {kvs : List (Key × V)} {k : Key} (e : H a = some (.dK kvs)) : DGet H a (kV k) (Z6o kvs k) := .inl ⟨kvs, k, .inl e, rfl, rfl⟩
theorem DPut.k {H : Hp} {a : Addr} {kvs : List (Key × V)} {k : Key} {v : V} (e : H a = some (.dK kvs)) (hl : kvs.length < sizeLine) : DPut H a (kV k) v (upd H a (.dK (Z6p kvs k v))) := .inl ⟨kvs, k, e, rfl, hl, rfl⟩
section
variable {X : Cx} {pins : List (Addr × Obj)} {σ : St} {H : Hp} {s : Shared} {a : Addr} {y v : V} {u r : Value} {o : Option V} {A : Around} {E : Value -> Shared -> Prop}
theorem Inv.big (I : Inv X pins σ H s) : sysModules < s.heap.objs.size := by
 have h : mainGlobals < s.heap.objs.size := (I.mod.glob.keeps I.bk).lt
 exact Nat.lt_trans (by decide) h
theorem Zcg {Q : Value -> Shared -> Prop} (hu : A.units + 1 < cLine) (I : Inv X pins σ H s) (g : DGet H a y (some v)) (ry : RelV y u) (h : ∀ w' s', Inv X pins σ H s' -> RelV v w' -> Q w' s') :
  wpAny (model X.prog X.w) A (getItem (.ref a) u) Q E s := by
 rcases g with ⟨kvs, k, e, ey, l⟩ | ⟨kvs, k, b, e, ey, eb, l⟩
 ·subst ey
  obtain ⟨z, hd, vs, rel, dd⟩ := Zh5 I.hok e
  obtain ⟨w', hw, rw'⟩ := RelO.some_of (v := v) (o := valueAt vs k) (by rw [l]; exact rel.val k)
  exact wpAny_getItem_of (Zew ry) dd.mapOf hw (h w' _ (I.tok _) rw')
 ·subst ey
  cases (show u = Value.ref b from ry)
  obtain ⟨z, hd, xs, rel, dd⟩ := Zh6 I.hok e
  obtain ⟨w', hw, rw'⟩ := RelO.some_of (v := v) (o := (atKey xs k).map (·.2)) (by rw [l]; exact rel.val k)
  obtain ⟨p, hp, hp2⟩ := Option.map_eq_some_iff.mp hw
  refine wpAny_getItem_heap (tupleKind_room_in1 hu) (Zcf I.hok eb) dd hp ?_
  rw [hp2]
  exact h w' _ (I.tok _) rw'
theorem Z8v {h' : Heap} {t' : Nat} {ob : HO} (I : Inv X pins σ H s) (mu : Mut (H a)) (hs : Heap.SameBut a s.heap h') (he : ∃ q, h'.get? a = some q) (new : ObjOk X.prog X.w (upd H a ob) h' a ob) :
  Inv X pins σ (upd H a ob) { s with heap := h', toks := t' } :=
 I.write (x := a) (e := a) mu (.inl rfl) (fun b q hb z => (hs.2 b hb).trans z) he new
theorem Zge {P : Program} {w : World} {H' : Hp} {h' : Heap} {kvs : List (Key × V)} {vs : List (Key × Value)} (z : kvs.length <= sizeLine) (hd : (a == sysModules) = false) (rel : KV kvs vs) (dd : h'.DictOf (Z1d P w) a vs) :
  ObjOk P w H' h' a (.dK kvs) := ⟨z, hd, vs, rel, dd⟩
theorem Zch {H' : Hp} {Q : Unit -> Shared -> Prop} (hu : A.units + 1 < cLine) (I : Inv X pins σ H s) (g : DPut H a y v H') (ry : RelV y u) (rv : RelV v r) (h : ∀ s', Inv X pins σ H' s' -> Q () s') :
  wpAny (model X.prog X.w) A (setItem (.ref a) u r) Q E s := by
 rcases g with ⟨kvs, k, e, ey, l, eH⟩ | ⟨kvs, k, b, e, ey, eb, l, eH⟩
 ·subst ey eH
  obtain ⟨z, hd, vs, rel, dd⟩ := Zj8 I.hok e
  have hz : vs.length <= sizeLine := by rw [<- rel.length]; exact z
  have hl : (Z6p kvs k v).length <= sizeLine := by have := Z3a kvs k v; omega
  refine wpAny_setItem_pairs (hsz := hz) (Zew ry) dd fun h' dd' hs => h _ ?_
  have he : ∃ q, h'.get? a = some q := let ⟨q, _, _, hq, _⟩ := dd'; ⟨q, hq⟩
  exact Z8v I (by rw [e]; exact True.intro) hs he (Zge hl hd (rel.put k rv) dd')
 ·subst ey eH
  cases (show u = Value.ref b from ry)
  obtain ⟨z, hd, xs, rel, dd⟩ := Zkl I.hok e
  have hz : xs.length <= sizeLine := by rw [<- Paired.length rel]; exact z
  have hl : (Z6p kvs k v).length <= sizeLine := by have := Z3a kvs k v; omega
  refine wpAny_setItem_heap (hsz := hz) (tupleKind_room_in1 hu) (Zcf I.hok eb) dd fun h' dd' hs => h _ ?_
  obtain ⟨q, es, ep, hq, h2, h3, h4, _, h5⟩ := dd'
  refine Z8v I (by rw [e]; exact True.intro) hs ⟨q, hq⟩ ⟨hl, hd, _, (rel.put k eb rv).keeps fun c ys ec => ?_, q, es, ep, hq, h2, h3, h4, h5⟩
  rw [Z0c (Z44 ec e (fun z => nomatch z))]
  exact ec
end
section
variable {X : Cx} {pins : List (Addr × Obj)} {σ : St} {H : Hp} {s : Shared} {a : Addr} {kvs : List (Key × V)} {k : Key} {u : Value} {A : Around} {E : Value -> Shared -> Prop}
end
def Zlg (i : Expr) : Prop := ∀ ov iv, subscripted i false ov iv = operate [ov, iv] (getItem ov iv)
theorem Zh7 {prog : Program} {w : World} {A : Around} {E : Value -> Shared -> Prop} {s : Shared} {env : Env} {value slice : Expr} {pos : Pos} {T id : String} {Q : Value -> Shared -> Prop}
  (hl : typeLookup (.type T) "__getitem__" = pure (some (.builtin id))) (hs : Zlg slice)
  (h : wpAny (model prog w) A (eval value env) (fun o s₁ => wpAny (model prog w) A (eval slice env) (fun i s₂ => s₂.TypeIs o T /\ wpAny (model prog w) A (getItem o i) Q E s₂) E s₁) E s) :
  wpAny (model prog w) A (eval (.Subscript value slice pos) env) Q E s := by
 refine Subscript_ (wpAny_mono h (fun o s₁ h₁ => wpAny_mono h₁ (fun i s₂ h₂ => ?_) fun _ _ x => x) fun _ _ x => x)
 obtain ⟨hT, h₂⟩ := h₂
 unfold subscriptTail
 refine wpAny_bind ?_
 rw [getitemInPython_of_ne hT.not_modules]
 refine wpAny_bind (wpAny_specialOf hT hl ?_)
 have fin : wpAny (model prog w) A (subscripted slice false o i) (fun r s₃ => wpAny (model prog w) A (letTemporaryGo value o r >>= fun _ => pure r) Q E s₃) E s₂ := by
  rw [hs o i]
  exact wpAny_operating (wpAny_mono h₂ (fun r s₃ h₃ => wpAny_bind (wpAny_letTemporaryGo (wpAny_pure h₃))) fun _ _ x => x)
 first
  | exact wpAny_pure (wpAny_bind fin)
  | exact wpAny_bind (wpAny_pure (wpAny_bind fin))
  | exact wpAny_bind fin
theorem Z8w {X : Cx} {pins : List (Addr × Obj)} {σ : St} {H : Hp} {s : Shared} {a : Addr} {y : V} {o : Option V} (I : Inv X pins σ H s) (g : DGet H a y o) : s.TypeIs (.ref a) "dict" := by
 rcases g with ⟨kvs, k, e, _, _⟩ | ⟨kvs, k, b, e, _, _, _⟩
 ·obtain ⟨_, _, vs, _, dd⟩ := Zh5 I.hok e
  exact dd.typeIs
 ·obtain ⟨_, _, xs, _, dd⟩ := Zh6 I.hok e
  exact dd.typeIs
def Zkm (td ty : TE) : TE := fun σ H Q => td σ H fun x H1 => ty σ H1 fun y H2 => ∃ a v, x = .ref a /\ DGet H2 a y (some v) /\ Q v H2
def Zkn (td ty tv : TE) : TS := fun D σ H => tv σ H fun v H1 => td σ H1 fun x H2 => ty σ H2 fun y H3 => ∃ a H4, x = .ref a /\ DPut H3 a y v H4 /\ D.nx σ H4
section
variable {X : Cx} {o i e value : Expr} {pos pos' tpos : Pos} {td ty tv : TE}
theorem Z0y (hu : X.A.units + 1 < cLine) (ho : PE X o td) (hi : PE X i ty) (hs : Zlg i) : PE X (.Subscript o i pos) (Zkm td ty) := by
 intro pins s σ H Q I h
 refine Zh7 PySem.F.slot_dict_getitem.lookup hs (thn (ho pins s σ H _ I h) fun u s1 ⟨x, H1, I1, rx, q1⟩ => thn (hi pins s1 σ H1 _ I1 q1) fun iv s2 ⟨y, H2, I2, ry, a, v, ex, g, q2⟩ => ?_)
 subst ex
 obtain rfl : u = Value.ref a := rx
 exact ⟨Z8w I2 g, Zcg hu I2 g ry fun w' s3 I3 rw' => ⟨v, H2, I3, rw', q2⟩⟩
theorem Z45 (hu : X.A.units + 1 < cLine) (ho : PE X o td) (hi : PE X i ty) (hv : PE X value tv) (hs : swapsWith value (some (.Subscript o i pos')) pos.line X.env = pure false) :
  PS X (.Assign [.Subscript o i pos'] value pos) (Zkn td ty tv) := by
 intro pins s σ H D I h
 refine wpAny_Assign_Subscript (thn (hv pins s σ H _ I h) fun r s1 ⟨v, H1, I1, rv, q1⟩ => thn (ho pins s1 σ H1 _ I1 q1) fun u s2 ⟨x, H2, I2, rx, q2⟩ => thn (hi pins s2 σ H2 _ I2 q2) fun iv s3 ⟨y, H3, I3, ry, a, H4, ex, g, q3⟩ => ?_) hs
 subst ex
 obtain rfl : u = Value.ref a := rx
 exact Zch hu I3 g ry rv fun s4 I4 => ⟨σ, H4, I4, q3⟩
end
theorem Zex {P : Program} {w : World} {H : Hp} (h : Heap) (hb : sysModules < h.objs.size) : ObjOk P w H (h.push { cls := .type "dict", data := .dict #[] }) h.objs.size (.dK []) :=
 ⟨Nat.zero_le _, beq_eq_false_iff_ne.mpr (Ne.symm (Nat.ne_of_lt hb)), [], .nil, Heap.DictOf.new h⟩
section
variable {X : Cx} {pos : Pos}
end
def Zci : List (TE × TE) -> St -> Hp -> (List (V × V) -> Hp -> Prop) -> Prop
 | [], _, H, Q => Q [] H
 | (tk, tv) :: r, σ, H, Q => tk σ H fun x H1 => tv σ H1 fun y H2 => Zci r σ H2 fun ps H3 => Q ((x, y) :: ps) H3
abbrev VV : List (V × V) -> List (Value × Value) -> Prop := Paired fun p q => RelV p.1 q.1 /\ RelV p.2 q.2
def PPs (X : Cx) (pos : Pos) (keys : List (Option Expr)) (values : List Expr) (trs : List (TE × TE)) : Prop :=
 ∀ (pins : List (Addr × Obj)) (s : Shared) (σ : St) (H : Hp) (Q : List (V × V) -> Hp -> Prop), Inv X pins σ H s -> Zci trs σ H Q →
  wpAny (model X.prog X.w) X.A (evalPairs (pairTrees keys values X.env pos)) (fun vs s' => ∃ ps H', Inv X pins σ H' s' /\ VV ps vs /\ Q ps H') X.xe s
theorem Zcj {X : Cx} {pos : Pos} : PPs X pos [] [] [] := fun pins s σ H Q I h => pairTrees_nil_walk ⟨[], H, I, .nil, h⟩
theorem Z24 {X : Cx} {pos : Pos} {k v : Expr} {ks : List (Option Expr)} {vs : List Expr} {tk tv : TE} {trs : List (TE × TE)} (hk : PE X k tk) (hv : PE X v tv) (hr : PPs X pos ks vs trs) :
  PPs X pos (some k :: ks) (v :: vs) ((tk, tv) :: trs) := fun pins s σ H Q I h =>
 pairTrees_cons_walk (thn (hk pins s σ H _ I h) fun u s1 ⟨x, H1, I1, rx, q1⟩ => thn (hv pins s1 σ H1 _ I1 q1) fun w2 s2 ⟨y, H2, I2, ry, q2⟩ =>
  thn (hr pins s2 σ H2 _ I2 q2) fun ws s3 ⟨ps, H3, I3, rel, q3⟩ => ⟨(x, y) :: ps, H3, I3, .cons ⟨rx, ry⟩ rel, q3⟩)
def Z51 (kvs more : List (Key × V)) : List (Key × V) := more.foldl (fun acc kv => Z6p acc kv.1 kv.2) kvs
theorem KV.merge : ∀ {more : List (Key × V)} {rs : List (Key × Value)} {kvs : List (Key × V)} {vs : List (Key × Value)}, KV more rs -> KV kvs vs -> KV (Z51 kvs more) (merged vs rs) := by
 intro more rs kvs vs r
 unfold KV at r
 induction r generalizing kvs vs with
 | nil => intro q; exact q
 | @cons p q ps qs h t ih =>
  intro r0
  have e : KV (Z6p kvs p.1 p.2) (stored vs q.1 q.2) := by
   have := r0.put p.1 h.2
   rw [<- h.1]; exact this
  exact ih e
theorem Z3n : ∀ (more kvs : List (Key × V)), (Z51 kvs more).length <= kvs.length + more.length
 | [], kvs => by show kvs.length <= kvs.length + 0; omega
 | p :: r, kvs => by
  have h1 := Z3n r (Z6p kvs p.1 p.2)
  have h2 := Z3a kvs p.1 p.2
  show (Z51 (Z6p kvs p.1 p.2) r).length <= _
  rw [List.length_cons]; omega
theorem Z64 {P : Program} {w : World} : ∀ {kvs : List (Key × V)} {ws : List (Value × Value)}, VV (kvs.map fun kv => (kV kv.1, kv.2)) ws -> ∃ rs, Carries (Z1d P w) ws rs /\ KV kvs rs
 | [], _, r => by rw [List.map_nil] at r; cases r; exact ⟨[], True.intro, .nil⟩
 | p :: kvs, _, r => by
  rw [List.map_cons] at r
  cases r with
  | @cons a b as bs h t =>
   obtain ⟨rs, c, q⟩ := Z64 (P := P) (w := w) t
   obtain ⟨b1, b2⟩ := b
   exact ⟨(p.1, b2) :: rs, ⟨Zew h.1, rfl, c⟩, .cons ⟨rfl, h.2⟩ q⟩
def Zko (trs : List (TE × TE)) : TE := fun σ H Q => ∀ p, H p = none -> Zci trs σ (upd H p (.dK [])) fun ps H2 => H2 p = some (.dK []) /\ ∃ kvs : List (Key × V), ps = kvs.map (fun kv => (kV kv.1, kv.2)) /\ kvs.length <= 15 /\ Q (.ref p) (upd H2 p (.dK (Z51 [] kvs)))
theorem Zck {X : Cx} {pos : Pos} {keys : List (Option Expr)} {values : List Expr} {trs : List (TE × TE)} (h : PPs X pos keys values trs) (hall : keys.all (·.isSome) = true) (hl : keys.length = values.length) (h0 : keys ≠ [])
  (h15 : keys.length <= 15) : PE X (.Dict keys values pos) (Zko trs) := by
 intro pins s σ H Q I q
 have hn := I.hok.fresh (Nat.le_refl s.heap.objs.size)
 have I1 := I.laid (a := s.heap.objs.size) (o := .dK []) (h' := s.heap.push { cls := .type "dict", data := .dict #[] }) (t' := s.toks) (fun _ _ q => Heap.get?_push_of_some _ q) (Nat.le_refl _) (Zex s.heap I.big)
 refine wpAny_Dict_walk (knd := Z1d X.prog X.w) hall hl h0 h15 (thn (h pins _ σ _ _ I1 (q _ hn)) fun ws s2 ⟨ps, H2, I2, rel, e, kvs, ep, lk, q2⟩ => ?_)
 subst ep
 obtain ⟨rs, c, rk⟩ := Z64 (P := X.prog) (w := X.w) rel
 obtain ⟨z, hd, vs0, r0, dd⟩ := Zj8 I2.hok e
 cases r0
 refine ⟨rs, c, dd, fun h' dd' hs => ⟨.ref s.heap.objs.size, _, ?_, rfl, q2⟩⟩
 have hz : (Z51 [] kvs).length <= sizeLine := by
  have h1 := Z3n kvs []
  rw [List.length_nil] at h1
  rw [sizeLine_eq]; omega
 have he : ∃ q, h'.get? s.heap.objs.size = some q := let ⟨q, _, _, hq, _⟩ := dd'; ⟨q, hq⟩
 exact Z8v I2 (by rw [e]; exact True.intro) hs he (Zge hz hd (rk.merge .nil) dd')
section
variable {X : Cx} {pins : List (Addr × Obj)} {σ : St} {H : Hp} {s : Shared} {a : Addr} {y d : V} {u r : Value} {o : Option V} {A : Around} {E : Value -> Shared -> Prop}
end
section
variable {X : Cx} {o e f : Expr} {apos cpos : Pos} {td ty tx : TE}
end
section
variable {X : Cx} {pins : List (Addr × Obj)} {σ : St} {H : Hp} {s : Shared} {a : Addr} {kvs : List (Key × V)} {A : Around} {E : Value -> Shared -> Prop}
end
section
variable {X : Cx} {pins : List (Addr × Obj)} {σ : St} {H : Hp} {s : Shared} {a : Addr} {y : V} {u : Value} {A : Around} {E : Value -> Shared -> Prop}
end
end L2
namespace Att
open PySem PySem.W PySem.Calls PyProof.Rows
theorem Z52 {P : Params} {h : Heap} : ∀ (ns : List Int) (vs : List Value), WellAll P h vs (ns.map WData.int) -> IntsAre vs ns := by
 intro ns
 induction ns with
 | nil =>
  intro vs w
  rw [List.map_nil] at w
  cases w
  exact .nil
 | cons n ns ih =>
  intro vs w
  rw [List.map_cons] at w
  cases w with
  | cons a b =>
   cases a
   exact .cons _ _ (ih _ b)
theorem Zcl {l : OpenLaw} {n : Nat} (hn : l.most = some n) {P : Params} {h : Heap} {args : List WData} {vals : List Value}
  (hpre : l.row.toRowW.claim.pre args = true) (hwl : WellAll P h vals args) :
  ∃ a vs ns, vals = [Value.ref a] /\ args = [WData.list (ns.map WData.int)] /\ h.get? a = some { cls := .type "list", data := .seq vs.toArray } /\ IntsAre vs ns /\ ns.length <= n := by
 have hsh : WShape.hasAll [] args [.list .int] = true := (pre_splitW hpre).1
 have hc : l.pre.holds [] { args := args } = true := (pre_splitW hpre).2
 obtain ⟨d, r, rfl, h1, h2⟩ := hasAllW_cons hsh
 obtain rfl := hasAllW_nil h2
 obtain ⟨xs, rfl, h3⟩ := hasW_list h1
 obtain ⟨ns, rfl⟩ := items_int h3
 have hlen : ns.length <= n := by
  unfold OpenLaw.pre at hc
  have h4 : (WTm.not (.lt (.lit (.int (n : Int))) (.len (.arg 0)))).holds [] { args := [.list (ns.map .int)] } = true := by
   have h4 := (holds_andW hc).1
   rw [hn] at h4
   exact h4
  have h5 := condW_of h4 (w_not (w_lt w_lit (w_len_list (w_arg rfl))))
  rw [List.length_map] at h5
  refine Nat.le_of_not_lt fun q => ?_
  have q' : (n : Int) < ((ns.length : Nat) : Int) := by omega
  first
   | (rw [decide_eq_true q'] at h5; exact absurd h5 (by decide))
   | (simp at h5; omega)
 cases hwl with
 | cons w1 w2 =>
  cases w2
  cases w1 with
  | list ho hall => exact ⟨_, _, ns, rfl, rfl, ho, Z52 ns _ hall, hlen⟩
theorem Zcm (l : OpenLaw) (args : List WData) : l.row.toRowW.claim.post args (.bool true) args = true :=
 postW_of (r := l.row.toRowW) (X := (true == true))
  (show WShape.has [] (.bool true) .bool = true by first | rfl | decide | simp [WShape.has, WShape.arms, WShape.armsAll])
  (show (WTm.eq .res (.lit (.bool true))).value [] { args := args, res := some (.bool true), after := args } = some (.bool (true == true)) from w_eq_bool (w_res rfl) w_lit) rfl
theorem attach_call {l : OpenLaw} {n : Nat} {q : Program} {loose : List Str} {XP : (Str -> Option Value) -> Heap -> Prop} {YP : World -> Heap -> Prop} {d : DefRec}
  (hn : l.most = some n) (hdf : d.params.defaults = [])
  (call : ∀ (w : World) (s₀ s₁ : Shared) (mg mb : Str -> Option Value) (fa : Addr) (o : Obj) (pm cd doc : Value) (a : Addr) (vs : List Value) (ns : List Int),
   Ground q loose [] XP w s₀ mg mb s₁.heap -> YP w s₁.heap →
   s₁.heap.get? fa = some o -> o.data = .func (docDef d.name d.params d.body d.scope pm cd doc) -> s₁.heap.CodeRec cd d.name -> mg d.name = some (.ref fa) →
   s₁.heap.get? a = some { cls := .type "list", data := .seq vs.toArray } -> IntsAre vs ns -> ns.length <= n -> s₁.gens = #[] →
   codeAny (model l.prog w) callerA (.call (.ref fa) ⟨[.ref a], []⟩) (fun r s' => r = .ok (.ret (.bool true)) /\ OldK s₁.heap s'.heap /\ s'.os = s₁.os /\ AllBare s'.gens) s₁) :
  WalkO q loose XP YP l.row.toRowW d [] (fun f vs => PySem.call f vs) := by
 intro w s₀ s₁ mg mb G Y fa o pm cd doc dV kV ho hd hcd hD hmg hg args vals as hpre hlay hrd hwl hlo
 obtain rfl : dV = .none := Dflts.none hD hdf
 obtain rfl : kV = .none := Dflts.noKw hD
 obtain ⟨a, vs, ns, rfl, rfl, hobj, hints, hlen⟩ := Zcl hn hpre hwl
 refine enter_call (codeAny_mono (call w s₀ s₁ mg mb fa o pm cd doc a vs ns G Y ho (fd_plain hd) hcd hmg hobj hints hlen hg) fun r s' hq => ?_)
 obtain ⟨rfl, h2, h3, h4⟩ := hq
 exact ⟨.inl ⟨.bool true, .bool true, [], rfl, fun _ => rfl, .bool true, Zcm l _, fun _ => ⟨List.Pairwise.nil, fun _ hm => (nomatch hm)⟩⟩, h2, h3, h4⟩
section
variable {prog : Program} {w : World} {A : Around} {E : Value -> Shared -> Prop} {s : Shared} {K : Frag}
end
end Att
namespace L2
open PySem PySem.Spec PyProof.Rows
theorem Z7u : ∀ {vs : List Value} {ns : List Int}, IntsAre vs ns -> Vals (ns.map V.int) vs
 | _, _, .nil => .nil
 | _, _, .cons n t h => .cons ⟨t, rfl⟩ (Z7u h)
def Zkp (H : Hp) : Prop := ∀ b, H b = none ∨ ∃ o xs, H b = some (.frz o (.lst xs))
theorem Zey {P : Program} {w : World} {K : PySem.W.Frag} {mg mb : Str -> Option Value} {CX : CXT} {k : Nat} {fa a : Addr} {fd : FuncData} {x : Str} {sp : Sp} {s₁ : Shared} {vs : List Value} {ns : List Int}
  (KX : K.In s₁.heap) (hns : s₁.heap.Ns mainGlobals mg) (hb : s₁.heap.Ns builtinsNs mb) (hbb : ∀ x : Str, x ≠ "__name__" -> mb x = bootBuiltins x) (hlim : s₁.heap.NoLimit) (hg : s₁.gens = #[])
  (ha : s₁.heap.get? a = some { cls := .type "list", data := .seq vs.toArray }) (hi : IntsAre vs ns) (hl : ns.length <= sizeLine) (hr : Room k callerA)
  (F : ∀ base : Heap, K.In base -> base.Ns mainGlobals mg -> FnOk P w K mg base CX k fa fd [x] sp) (hbind : ∀ (s : Shared) (u : Value), BindsTo s fd ⟨[u], []⟩ [(x, u)])
  (hsp : ∀ H : Hp, Zkp H -> SqL K H a (ns.map V.int) -> sp [.ref a] H (fun v _ => v = .bl true) fun _ _ _ => False)
  (hCX : ∀ H e s', CX [] H s₁ (fun _ _ _ => False) e s' -> False) :
  codeAny (model P w) callerA (.call (.ref fa) ⟨[.ref a], []⟩) (fun r s' => r = .ok (.ret (.bool true)) /\ OldK s₁.heap s'.heap /\ s'.os = s₁.os /\ AllBare s'.gens) s₁ := by
 have rv := Z7u hi
 have lenV := hi.length
 have core : ∀ H : Hp, Zkp H -> SqL K H a (ns.map V.int) -> HOk P w H s₁.heap -> (∀ b, H b ≠ none -> b = a) -> (H a ≠ none -> K.lookup a = none) →
   codeAny (model P w) callerA (.call (.ref fa) ⟨[.ref a], []⟩) (fun r s' => r = .ok (.ret (.bool true)) /\ OldK s₁.heap s'.heap /\ s'.os = s₁.os /\ AllBare s'.gens) s₁ := by
  intro H hO hS hok hA hK
  have base_of : ∀ {b : Addr} {o : Obj}, s₁.heap.get? b = some o -> H b = none -> (Zel s₁.heap H).get? b = some o := fun e n => Zem e n
  have noA : ∀ {b : Addr} {o : Obj} {es : Array DictEntry} {ep : Nat}, s₁.heap.get? b = some o -> o.data = .dict es ep -> H b = none := fun {b o es ep} e d => by
   cases q : H b with
   | none => rfl
   | some u =>
    have e' : b = a := hA b (by rw [q]; simp)
    subst e'
    rw [ha] at e; cases e
    have d' : Data.seq vs.toArray _ = Data.dict es ep := d
    cases d'
  have nsK : ∀ {b : Addr} {m : Str -> Option Value}, s₁.heap.Ns b m -> (Zel s₁.heap H).Ns b m := fun {b m} ⟨o, es, ep, e, d, r⟩ => ⟨o, es, ep, base_of e (noA e d), d, r⟩
  have hKb : K.In (Zel s₁.heap H) := fun b o e => base_of (KX b o e) (by
   cases q : H b with
   | none => rfl
   | some u =>
    have e' : b = a := hA b (by rw [q]; simp)
    subst e'
    rw [hK (by rw [q]; simp)] at e; cases e)
  have hM : Mod K mg (Zel s₁.heap H) := ⟨hKb, nsK hns, ⟨mb, nsK hb, hbb⟩, let ⟨mc, h1, h2⟩ := hlim; ⟨mc, nsK h1, h2⟩⟩
  have e0 : Env0 P w K mg (Zel s₁.heap H) callerA [] s₁ H := ⟨rfl, hM, fun b o e => Zgx e, Nat.le_of_eq (Zbv _ _), trivial, fun b hb => absurd (show b ∈ ([] : List Addr) from hb) (by simp), hok, .of_eq hg⟩
  refine codeAny_mono ((F _ hKb (nsK hns)).run callerA [] s₁ H ⟨[.ref a], []⟩ [.ref a] [.ref a] _ _ hr e0 (hbind s₁ (.ref a)) (.cons rfl .nil) (hsp H hO hS)) fun r s' h => ?_
  cases r with
  | error e => exact (hCX H e s' h).elim
  | ok fl =>
   cases fl with
   | next => exact False.elim h
   | brk => exact False.elim h
   | cont => exact False.elim h
   | ret u =>
    obtain ⟨v, H', os, bare, un, hok', r', q⟩ := h
    have q' : v = .bl true := q
    subst q'
    obtain rfl : u = Value.bool true := r'
    refine ⟨rfl, OldK.of_keep fun b o e => ?_, os, bare⟩
    cases q : H b with
    | none => exact un.keep b o e q (by intro z; exact absurd (show b ∈ ([] : List Addr) from z) (by simp)) (by simp)
    | some u =>
     rcases hO b with z | ⟨ob, xs, z⟩
     ·rw [q] at z; cases z
     ·have z2 := un.frzs b ob _ z
      obtain ⟨e1, _⟩ := hok b _ z
      obtain ⟨e2, _⟩ := hok' b _ z2
      rw [e] at e1; cases e1
      exact e2
 cases hk : K.lookup a with
 | some o =>
  have e := KX a o hk
  rw [ha] at e
  cases e
  refine core (fun _ => none) (fun _ => .inl rfl) (.inr ⟨_, vs.toArray, _, hk, rfl, rfl, rfl, by rw [List.size_toArray, lenV]; exact hl, by simpa using rv⟩) (fun b u z => by have z' : (none : Option HO) = some u := z; cases z') (fun b z => absurd rfl z) fun z => absurd rfl z
 | none =>
  refine core (fun b => if b = a then some (.frz { cls := .type "list", data := .seq vs.toArray } (.lst (ns.map V.int))) else none) (fun b => ?_) (.inl (.inr ⟨{ cls := .type "list", data := .seq vs.toArray }, if_pos rfl⟩)) (fun b u z => ?_) (fun b z => ?_) fun _ => hk
  ·by_cases hb : b = a
   ·exact .inr ⟨_, _, if_pos hb⟩
   ·exact .inl (if_neg hb)
  ·by_cases hb : b = a
   ·have z' := (if_pos hb).symm.trans z
    cases z'
    subst hb
    exact ⟨ha, by rw [List.length_map]; exact hl, vs, _, rv, ha⟩
   ·have z' := (if_neg hb).symm.trans z
    cases z'
  ·by_cases hb : b = a
   ·exact hb
   ·exact absurd (if_neg hb) z
theorem walk_of {l : PySem.W.OpenLaw} {n k : Nat} {q : Program} {loose : List Str} {XP : (Str -> Option Value) -> Heap -> Prop} {YP : World -> Heap -> Prop} {d : DefRec} {K : Params -> PySem.W.Frag} {CX : World -> CXT} {sp : World -> Sp} {x : Str}
  (hn : l.most = some n) (hn2 : n <= sizeLine) (hdf : d.params.defaults = []) (hr : Room k callerA)
  (hY : ∀ (w : World) (h : Heap), YP w h -> (K w.params).In h)
  (F : ∀ (w : World) (mg : Str -> Option Value) (fa : Addr) (h : Heap), (K w.params).In h -> h.Ns mainGlobals mg -> mg d.name = some (.ref fa) →
   ∃ fd : FuncData, (∀ (s : Shared) (u : Value), BindsTo s fd ⟨[u], []⟩ [(x, u)]) ∧
    ∀ base : Heap, (K w.params).In base -> base.Ns mainGlobals mg -> FnOk l.prog w (K w.params) mg base (CX w) k fa fd [x] (sp w))
  (hsp : ∀ (w : World) (H : Hp) (a : Addr) (ns : List Int), ns.length <= n -> Zkp H -> SqL (K w.params) H a (ns.map V.int) -> sp w [.ref a] H (fun v _ => v = .bl true) fun _ _ _ => False)
  (hCX : ∀ (w : World) (H : Hp) (s : Shared) (e : Value) (s' : Shared), CX w [] H s (fun _ _ _ => False) e s' -> False) :
  PySem.W.WalkO q loose XP YP l.row.toRowW d [] (fun f vs => PySem.call f vs) := by
 refine Att.attach_call hn hdf fun w s₀ s₁ mg mb fa o pm cd doc a vs ns G Y ho hd hcd hmg hobj hints hlen hg => ?_
 have KX := hY w _ Y
 obtain ⟨fd, hb, hF⟩ := F w mg fa _ KX G.T.g hmg
 exact Zey KX G.T.g G.T.b G.T.builtins G.T.nolimit hg hobj hints (Nat.le_trans hlen hn2) hr hF hb (fun H hO hS => hsp w H a ns hlen hO hS) fun H e s' => hCX w H s₁ e s'
abbrev CX0 : CXT := fun _ _ _ _ _ _ => False
abbrev E0 : XK := fun _ _ _ => False
theorem Z0n {X : Cx} : Z9k CX0 X E0 := fun _ _ _ _ _ _ _ h => h.elim
structure Fun (K : PySem.W.Frag) (x qual : Str) (st : Stmt) (f : Addr) (fd : FuncData) : Prop where
 ex : ∃ (oc : Value) (od : Option Addr) (kV doc pm : Value) (an : Option Addr) (cdv ct : Value) (osl : Array (Option Value)),
  fd = PySem.W.fnOf x qual (Z0g st) (Z0e st) (Z03 st) .none kV doc pm an cdv ct /\ K.lookup f = some ⟨oc, od, .func fd, osl⟩ /\ PySem.W.codeIn K cdv qual = true
 kp : PySem.W.keepIn K (.ref f) = true
section
variable {P : Program} {w : World} {K : PySem.W.Frag} {mg : Str -> Option Value} {base : Heap}
theorem Fun.ok {x qual : Str} {st : Stmt} {f : Addr} {fd : FuncData} {N ps : List Str} {k : Nat} {sp : Sp} (F : Fun K x qual st f fd) (S : FnScope N ps (Z03 st)) (len : ∀ vs H Q E, sp vs H Q E -> vs.length = ps.length)
  (hbody : ∀ (cdv : Value) (A : Around) (outer : List Env) (s : Shared) (H : Hp) (vs : List V) (Q : VK) (E : XK), Room k (A.deeper (envOfC qual (Z03 st) s.heap.objs.size f cdv)) -> sp vs H Q E →
   ∃ t, PSs (Zei CX0 P w K mg base N qual (Z03 st) f cdv A outer s H E).nox (Z0e st) t /\ t { nx := fun _ H' => Q .non H', rt := Q } (start N vs) H) : FnOk P w K mg base CX0 (k + 1) f fd ps sp := by
 obtain ⟨oc, od, kV, doc, pm, an, cdv, ct, osl, rfl, lk, hcd⟩ := F.ex
 refine Zh2 lk hcd S len fun A outer s H vs Q E hr hsp => ?_
 obtain ⟨t, h, q⟩ := hbody cdv A outer s H vs Q E hr hsp
 exact ⟨t, h.nox, q⟩
theorem Fun.binds {x qual : Str} {st : Stmt} {f : Addr} {fd : FuncData} {ps : List Str} (F : Fun K x qual st f fd)
  (h : ∀ (kV doc pm : Value) (an : Option Addr) (cdv ct : Value) (us : List Value), us.length = ps.length -> bindArgs (PySem.W.fnOf x qual (Z0g st) (Z0e st) (Z03 st) .none kV doc pm an cdv ct) ⟨us, []⟩ = pure (ps.zip us)) : Binds K fd ps [] := by
 obtain ⟨oc, od, kV, doc, pm, an, cdv, ct, osl, rfl, lk, hcd⟩ := F.ex
 exact .all (h kV doc pm an cdv ct)
theorem Z12 {x qual : Str} {st : Stmt} {f : Addr} {oc : Value} {od an : Option Addr} {osl : Array (Option Value)} {kV doc pm cdv ct : Value} (l : K.lookup f = some ⟨oc, od, .func (PySem.W.fnOf x qual (Z0g st) (Z0e st) (Z03 st) .none kV doc pm an cdv ct), osl⟩)
  (c : PySem.W.codeIn K cdv qual = true) (k : PySem.W.keepIn K (.ref f) = true) : Fun K x qual st f (PySem.W.fnOf x qual (Z0g st) (Z0e st) (Z03 st) .none kV doc pm an cdv ct) := ⟨⟨oc, od, kV, doc, pm, an, cdv, ct, osl, rfl, l, c⟩, k⟩
end
theorem Zkq {A : Around} {k : Nat} (hr : Room k A) : A.units + 1 < cLine := Nat.lt_of_le_of_lt (Nat.add_le_add_left (by decide : 1 <= 64) _) hr.units
section
variable {X : Cx}
theorem pv (i : Nat) {x : Str} {pos : Pos} (hN : X.N[i]? = some x := by rfl) (hv : Vis X.env.scope x := by first | exact Or.inl rfl | exact Or.inr (Or.inl rfl) | exact Or.inr (Or.inr rfl)) (hd : (x == ("__debug__" : Str)) = false := by decide)
  (hcd : (x == ("__classdict__" : Str)) = false := by decide) : PE X (.Name x pos) (Zl9 i) := Ziw hN hv hd hcd
end
theorem Z46 {A B : Prop} (h : B) : if false = true then A else B := by
 rw [if_neg Bool.false_ne_true]
 exact h
theorem Zej {A B : Prop} (h : A) : if true = true then A else B := by
 rw [if_pos rfl]
 exact h
theorem Z1r {c A B : Prop} [Decidable c] (h1 : c -> A) (h2 : ¬ c -> B) : if c then A else B := by
 by_cases h : c
 ·rw [if_pos h]
  exact h1 h
 ·rw [if_neg h]
  exact h2 h
def Same (H H' : Hp) : Prop := ∀ b o, H b = some o -> H' b = some o
theorem Same.refl (H : Hp) : Same H H := fun _ _ h => h
theorem Same.trans {H H1 H2 : Hp} (a : Same H H1) (b : Same H1 H2) : Same H H2 := fun c o h => b c o (a c o h)
theorem Same.seq {K : PySem.W.Frag} {H H' : Hp} {a : Addr} {xs : List V} (e : Same H H') (h : SqL K H a xs) : SqL K H' a xs := by
 rcases h with (h | ⟨o, h⟩) | h
 ·exact .inl (.inl (e _ _ h))
 ·exact .inl (.inr ⟨o, e _ _ h⟩)
 ·exact .inr h
section
variable {X : Cx}
end
section
variable {κ : Type} [DecidableEq κ]
end
section
variable {prog : Program} {w : World} {A : Around} {E : Value -> Shared -> Prop} {R : Result -> Shared -> Prop} {s : Shared}
theorem Z7v {elt target iter : Expr} {ifs : List Expr} {scope : Scope} {pos : Pos} {it acc : Value} {env : Env} (I : Nat -> Shared -> Prop)
  (turn : ∀ n s, I n s -> wpAny (model prog w) A (pyNext it) (fun r s1 => match r with
   | none => R (.ok .next) s1
   | some v => wpAny (model prog w) A (letOwnedTupleGo target it v) (fun _ s1' => wpAny (model prog w) A (assign target env v) (fun _ s2 =>
     wpAny (model prog w) A (forIn ifs true fun c r => if r = true then do let ok ← isTrue c env (eval c env); pure (ForInStep.yield ok) else pure (ForInStep.yield r)) (fun ok s3 =>
      if ok = true then wpAny (model prog w) A (eval elt env) (fun x s4 =>
       wpAny (model prog w) A (call (.builtin "list.append") [acc, x]) (fun _ s5 => ∃ m, m < n /\ I m s5) (fun _ _ => False) s4) (fun _ _ => False) s3
      else ∃ m, m < n /\ I m s3) (fun _ _ => False) s2) (fun _ _ => False) s1') (fun _ _ => False) s1) (fun _ _ => False) s)
  (n : Nat) (h : I n s) :
  codeAny (model prog w) A (.compLoop (.ListComp elt [⟨target, iter, ifs, 0⟩] scope pos) 0 it acc env) R s := by
 refine codeAny_loop rfl I (fun n s hI => ?_) n h
 show wpAny _ A ((compTurn (.ListComp elt [⟨target, iter, ifs, 0⟩] scope pos) 0 it acc env).onRaise (fun x => do noteFrame x env; theTreesLotGoes x)) _ _ s
 refine wpAny_noted ?_
 rw [compTurn_list]
 refine wpAny_bind (wpAny_standAt (wpAny_bind (wpAny_mono (turn n s hI) (fun r s₁ h₁ => ?_) fun _ _ h' => h'.elim)))
 cases r with
 | none => exact wpAny_pure h₁
 | some v =>
  refine wpAny_bind (wpAny_mono h₁ (fun _ s1' h1' => ?_) fun _ _ h' => h'.elim)
  refine wpAny_bind (wpAny_mono h1' (fun _ s₂ h₂ => wpAny_bind (wpAny_mono h₂ (fun ok s₃ h₃ => ?_) fun _ _ h' => h'.elim)) fun _ _ h' => h'.elim)
  cases ok with
  | false => exact wpAny_pure ⟨rfl, h₃⟩
  | true =>
   exact wpAny_bind (wpAny_bind (wpAny_mono h₃ (fun x s₄ h₄ => wpAny_bind (wpAny_mono h₄ (fun _ s₅ h₅ => wpAny_pure (wpAny_pure ⟨rfl, h₅⟩)) fun _ _ h' => h'.elim)) fun _ _ h' => h'.elim))
end
theorem Z47 {env : Env} : ∀ (names : List (Str × NameKind)) (cs : List (Str × Addr)), (∀ n, (n, NameKind.free) ∈ names -> ∃ c, env.cells.lookup n = some c) →
  ∃ cl, (forIn names cs fun (x : Str × NameKind) (r : List (Str × Addr)) => match x with
   | (name, kind) => if (kind == NameKind.free) = true then do let c ← cellOf env name; pure (ForInStep.yield ((name, c) :: r)) else pure (ForInStep.yield r) : Sem (List (Str × Addr))) = pure cl ∧
   (∀ p ∈ cl, p ∈ cs ∨ env.cells.lookup p.1 = some p.2) /\ (∀ p ∈ cs, p ∈ cl) /\ (∀ n, (n, NameKind.free) ∈ names -> ∃ c, (n, c) ∈ cl)
 | [], cs, _ => ⟨cs, by simp, fun p hp => .inl hp, fun p hp => hp, fun n hn => by cases hn⟩
 | (n, k) :: r, cs, h => by
  by_cases hk : (k == NameKind.free) = true
  ·have hk' : k = NameKind.free := eq_of_beq hk
   subst hk'
   obtain ⟨c, hc⟩ := h n (List.mem_cons_self)
   obtain ⟨cl, e, h1, h2, h3⟩ := Z47 r ((n, c) :: cs) fun m hm => h m (List.mem_cons_of_mem _ hm)
   refine ⟨cl, ?_, fun p hp => ?_, fun p hp => h2 p (List.mem_cons_of_mem _ hp), fun m hm => ?_⟩
   ·rw [List.forIn_cons]
    simp only [hk, if_true]
    unfold cellOf
    rw [hc]
    exact e
   ·rcases h1 p hp with q | q
    ·rcases List.mem_cons.mp q with q | q
     ·subst q; exact .inr hc
     ·exact .inl q
    ·exact .inr q
   ·rcases List.mem_cons.mp hm with q | q
    ·cases q; exact ⟨c, h2 _ List.mem_cons_self⟩
    ·exact h3 m q
  ·obtain ⟨cl, e, h1, h2, h3⟩ := Z47 r cs fun m hm => h m (List.mem_cons_of_mem _ hm)
   refine ⟨cl, ?_, h1, h2, fun m hm => ?_⟩
   ·rw [List.forIn_cons]
    simp only [hk]
    exact e
   ·rcases List.mem_cons.mp hm with q | q
    ·cases q; exact absurd rfl hk
    ·exact h3 m q
theorem Z65 {κ : Type} [BEq κ] [LawfulBEq κ] {β : Type} : ∀ {l : List (κ × β)} {x : κ} {c : β}, l.lookup x = some c -> (x, c) ∈ l
 | [], _, _, h => by simp at h
 | (n, k) :: r, x, c, h => by
  cases hx : x == n with
  | true =>
   simp only [List.lookup_cons, hx] at h
   cases h
   have e := eq_of_beq hx
   subst e
   exact List.mem_cons_self
  | false =>
   simp only [List.lookup_cons, hx] at h
   exact List.mem_cons_of_mem _ (Z65 h)
theorem Z66 {κ : Type} [BEq κ] [LawfulBEq κ] {β : Type} : ∀ {l : List (κ × β)} {x : κ} {c : β}, (x, c) ∈ l -> ∃ c', l.lookup x = some c'
 | (n, k) :: r, x, c, h => by
  cases hx : x == n with
  | true => exact ⟨k, by simp only [List.lookup_cons, hx]⟩
  | false =>
   rcases List.mem_cons.mp h with q | q
   ·cases q; simp at hx
   ·obtain ⟨c', e⟩ := Z66 q
    exact ⟨c', by simp only [List.lookup_cons, hx]; exact e⟩
theorem Z48 {scope : Scope} {env : Env} (h : ∀ n, (n, NameKind.free) ∈ scope.names -> ∃ c, env.cells.lookup n = some c) :
  ∃ cl, closureFor scope env = pure cl /\ (∀ x c, cl.lookup x = some c -> env.cells.lookup x = some c) /\ ∀ n, (n, NameKind.free) ∈ scope.names -> ∃ c, cl.lookup n = some c := by
 obtain ⟨cl, e, h1, _, h3⟩ := Z47 scope.names [] h
 refine ⟨cl, ?_, fun x c hx => ?_, fun n hn => ?_⟩
 ·have e2 : closureFor scope env = ((forIn scope.names ([] : List (Str × Addr)) fun (x : Str × NameKind) (r : List (Str × Addr)) => match x with
     | (name, kind) => if (kind == NameKind.free) = true then do let c ← cellOf env name; pure (ForInStep.yield ((name, c) :: r)) else pure (ForInStep.yield r) : Sem (List (Str × Addr))) >>= fun r => pure r) := rfl
  rw [e2, e]
  rfl
 ·rcases h1 _ (Z65 hx) with q | q
  ·cases q
  ·exact q
 ·obtain ⟨c, hc⟩ := h3 n hn
  exact Z66 hc
def Z11 (X : Cx) (N' : List Str) (scope : Scope) (cl : List (Str × Addr)) (C : Addr) (ex : List Addr) (s0 : Shared) (H0 : Hp) : Cx :=
 { X with N := N', s₀ := s0, H₀ := H0, env := compEnvC scope cl C X.env, outer := X.stack, stack := X.stack, ex := ex, fn := fun _ => false, pn := [], xe := fun _ _ => False }
section
variable {X : Cx} {pins : List (Addr × Obj)} {σ : St} {H : Hp} {s : Shared}
theorem Inv.track {a : Addr} {o : HO} (I : Inv X pins σ H s) (f : Z3i X pins H a) (new : ObjOk X.prog X.w (upd H a o) s.heap a o) : Inv X pins σ (upd H a o) s := by
 obtain ⟨f0, f1, f2, f3, f4, f5⟩ := f
 have ne : ∀ b u, H b = some u -> b ≠ a := fun b u e => Z0h e f0
 refine ⟨I.ok, I.os, I.bare, ⟨I.base.keep, I.base.slot, fun b ob e n hx => ?_, I.base.there, fun b xs e => ?_, fun b ob u e => ?_, fun b ps e => ?_⟩, I.loc, I.cell, ?_, fun x c e => ?_, fun p hp => ?_, fun b u e => ?_, I.len⟩
 ·have hb : b ≠ a := by
   rintro rfl
   rcases f3 with z | z
   ·exact hx z
   ·exact absurd (Nat.lt_of_lt_of_le (Heap.lt_size e) z) (Nat.lt_irrefl _)
  rw [Z0c hb]
  exact I.base.free b ob e n hx
 ·have q := I.base.tups b xs e
  rw [Z0c (ne _ _ q)]; exact q
 ·have q := I.base.frzs b ob u e
  rw [Z0c (ne _ _ q)]; exact q
 ·obtain ⟨more, q⟩ := I.base.tbls b ps e
  exact ⟨more, by rw [Z0c (ne _ _ q)]; exact q⟩
 ·rw [Z0c (Ne.symm f1)]; exact I.free
 ·rw [Z0c (f4 x c e)]; exact I.freeC x c e
 ·obtain ⟨e, n, ne', nf, d⟩ := I.pin p hp
  exact ⟨e, by rw [Z0c (f5 p hp)]; exact n, ne', nf, d⟩
 ·by_cases hb : b = a
  ·subst hb
   rw [Z01] at e; cases e
   exact new
  ·rw [Z0c hb] at e
   exact (I.hok b u e).stay (fun c v _ q => q) (fun c q => by rw [Z0c (ne _ _ q)]; exact q) fun c xs q => by rw [Z0c (ne _ _ q)]; exact q
end
def PTs (X : Cx) (ifs : List Expr) (t : TT) : Prop :=
 ∀ (pins : List (Addr × Obj)) (s : Shared) (σ : St) (H : Hp) (Q : Bool -> Hp -> Prop), Inv X pins σ H s -> t σ H Q →
  wpAny (model X.prog X.w) X.A (forIn ifs true fun c r => if r = true then do let ok ← isTrue c X.env (eval c X.env); pure (ForInStep.yield ok) else pure (ForInStep.yield r)) (TP X pins σ Q) X.xe s
def tNoTest : TT := fun _ H Q => Q true H
theorem Z3b {X : Cx} : PTs X [] tNoTest := fun _ _ _ H _ I h => wpAny_tests_nil ⟨H, I, h⟩
theorem Z49 {X : Cx} {c : Expr} {t : TT} (h : PT X c t) : PTs X [c] t := fun pins s σ H Q I q => wpAny_tests_one (h pins s σ H Q I q)
def Zcn (src : List (Option Nat)) (σ : St) : St := src.map fun o => match o with | some j => (σ[j]?).getD none | none => none
def Zj9 (src : List (Option Nat)) (wi : TI) (g : TG) (tt : TT) (te : TE) : TE := fun σ H Q => wi σ H fun J H1 => ∃ W : Nat -> Nat -> List V -> St -> Hp -> Prop, (∃ m, W 0 m [] (Zcn src σ) H1) /\ ∀ i m ys σc H, W i m ys σc H →
 (J.stop i H /\ ∀ l, H l = none -> Q (.ref l) (upd H l (.lst ys))) ∨
 (J.go i H /\ ys.length < sizeLine /\ ∀ x H', J.yld i H x H' -> g x σc H' fun σ2 H2 => tt σ2 H2 fun b H3 =>
  if b = true then te σ2 H3 fun v H4 => ∃ m', m' < m /\ W (i + 1) m' (ys ++ [v]) σ2 H4 else ∃ m', m' < m /\ W (i + 1) m' ys σ2 H3)
section
variable {X : Cx} {elt tg iter : Expr} {ifs : List Expr} {scope : Scope} {pos : Pos} {N' : List Str} {src : List (Option Nat)} {wi : TI} {g : TG} {tt : TT} {te : TE}
theorem Z2q {env : Env} : ∀ {names : List (Str × NameKind)} {x : Str} {k : NameKind}, (names.map fun (n, k) => if (k == NameKind.free && env.scope.kind == .function && env.kindOf n == some .cell) then (n, NameKind.cell) else (n, k)).lookup x = some k →
  (k = .cell ∨ k = .free) -> (∀ y ∈ names, y.2 ≠ .cell) -> (x, NameKind.free) ∈ names
 | [], _, _, h, _, _ => by simp at h
 | (n, k') :: r, x, k, h, hk, hc => by
  have ih := @Z2q env r x k
  have h' : List.lookup x ((if (k' == NameKind.free && env.scope.kind == .function && env.kindOf n == some .cell) = true then (n, NameKind.cell) else (n, k')) :: (r.map fun (n, k) => if (k == NameKind.free && env.scope.kind == .function && env.kindOf n == some .cell) then (n, NameKind.cell) else (n, k))) = some k := h
  by_cases hx : x = n
  ·subst hx
   by_cases hf : k' = .free
   ·subst hf; exact List.mem_cons_self
   ·have e : (k' == NameKind.free) = false := by simpa using hf
    rw [e] at h'
    simp only [Bool.false_and, Bool.false_eq_true, if_false, List.lookup_cons, beq_self_eq_true] at h'
    have e' : k' = k := Option.some.inj h'
    rcases hk with q | q
    ·exact absurd (e'.trans q) (hc (x, k') List.mem_cons_self)
    ·exact absurd (e'.trans q) hf
  ·have e : (x == n) = false := by simpa using hx
   have h2 : (r.map fun (n, k) => if (k == NameKind.free && env.scope.kind == .function && env.kindOf n == some .cell) then (n, NameKind.cell) else (n, k)).lookup x = some k := by
    by_cases hc2 : (k' == NameKind.free && env.scope.kind == .function && env.kindOf n == some .cell) = true
    ·rw [if_pos hc2] at h'; simp only [List.lookup_cons, e] at h'; exact h'
    ·rw [if_neg hc2] at h'; simp only [List.lookup_cons, e] at h'; exact h'
   exact List.mem_cons_of_mem _ (ih h2 hk fun y hy => hc y (List.mem_cons_of_mem _ hy))
structure CompScope (X : Cx) (scope : Scope) (N' : List Str) (src : List (Option Nat)) : Prop where
 kind : scope.kind = .function
 cell : ∀ y ∈ scope.names, y.2 ≠ .cell
 names : ∀ x ∈ scope.names, x.2 = .local -> scope.names.lookup x.1 = some .local
 fr : ∀ n, (n, NameKind.free) ∈ scope.names -> X.env.kindOf n = some .cell ∨ X.env.kindOf n = some .free
 excl : ∀ n, (n, NameKind.free) ∈ scope.names -> ¬ scope.names.lookup n = some .local
 len : N'.length = src.length
 src : ∀ (i j : Nat), src[i]? = some (some j) -> ∃ x : Str, N'[i]? = some x /\ X.N[j]? = some x /\ (x, NameKind.free) ∈ scope.names
theorem Z4a {cl : List (Str × Addr)} {C D : Addr} {fp : List Addr} {pins : List (Addr × Obj)} {σ : St} {H : Hp} {s3 : Shared} {h1 : Heap} {tk : Nat} (S : CompScope X scope N' src) (I3 : Inv X pins σ H s3)
  (hcl1 : ∀ x c, cl.lookup x = some c -> X.env.cells.lookup x = some c) (hcl2 : ∀ n, (n, NameKind.free) ∈ scope.names -> ∃ c, cl.lookup n = some c) (hC : C = s3.heap.objs.size)
  (hf : ∀ b ∈ D :: fp, Z3i X pins H b) (hlt : ∀ b ∈ D :: fp, b < s3.heap.objs.size) (hns : h1.Ns C (fun _ => none)) (hk : ∀ b o, s3.heap.get? b = some o -> h1.get? b = some o) :
  Inv (Z11 X N' scope cl C (D :: fp) s3 H) [] (Zcn src σ) H { s3 with heap := h1, toks := tk } := by
 have neC : ∀ b o, s3.heap.get? b = some o -> b ≠ C := fun b o e => by rw [hC]; exact Nat.ne_of_lt (Heap.lt_size e)
 have HC : H C = none := I3.hok.fresh (Nat.le_of_eq hC.symm)
 have ok : (Z11 X N' scope cl C (D :: fp) s3 H).Ok := by
  refine ⟨I3.ok.mod, S.kind, I3.ok.glob, I3.ok.blt, Nat.le_of_eq hC.symm, fun x y c e1 e2 => I3.ok.inj x y c (hcl1 x c e1) (hcl1 y c e2), fun x hx => ?_, fun x c z => absurd z Bool.false_ne_true, I3.ok.hd, I3.ok.frames, .inl rfl, fun b hb => ⟨?_, fun x c e => ?_⟩, I3.bs, Nat.le_trans I3.ok.bsz I3.sz, fun b o e hb => ?_, fun b hb => ?_, I3.stack, I3.stkFree⟩
  ·refine hcl2 x ?_
   rcases hx with z | z
   ·exact Z2q (env := X.env) (show ((scope.names.map _).lookup x) = some .cell from z) (.inl rfl) S.cell
   ·exact Z2q (env := X.env) (show ((scope.names.map _).lookup x) = some .free from z) (.inr rfl) S.cell
  ·show b ≠ C
   rw [hC]; exact Nat.ne_of_lt (hlt b hb)
  ·exact (hf b hb).2.2.2.2.1 x c (hcl1 x c e)
  ·rcases (hf b hb).2.2.2.1 with z | z
   ·exact I3.ok.noex b o e z
   ·exact absurd (Nat.lt_of_lt_of_le (Nat.lt_of_lt_of_le (Heap.lt_size e) I3.ok.bsz) z) (Nat.lt_irrefl _)
  ·intro z
   have z' : b ∈ frs X.stack := z
   rcases List.mem_cons.mp (I3.stkSub b z') with q | q
   ·exact (hf b hb).2.1 q
   ·exact (hf b hb).2.2.1 q
 refine ⟨ok, rfl, I3.bare, Un.kept hk, ⟨_, hns, fun i x v e1 e2 e3 => ?_⟩, fun x c e => ?_, HC, fun x c e => I3.freeC x c (hcl1 x c e), fun p hp => absurd (show p ∈ ([] : List (Addr × Obj)) from hp) (by simp), I3.hok.kept hk, ?_⟩
 ·have e2' : (src.map fun o => match o with | some j => (σ[j]?).getD none | none => none)[i]? = some (some v) := e2
  rw [List.getElem?_map] at e2'
  cases q : src[i]? with
  | none => rw [q] at e2'; cases e2'
  | some o =>
   rw [q] at e2'
   cases o with
   | none => cases e2'
   | some j =>
    obtain ⟨x', hx1, hx2, hx3⟩ := S.src i j q
    have ex : x' = x := Option.some.inj (hx1.symm.trans e1)
    subst ex
    have ev : σ[j]? = some (some v) := by
     cases q2 : σ[j]? with
     | none => simp [q2] at e2'
     | some o => simp [q2] at e2'; rw [e2']
    obtain ⟨m, hn, hl⟩ := I3.loc
    have hkind := S.fr x' hx3
    obtain ⟨u, r, l⟩ := hl j x' v hx2 ev (by
     rcases hkind with z | z
     ·exact .inr (.inl z)
     ·exact .inr (.inr z))
    refine ⟨u, r, .inr ⟨?_, ?_⟩⟩
    ·rcases e3 with z | z | z
     ·exfalso
      have z' : (scope.names.map fun (n, k) => if (k == NameKind.free && X.env.scope.kind == .function && X.env.kindOf n == some .cell) then (n, NameKind.cell) else (n, k)).lookup x' = some .local := z
      rcases l with ⟨k, _⟩ | ⟨_, c, hc, hcell⟩
      ·rcases hkind with y | y <;> (rw [y] at k; cases k)
      ·exact (show False by
        have := S.names
        have hm := hx3
        clear e2 e2'
        have key : ∀ (names : List (Str × NameKind)), (names.map fun (n, k) => if (k == NameKind.free && X.env.scope.kind == .function && X.env.kindOf n == some .cell) then (n, NameKind.cell) else (n, k)).lookup x' = some .local →
          names.lookup x' = some .local := by
         intro names
         induction names with
         | nil => intro h; simp at h
         | cons y r ih =>
          obtain ⟨n, k⟩ := y
          intro h
          have h' : List.lookup x' ((if (k == NameKind.free && X.env.scope.kind == .function && X.env.kindOf n == some .cell) = true then (n, NameKind.cell) else (n, k)) :: (r.map fun (n, k) => if (k == NameKind.free && X.env.scope.kind == .function && X.env.kindOf n == some .cell) then (n, NameKind.cell) else (n, k))) = some .local := h
          by_cases hx : (x' == n) = true
          ·by_cases hc2 : (k == NameKind.free && X.env.scope.kind == .function && X.env.kindOf n == some .cell) = true
           ·rw [if_pos hc2] at h'; simp only [List.lookup_cons, hx] at h'; cases h'
           ·rw [if_neg hc2] at h'; simp only [List.lookup_cons, hx] at h' ⊢; exact h'
          ·have hx' : (x' == n) = false := by simpa using hx
           by_cases hc2 : (k == NameKind.free && X.env.scope.kind == .function && X.env.kindOf n == some .cell) = true
           ·rw [if_pos hc2] at h'; simp only [List.lookup_cons, hx'] at h' ⊢; exact ih h'
           ·rw [if_neg hc2] at h'; simp only [List.lookup_cons, hx'] at h' ⊢; exact ih h'
        have z2 := key _ z'
        obtain ⟨c2, hc2⟩ := hcl2 x' hx3
        exact S.excl x' hx3 z2)
     ·exact .inl z
     ·exact .inr z
    ·rcases l with ⟨k, _⟩ | ⟨_, c, hc, hcell⟩
     ·rcases hkind with y | y <;> (rw [y] at k; cases k)
     ·obtain ⟨c2, hc2⟩ := hcl2 x' hx3
      have e := hcl1 x' c2 hc2
      rw [hc] at e; cases e
      obtain ⟨oc, ho, hd⟩ := hcell
      exact ⟨c, hc2, oc, hk c oc ho, hd⟩
 ·obtain ⟨v, oc, ho, hd⟩ := I3.cell x c (hcl1 x c e)
  exact ⟨v, oc, hk c oc ho, hd⟩
 ·show (src.map _).length = N'.length
  rw [List.length_map, S.len]
theorem Z67 {cl : List (Str × Addr)} {C D : Addr} {fp : List Addr} {pins pinsY : List (Addr × Obj)} {σ σc : St} {H H' : Hp} {s3 s4 : Shared} {h' : Heap} {ys : List V} {us : List Value} (I3 : Inv X pins σ H s3) (hC : C = s3.heap.objs.size)
  (hf : ∀ b ∈ D :: fp, Z3i X pins H b) (hlt : ∀ b ∈ D :: fp, b < s3.heap.objs.size) (IY : Inv (Z11 X N' scope cl C (D :: fp) s3 H) pinsY σc H' s4) (hD : H' D = none) (pl : s4.heap.PlainList D us.toArray) (rv : Vals ys us) (hz : ys.length <= sizeLine)
  (hs : Heap.SameBut C s4.heap h') : Inv X pins σ (upd H' D (.lst ys)) { s4 with heap := h' } := by
 have J : Inv X pins σ H' s4 := I3.call' IY.os IY.base IY.hok IY.bare (ch := D :: fp) fun b hb => ⟨(hf b hb).2.2.2.1, (hf b hb).2.1, (hf b hb).2.2.2.2.1, (hf b hb).2.2.2.2.2⟩
 have fC : Z3i X pins H' C := I3.fpOk (Nat.le_of_eq hC.symm) IY.free
 have J2 : Inv X pins σ H' { s4 with heap := h' } := J.turned (t' := s4.toks) (fun b o hb e => (hs.2 b hb).trans e) fC.1 fC.2.1 fC.2.2.2.1 fC.2.2.2.2.1 fC.2.2.2.2.2
 have hDC : D ≠ C := by rw [hC]; exact Nat.ne_of_lt (hlt D List.mem_cons_self)
 obtain ⟨n, e⟩ := pl
 have fD := hf D List.mem_cons_self
 exact J2.track ⟨hD, fD.2⟩ ⟨hz, us, n, rv, (hs.2 D hDC).trans e⟩
theorem Z9o {cl : List (Str × Addr)} {C D it : Addr} {fp : List Addr} {tn : Nat -> Heap -> Prop} {J : It} {pins : List (Addr × Obj)} {σ σ0 : St} {H : Hp} {s3 s4 : Shared} {R : Result -> Shared -> Prop} {W : Nat -> Nat -> List V -> St -> Hp -> Prop} {m0 : Nat} {Q : List V -> Hp -> Prop}
  (hc : X.calm = true) (T : Turn X.prog X.w X.K tg J fp it tn) (I3 : Inv X pins σ H s3) (hC : C = s3.heap.objs.size)
  (hf : ∀ b ∈ D :: fp, Z3i X pins H b) (hlt : ∀ b ∈ D :: fp, b < s3.heap.objs.size) (hDf : D ∉ fp) (IY : Inv (Z11 X N' scope cl C (D :: fp) s3 H) [] σ0 H s4) (st : tn 0 s4.heap) (pl : s4.heap.PlainList D #[])
  (hg : PG (Z11 X N' scope cl C (D :: fp) s3 H) tg g) (ht : PTs (Z11 X N' scope cl C (D :: fp) s3 H) ifs tt) (he : PE (Z11 X N' scope cl C (D :: fp) s3 H) elt te) (w0 : W 0 m0 [] σ0 H)
  (turn : ∀ i m ys σc H, W i m ys σc H -> (J.stop i H /\ Q ys H) ∨ (J.go i H /\ ys.length < sizeLine /\ ∀ x H', J.yld i H x H' -> g x σc H' fun σ2 H2 => tt σ2 H2 fun b H3 =>
   if b = true then te σ2 H3 fun v H4 => ∃ m', m' < m /\ W (i + 1) m' (ys ++ [v]) σ2 H4 else ∃ m', m' < m /\ W (i + 1) m' ys σ2 H3))
  (fin : ∀ s5 σc H' ys us pinsY, Inv (Z11 X N' scope cl C (D :: fp) s3 H) pinsY σc H' s5 -> H' D = none -> s5.heap.PlainList D us.toArray -> Vals ys us -> ys.length <= sizeLine -> Q ys H' -> R (.ok .next) s5) :
  codeAny (model X.prog X.w) X.A (.compLoop (.ListComp elt [⟨tg, iter, ifs, 0⟩] scope pos) 0 (.ref it) (.ref D) (compEnvC scope cl C X.env)) R s4 := by
 have eY : (Z11 X N' scope cl C (D :: fp) s3 H).env = compEnvC scope cl C X.env := rfl
 generalize hY : Z11 X N' scope cl C (D :: fp) s3 H = Y at *
 have e1 : Y.prog = X.prog := by rw [<- hY]; rfl
 have e2 : Y.w = X.w := by rw [<- hY]; rfl
 have e3 : Y.K = X.K := by rw [<- hY]; rfl
 have e4 : Y.A = X.A := by rw [<- hY]; rfl
 have e5 : Y.calm = true := by rw [<- hY]; exact hc
 have e6 : Y.xe = fun _ _ => False := by rw [<- hY]; rfl
 have e7 : Y.env.locals = C := by rw [eY]; rfl
 have e8 : Y.ex = D :: fp := by rw [<- hY]; rfl
 have e9 : Y.pn = [] := by rw [<- hY]; rfl
 have e10 : Y.fs = frs X.stack := by rw [<- hY]; rfl
 have e11 : ∀ x c, Y.env.cells.lookup x = some c -> ∀ b ∈ D :: fp, c ≠ b := fun x c e b hb => (IY.ok.exf b (by rw [e8]; exact hb)).2 x c e
 have nst : ∀ b ∈ D :: fp, b ∉ Y.fs := fun b hb => IY.ok.exfs b (by rw [e8]; exact hb)
 have fpY : ∀ (pinsY : List (Addr × Obj)) (H' : Hp), (∀ p ∈ pinsY, p.1 = D) -> ∀ b ∈ fp, H' b = none -> Z3i Y pinsY H' b := fun pinsY H' hp b hb hn =>
  ⟨hn, by rw [e7, hC]; exact Nat.ne_of_lt (hlt b (List.mem_cons_of_mem _ hb)), nst b (List.mem_cons_of_mem _ hb), .inl (by rw [e8]; exact List.mem_cons_of_mem _ hb), fun x c e => e11 x c e b (List.mem_cons_of_mem _ hb), fun p hp' z => by
   rw [e9, List.nil_append] at hp'
   have q := hp p hp'
   rw [z] at q
   rw [q] at hb
   exact hDf hb⟩
 have fpD : ∀ (pinsY : List (Addr × Obj)) (H' : Hp), (∀ p ∈ pinsY, p.1 ≠ D) -> H' D = none -> Z3i Y pinsY H' D := fun pinsY H' hp hn =>
  ⟨hn, by rw [e7, hC]; exact Nat.ne_of_lt (hlt D List.mem_cons_self), nst D List.mem_cons_self, .inl (by rw [e8]; exact List.mem_cons_self), fun x c e => e11 x c e D List.mem_cons_self, fun p hp' => by
   rw [e9, List.nil_append] at hp'
   exact hp p hp'⟩
 have T' : Turn Y.prog Y.w Y.K tg J fp it tn := by rw [e1, e2, e3]; exact T
 rw [<- eY, <- e1, <- e2, <- e4]
 refine Z7v (fun n s' => ∃ i ys us σc H', Inv Y [] σc H' s' /\ tn i s'.heap /\ (∀ b ∈ fp, H' b = none) /\ H' D = none /\ s'.heap.PlainList D (us : List Value).toArray /\ Vals ys us /\ ys.length <= sizeLine /\ W i n ys σc H') ?_ m0
  ⟨0, [], [], σ0, H, IY, st, fun b hb => (hf b (List.mem_cons_of_mem _ hb)).1, (hf D List.mem_cons_self).1, pl, .nil, Nat.zero_le _, w0⟩
 rintro n s5 ⟨i, ys, us, σc, H5, I5, st5, fr5, hD5, pl5, rv5, hz5, w5⟩
 obtain ⟨nn, hob⟩ := id pl5
 have I5' : Inv Y [(D, { cls := .type "list", data := .seq us.toArray nn })] σc H5 s5 := I5.pins_of fun p hp => by
  rw [List.mem_singleton] at hp
  subst hp
  exact ⟨hob, hD5, by rw [e7, hC]; exact Nat.ne_of_lt (hlt D List.mem_cons_self), nst D List.mem_cons_self, fun v z => by
   have z' : Data.seq us.toArray nn = Data.cell v := z
   cases z'⟩
 have f5 : ∀ b ∈ fp, Z3i Y [(D, { cls := .type "list", data := .seq us.toArray nn })] H5 b := fun b hb => fpY _ _ (fun p hp => by rw [List.mem_singleton] at hp; rw [hp]) b hb (fr5 b hb)
 rcases turn i n ys σc H5 w5 with ⟨stop, q⟩ | ⟨go, hz, step⟩
 ·refine thn (T'.done Y rfl rfl rfl e5 i _ s5 σc H5 (fun _ _ => False) I5' f5 st5 stop) fun r s6 ⟨hr, I6⟩ => ?_
  subst hr
  exact fin s6 σc H5 ys us _ I6 hD5 ⟨nn, (I6.pin (D, _) (List.mem_append_right _ List.mem_cons_self)).1⟩ rv5 hz5 q
 ·refine thn (T'.item Y rfl rfl rfl e5 i _ s5 σc H5 (fun _ _ => False) I5' f5 st5 go) fun r s6 ⟨u, hr, h6⟩ => ?_
  subst hr
  refine thn h6 fun _ s7 ⟨x, H7, I7, r7, y7, st7, fr7⟩ => ?_
  have f7 : ∀ b ∈ fp, Z3i Y [(D, { cls := .type "list", data := .seq us.toArray nn })] H7 b := fun b hb => fpY _ _ (fun p hp => by rw [List.mem_singleton] at hp; rw [hp]) b hb (fr7 b hb)
  have I7' := I7.pinned f7 (T.obj _ _ st7)
  have hx := hg _ s7 σc H7 x u _ I7' r7 (step x H7 y7)
  rw [e6] at hx
  refine thn hx fun _ s8 ⟨σ8, H8, I8, q8⟩ => ?_
  have hx2 := ht _ s8 σ8 H8 _ I8 q8
  rw [e6] at hx2
  have keepT : ∀ {σ9 : St} {H9 : Hp} {s9 : Shared}, Inv Y ([(D, { cls := .type "list", data := .seq us.toArray nn })] ++ Z5z fp s7.heap) σ9 H9 s9 -> tn (i + 1) s9.heap /\ (∀ b ∈ fp, H9 b = none) /\ H9 D = none /\ s9.heap.get? D = some { cls := .type "list", data := .seq us.toArray nn } := fun {σ9 H9 s9} I9 => by
   have pD := I9.pin (D, _) (List.mem_append_right _ (List.mem_append_left _ List.mem_cons_self))
   refine ⟨T.keep _ _ _ st7 fun b hb o e => (I9.pin (b, o) (List.mem_append_right _ (List.mem_append_right _ (Z1y hb e)))).1, fun b hb => ?_, pD.2.1, pD.1⟩
   obtain ⟨o, e, d⟩ := T.obj _ _ st7 b hb
   exact (I9.pin (b, o) (List.mem_append_right _ (List.mem_append_right _ (Z1y hb e)))).2.1
  refine thn hx2 fun ok s9 ⟨H9, I9, q9⟩ => ?_
  cases ok with
  | false =>
   rw [if_neg Bool.false_ne_true] at q9
   rw [if_neg Bool.false_ne_true]
   obtain ⟨m', hm, w9⟩ := q9
   obtain ⟨k1, k2, k3, k4⟩ := keepT I9
   exact ⟨m', hm, i + 1, ys, us, σ8, H9, I9.pins_of (fun p hp => nomatch hp), k1, k2, k3, ⟨nn, k4⟩, rv5, hz5, w9⟩
  | true =>
   rw [if_pos rfl] at q9
   rw [if_pos rfl]
   have hx3 := he _ s9 σ8 H9 _ I9 q9
   rw [e6] at hx3
   refine thn hx3 fun xv s10 ⟨v, H10, I10, r10, m', hm, w10⟩ => ?_
   obtain ⟨k1, k2, k3, k4⟩ := keepT I10
   have hl := rv5.length
   refine wpAny_list_append_plain ⟨nn, k4⟩ (fun h' pl' sb => ?_) (by rw [List.size_toArray]; omega)
   have fD := fpD [] H10 (fun p hp => nomatch hp) k3
   have I11 : Inv Y [] σ8 H10 { s10 with heap := h' } := (I10.pins_of (pins' := []) fun p hp => nomatch hp).turned (t' := s10.toks) (fun b o hb e => (sb.2 b hb).trans e) fD.1 fD.2.1 fD.2.2.2.1 fD.2.2.2.2.1 fD.2.2.2.2.2
   refine ⟨m', hm, i + 1, ys ++ [v], us ++ [xv], σ8, H10, I11, T.keep _ _ _ k1 (fun b hb o e => (sb.2 b ?_).trans e), k2, k3, ?_, rv5.append (.cons r10 .nil), ?_, w10⟩
   ·intro z; rw [z] at hb; exact hDf hb
   ·rw [show (us ++ [xv]).toArray = us.toArray.push xv by simp]; exact pl'
   ·rw [List.length_append, List.length_singleton]; exact hz
theorem Z1z (hc : X.calm = true) (S : CompScope X scope N' src) (hi : PI X tg iter wi)
  (hb : ∀ cl C ex s0 H0, PG (Z11 X N' scope cl C ex s0 H0) tg g /\ PTs (Z11 X N' scope cl C ex s0 H0) ifs tt /\ PE (Z11 X N' scope cl C ex s0 H0) elt te)
  (hs : ∀ x, foldedSetIterable iter X.env x = pure x := by intro _; rfl) : PE X (.ListComp elt [⟨tg, iter, ifs, 0⟩] scope pos) (Zj9 src wi g tt te) := by
 intro pins s σ H Q I h
 obtain ⟨cl, hclos, hcl1, hcl2⟩ := Z48 (scope := scope) (env := X.env) fun n hn => I.ok.has n (S.fr n hn)
 rw [eval_ListComp]
 refine wpAny_comprehension_free (use := none) rfl hs hclos S.kind S.names ?_
 refine thn (hi pins s σ H _ I h) fun v s1 h1 => thn h1 fun itv s2 h2 => ?_
 obtain ⟨it, fp, tn, J, H2, e, I2, T, st2, f2, W, ⟨m0, w0⟩, turn⟩ := h2
 subst e
 refine wpAny_newObj_type (wpAny_newFunctionEnv S.cell (by intro y hy; simp at hy) (fun h₁ hns₁ hsb₁ => ?_) S.kind)
 dsimp only at hns₁ hsb₁ ⊢
 generalize hH3 : s2.heap.push { cls := .type "list", dict := none, data := .seq ([] : List Value).toArray } = H3 at hns₁ hsb₁ ⊢
 have hsz : H3.objs.size = s2.heap.objs.size + 1 := by rw [<- hH3, Heap.size_push]
 have I3 : Inv X pins σ H2 { s2 with heap := H3 } := I2.kept (t' := s2.toks) fun b o e => by rw [<- hH3]; exact Heap.get?_push_of_some _ e
 have fD : Z3i X pins H2 s2.heap.objs.size := I2.fpOk (Nat.le_refl _) (I2.hok.fresh (Nat.le_refl _))
 have hDf : s2.heap.objs.size ∉ fp := fun hm => by
  obtain ⟨o, e, _⟩ := T.obj 0 _ st2 _ hm
  exact Nat.lt_irrefl _ (Heap.lt_size e)
 have hf : ∀ b ∈ s2.heap.objs.size :: fp, Z3i X pins H2 b := fun b hb => by
  rcases List.mem_cons.mp hb with z | z
  ·rw [z]; exact fD
  ·exact f2 b z
 have hlt : ∀ b ∈ s2.heap.objs.size :: fp, b < H3.objs.size := fun b hb => by
  rcases List.mem_cons.mp hb with z | z
  ·rw [z, hsz]; exact Nat.lt_succ_self _
  ·obtain ⟨o, e, _⟩ := T.obj 0 _ st2 b z
   rw [hsz]; exact Nat.lt_succ_of_lt (Heap.lt_size e)
 have kp : ∀ b o, H3.get? b = some o -> h₁.get? b = some o := fun b o e => hsb₁.extBut b o (Nat.ne_of_lt (Heap.lt_size e)) (Heap.get?_push_of_some _ e)
 have kp0 : ∀ b o, s2.heap.get? b = some o -> h₁.get? b = some o := fun b o e => kp b o (by rw [<- hH3]; exact Heap.get?_push_of_some _ e)
 have hacc : h₁.PlainList s2.heap.objs.size #[] := ⟨_, kp _ _ (by rw [<- hH3]; exact Heap.get?_push_size _ rfl)⟩
 have st1 : tn 0 h₁ := T.keep _ _ _ st2 fun b _ o e => kp0 b o e
 have IY := Z4a (N' := N') (src := src) (scope := scope) (cl := cl) (C := H3.objs.size) (D := s2.heap.objs.size) (fp := fp) (s3 := { s2 with heap := H3 }) (h1 := h₁) (tk := s2.toks) S I3 hcl1 hcl2 rfl hf hlt hns₁ kp
 obtain ⟨hg, ht, he⟩ := hb cl H3.objs.size (s2.heap.objs.size :: fp) { s2 with heap := H3 } H2
 have loop := Z9o (R := compPost (model X.prog X.w) X.A X.xe none (EP X pins σ Q) (.ref s2.heap.objs.size) H3.objs.size) (elt := elt) (iter := iter) (ifs := ifs) (pos := pos) (Q := fun ys H => ∀ l, H l = none -> Q (.ref l) (upd H l (.lst ys)))
  hc T I3 rfl hf hlt hDf IY st1 hacc hg ht he w0 turn (fun s5 σc H' ys us pinsY IY5 hD pl rv hz q => by
   obtain ⟨m, hn, _⟩ := IY5.loc
   refine ⟨m, hn, fun h' hs' => ⟨.ref s2.heap.objs.size, upd H' s2.heap.objs.size (.lst ys), ?_, rfl, q _ hD⟩⟩
   exact Z67 I3 rfl hf hlt IY5 hD pl rv hz hs')
 exact codeAny_compStart_list loop (T.self _ 0 _ _ _ st1 loop)
end
section
variable {X : Cx} {tg : Expr}
def rSlS : V -> Option Int -> Option Int -> Hp -> VK -> Prop := fun x lo hi H Q => ∃ z, x = .str z /\ z.length <= sizeLine /\ Q (.str (Txt.slice z lo hi)) H
theorem Zco : SlR X rSlS := by
 intro pins s σ H x v vl vu lo hi sl Q I rx hs pl pu h
 obtain ⟨z, rfl, hz, q⟩ := h
 obtain ⟨t, rfl⟩ := rx
 refine ⟨"str", _, F.slot_str_getitem.lookup, typeIs_str _ _ _, ?_⟩
 obtain ⟨os, hos, hcs, hds⟩ := id hs
 have fin : ∀ t' k, EP X pins σ Q (.str (Txt.slice z lo hi) t') { s with toks := k } := fun t' k => ⟨.str _, H, I.tok _, ⟨_, rfl⟩, q⟩
 cases pl with
 | none =>
  cases pu with
  | none => exact wpAny_getItem_str_slice (l := none) (u := none) (st := none) ⟨os, hos, hcs, hds⟩ rfl (post_val_or_str ⟨Nat.le_trans (Txt.slice_le z _ _) hz, fin⟩)
  | int j uj => exact wpAny_getItem_str_slice (l := none) (u := some (j, uj)) (st := none) ⟨os, hos, hcs, hds⟩ rfl (post_val_or_str ⟨Nat.le_trans (Txt.slice_le z _ _) hz, fin⟩)
 | int i ui =>
  cases pu with
  | none => exact wpAny_getItem_str_slice (l := some (i, ui)) (u := none) (st := none) ⟨os, hos, hcs, hds⟩ rfl (post_val_or_str ⟨Nat.le_trans (Txt.slice_le z _ _) hz, fin⟩)
  | int j uj => exact wpAny_getItem_str_slice (l := some (i, ui)) (u := some (j, uj)) (st := none) ⟨os, hos, hcs, hds⟩ rfl (post_val_or_str ⟨Nat.le_trans (Txt.slice_le z _ _) hz, fin⟩)
theorem Z14 : Z34 X (.builtin "isinstance") (fun xs H Q => ∃ x T ty b, xs = [x, .ty T] /\ TyOf X.K H x ty /\ PySem.W.kitOne X.K ty (.type T) = some b /\ Q (.bl b) H) := by
 intro pins s σ H xs us Q I r h
 obtain ⟨x, T, ty, b, rfl, h1, h2, q⟩ := h
 obtain ⟨u, w', rfl, rx, rT⟩ := Zet r
 cases (show w' = Value.type T from rT)
 exact Zc7 I rx h1 h2 fun tk => ⟨.bl b, H, I.tok _, rfl, q⟩
theorem Z9p : ∀ {bs : List Bool} {us : List Value}, Vals (bs.map V.bl) us -> us = bs.map Value.bool
 | [], us, r => by cases r; rfl
 | b :: bs, us, r => by
  cases r with
  | cons r1 r2 => cases r1; rw [Z9p r2]; rfl
theorem Zax (bs : List Bool) : ((List.range bs.length).all fun i => (bs[i]?).getD true) = bs.all id := by
 rw [Bool.eq_iff_iff, List.all_eq_true, List.all_eq_true]
 constructor
 ·intro h b hb
  obtain ⟨i, hi, rfl⟩ := List.getElem_of_mem hb
  have := h i (List.mem_range.mpr hi)
  simpa [List.getElem?_eq_getElem hi] using this
 ·intro h i hi
  have hi' := List.mem_range.mp hi
  rw [List.getElem?_eq_getElem hi']
  exact h _ (List.getElem_mem hi')
theorem Z8x (hc : X.calm = true) : Z34 X (.builtin "all") (fun xs H Q => ∃ (p : Addr) (bs : List Bool), xs = [.ref p] /\ SqL X.K H p (bs.map V.bl) /\ Q (.bl (bs.all id)) H) := by
 intro pins s σ H xs us Q I r h
 obtain ⟨p, bs, rfl, hq, q⟩ := h
 obtain ⟨u, rfl, rx⟩ := Z8t r
 cases rx
 obtain ⟨its, r', pl, hz⟩ := I.list hq
 have e := Z9p r'
 subst e
 have hlt : p < s.heap.objs.size := by obtain ⟨_, e, _⟩ := pl.isList; exact Heap.lt_size e
 refine call_all_walk (wpAny_pyIter_list pl.isList ?_)
 refine ⟨s.heap.objs.size, [s.heap.objs.size, p], [s.heap.objs.size], (bs.map Value.bool).toArray.size, _, _, fun i => (bs[i]?).getD true, rfl, Walks.list (A := X.A.in1) (I.ok.hd hc) _ p (Nat.ne_of_lt hlt) (bs.map Value.bool).toArray,
  ⟨⟨_, Heap.get?_push_size _ rfl, rfl, rfl⟩, pl.isList.push _⟩, fun i v s' Q' E' hP hQ => ?_, fun h' tk hk => ?_⟩
 ·have hP' : (bs.map Value.bool)[i]? = some v := by simpa using hP
  rw [List.getElem?_map] at hP'
  cases e : bs[i]? with
  | none => rw [e] at hP'; cases hP'
  | some b =>
   rw [e] at hP'
   cases hP'
   simp only [e, Option.getD_some] at hQ
   exact wpAny_truthy_bool hQ
 ·have e : ((List.range (bs.map Value.bool).toArray.size).all fun i => (bs[i]?).getD true) = bs.all id := by
   rw [List.size_toArray, List.length_map]; exact Zax bs
  rw [e]
  refine ⟨.bl _, H, I.kept fun b o eb => hk b o ?_ (Heap.get?_push_of_some _ eb), rfl, q⟩
  intro z
  rw [List.mem_singleton.mp z] at eb
  exact Nat.lt_irrefl _ (Heap.lt_size eb)
def Zkr (xs ys : List V) : Bool := xs.length == ys.length && (List.range xs.length).all fun j => eqV (xs.getD j .non) (ys.getD j .non)
end
section
variable {X : Cx} {elt tg iter : Expr} {ifs : List Expr} {scope : Scope} {pos : Pos} {N' : List Str} {src : List (Option Nat)} {wi : TI} {g : TG} {tt : TT} {te : TE}
theorem Zay {i : Nat} {x : Str} {pos' spos : Pos} (hc : X.calm = true) (hN : X.N.Nodup) (hix : X.N[i]? = some x) (hx : Loc X.env.scope x) (S : CompScope X scope N' src) (hi : PI X tg iter wi)
  (hb : ∀ cl C ex s0 H0, PG (Z11 X N' scope cl C ex s0 H0) tg g /\ PTs (Z11 X N' scope cl C ex s0 H0) ifs tt /\ PE (Z11 X N' scope cl C ex s0 H0) elt te)
  (hsw : swapsWith (.ListComp elt [⟨tg, iter, ifs, 0⟩] scope pos) (some (.Name x pos')) spos.line X.env = pure true := by rfl)
  (hs : ∀ x, foldedSetIterable iter X.env x = pure x := by intro _; rfl)
  (hfn : X.fn x = true ∨ X.env.scope.names.lookup x = some .local := by first | exact .inl rfl | exact .inr rfl | assumption) :
  PS X (.Assign [.Name x pos'] (.ListComp elt [⟨tg, iter, ifs, 0⟩] scope pos) spos) (Ziy (Zj9 src wi g tt te) (Z8r i)) := by
 intro pins s σ H D I h
 obtain ⟨cl, hclos, hcl1, hcl2⟩ := Z48 (scope := scope) (env := X.env) fun n hn => I.ok.has n (S.fr n hn)
 rw [exec_Assign_Name_used _ _ _ _ hsw]
 refine wpAny_bind (wpAny_standAt (wpAny_bind ?_))
 show wpAny _ _ (do let _ ← comprehension (.ListComp elt [⟨tg, iter, ifs, 0⟩] scope pos) scope X.env _ (newList []) false (eval iter X.env) (some (assign (.Name x pos') X.env))) _ _ s
 refine wpAny_bind (wpAny_mono (wpAny_comprehension_free (use := some (assign (.Name x pos') X.env)) (Q := fun _ s' => SP X pins D .next s') rfl hs hclos S.kind S.names ?_) (fun _ s' hq => wpAny_pure (wpAny_pure hq)) fun _ _ e => e)
 refine thn (hi pins s σ H _ I h) fun v s1 h1 => thn h1 fun itv s2 h2 => ?_
 obtain ⟨it, fp, tn, J, H2, e, I2, T, st2, f2, W, ⟨m0, w0⟩, turn⟩ := h2
 subst e
 refine wpAny_newObj_type (wpAny_newFunctionEnv S.cell (by intro y hy; simp at hy) (fun h₁ hns₁ hsb₁ => ?_) S.kind)
 dsimp only at hns₁ hsb₁ ⊢
 generalize hH3 : s2.heap.push { cls := .type "list", dict := none, data := .seq ([] : List Value).toArray } = H3 at hns₁ hsb₁ ⊢
 have hsz : H3.objs.size = s2.heap.objs.size + 1 := by rw [<- hH3, Heap.size_push]
 have I3 : Inv X pins σ H2 { s2 with heap := H3 } := I2.kept (t' := s2.toks) fun b o e => by rw [<- hH3]; exact Heap.get?_push_of_some _ e
 have fD : Z3i X pins H2 s2.heap.objs.size := I2.fpOk (Nat.le_refl _) (I2.hok.fresh (Nat.le_refl _))
 have hDf : s2.heap.objs.size ∉ fp := fun hm => by
  obtain ⟨o, e, _⟩ := T.obj 0 _ st2 _ hm
  exact Nat.lt_irrefl _ (Heap.lt_size e)
 have hf : ∀ b ∈ s2.heap.objs.size :: fp, Z3i X pins H2 b := fun b hb => by
  rcases List.mem_cons.mp hb with z | z
  ·rw [z]; exact fD
  ·exact f2 b z
 have hlt : ∀ b ∈ s2.heap.objs.size :: fp, b < H3.objs.size := fun b hb => by
  rcases List.mem_cons.mp hb with z | z
  ·rw [z, hsz]; exact Nat.lt_succ_self _
  ·obtain ⟨o, e, _⟩ := T.obj 0 _ st2 b z
   rw [hsz]; exact Nat.lt_succ_of_lt (Heap.lt_size e)
 have kp : ∀ b o, H3.get? b = some o -> h₁.get? b = some o := fun b o e => hsb₁.extBut b o (Nat.ne_of_lt (Heap.lt_size e)) (Heap.get?_push_of_some _ e)
 have kp0 : ∀ b o, s2.heap.get? b = some o -> h₁.get? b = some o := fun b o e => kp b o (by rw [<- hH3]; exact Heap.get?_push_of_some _ e)
 have hacc : h₁.PlainList s2.heap.objs.size #[] := ⟨_, kp _ _ (by rw [<- hH3]; exact Heap.get?_push_size _ rfl)⟩
 have st1 : tn 0 h₁ := T.keep _ _ _ st2 fun b _ o e => kp0 b o e
 have IY := Z4a (N' := N') (src := src) (scope := scope) (cl := cl) (C := H3.objs.size) (D := s2.heap.objs.size) (fp := fp) (s3 := { s2 with heap := H3 }) (h1 := h₁) (tk := s2.toks) S I3 hcl1 hcl2 rfl hf hlt hns₁ kp
 obtain ⟨hg, ht, he⟩ := hb cl H3.objs.size (s2.heap.objs.size :: fp) { s2 with heap := H3 } H2
 have loop := Z9o (R := compPost (model X.prog X.w) X.A X.xe (some (assign (.Name x pos') X.env)) (fun _ s' => SP X pins D .next s') (.ref s2.heap.objs.size) H3.objs.size) (elt := elt) (iter := iter) (ifs := ifs) (pos := pos) (Q := fun ys H => ∀ l, H l = none -> D.nx (σ.set i (some (.ref l))) (upd H l (.lst ys)))
  hc T I3 rfl hf hlt hDf IY st1 hacc hg ht he w0 turn (fun s5 σc H' ys us pinsY IY5 hD pl rv hz q => by
   have IX : Inv X pins σ (upd H' s2.heap.objs.size (.lst ys)) s5 := Z67 (h' := s5.heap) I3 rfl hf hlt IY5 hD pl rv hz (.refl ..)
   show wpAny _ _ (assign (.Name x pos') X.env (.ref s2.heap.objs.size)) _ _ s5
   refine wpAny_assign_Name (Z7i (v := .ref s2.heap.objs.size) IX hN hix hx rfl (fun s6 I6 ⟨a, sb, ha⟩ => ?_) hfn)
   obtain ⟨m, hn, _⟩ := IY5.loc
   have fC : Z3i X pins (upd H' s2.heap.objs.size (.lst ys)) H3.objs.size := I3.fpOk (Nat.le_refl _) (by
    rw [Z0c (by rw [hsz]; exact Nat.ne_of_gt (Nat.lt_succ_self _))]
    exact IY5.free)
   have hCa : H3.objs.size ≠ a := by
    rcases ha with z | z
    ·rw [z]; exact fC.2.1
    ·exact fun q => fC.2.2.2.2.1 x a z q.symm
   refine ⟨m, hn.sameBut sb hCa, fun h' hs' => ⟨_, _, I6.turned (t' := s6.toks) (fun b o hb e => (hs'.2 b hb).trans e) fC.1 fC.2.1 fC.2.2.2.1 fC.2.2.2.2.1 fC.2.2.2.2.2, q _ hD⟩⟩)
 exact codeAny_compStart_list loop (T.self _ 0 _ _ _ st1 loop)
end
section
variable {X : Cx}
def Zks (_ j : Int) : Prop := 0 < j /\ j < 18446744073709551616
theorem Z4t : OpR X (binaryOp .FloorDiv) (rI Zks fun i j => .int (i / j)) := opI fun i j _ _ _ _ _ hc q => by
 have h1 : (0 : Int) < j := hc.1
 have h2 : j < 18446744073709551616 := hc.2
 refine floordiv_int (by omega) (by rw [Int.fdiv_eq_ediv_of_nonneg i (by omega)]; exact q) (.inl (PyProof.noPylong_of_log2 ?_))
 have h64 : j.natAbs.log2 < 64 := (Nat.log2_lt (by omega)).mpr (by omega)
 omega
theorem Z4b (hu : X.A.units < cLine) : OpR X (compareOp .NotEq) (fun x y H Q => ∃ a b xs ys, x = .ref a /\ y = .ref b /\ SqL X.K H a xs /\ SqL X.K H b ys /\ xs.all Z3k = true /\ ys.all Z3k = true /\ Q (.bl (!Zkr xs ys)) H) := by
 intro pins s σ H x y v u Q I rx ry h
 obtain ⟨a, b, xs, ys, rfl, rfl, hx, hy, fx, fy, q⟩ := h
 cases rx
 cases ry
 obtain ⟨its, r, pl, hz⟩ := I.list hx
 obtain ⟨its2, r2, pl2, hz2⟩ := I.list hy
 have hl := r.length
 have hl2 := r2.length
 by_cases hs : xs.length = ys.length
 ·refine SeqAt.RcNeAt.lists (e := fun j => eqV (xs.getD j .non) (ys.getD j .non)) pl.isList pl2.isList (by simp only [List.size_toArray]; omega) hu (fun j h1 h2 => ?_) X.prog X.w _ _ ?_
  ·simp only [List.size_toArray] at h1 h2
   have g1 : xs[j]? = some xs[j] := List.getElem?_eq_getElem (by omega)
   have g2 : ys[j]? = some ys[j] := List.getElem?_eq_getElem (by omega)
   obtain ⟨u1, e1, ru1⟩ := r.get g1
   obtain ⟨u2, e2, ru2⟩ := r2.get g2
   have k1 : its.toArray[j] = u1 := by
    have : its[j]? = some its[j] := List.getElem?_eq_getElem h1
    rw [e1] at this
    simpa using (Option.some.inj this).symm
   have k2 : its2.toArray[j] = u2 := by
    have : its2[j]? = some its2[j] := List.getElem?_eq_getElem h2
    rw [e2] at this
    simpa using (Option.some.inj this).symm
   rw [k1, k2, show xs.getD j .non = xs[j] by simp [List.getD, g1], show ys.getD j .non = ys[j] by simp [List.getD, g2]]
   exact Zcc ru1 ru2 (List.all_eq_true.mp fx _ (List.getElem_mem _)) (List.all_eq_true.mp fy _ (List.getElem_mem _))
  ·refine Z0t I q ?_
   unfold Zkr
   rw [List.size_toArray, <- hl, hs]
   simp
 ·refine SeqAt.RcNeAt.lists_lengths pl.isList pl2.isList (by simp only [List.size_toArray, bne_iff_ne]; omega) hu X.prog X.w _ _ ?_
  refine Z0t I q ?_
  unfold Zkr
  rw [beq_eq_false_iff_ne.mpr hs]
  rfl
end
def Zlz (t u : TS) : TS := fun D σ H => ∃ Pv : St -> Hp -> Prop, t { D with nx := Pv } σ H /\ ∀ σ' H', Pv σ' H' -> u D σ' H'
section
variable {X : Cx} {st : Stmt} {rest : List Stmt} {t u : TS}
theorem Z0r (h1 : PS X st t) (h2 : PSs X rest u) : PSs X (st :: rest) (Zlz t u) := by
 intro pins s σ H D I h
 obtain ⟨Pv, h, hr⟩ := h
 refine wpAny_execs_cons (thn (h1 pins s σ H { D with nx := Pv } I h) fun f s1 q => ?_)
 cases f with
 | next =>
  obtain ⟨σ', H', I', q⟩ := q
  exact h2 pins s1 σ' H' D I' (hr σ' H' q)
 | ret v => exact q
 | brk => exact q
 | cont => exact q
end
def Z9q (kindOf : Str -> Option NameKind) (XN : List Str) (scope : Scope) (N' : List Str) (src : List (Option Nat)) : Bool :=
 (scope.kind == .function) && (scope.names.all fun y => (y.2 != .cell) && (y.2 != .local || scope.names.lookup y.1 == some .local) && (y.2 != .free || ((kindOf y.1 == some .cell || kindOf y.1 == some .free) && scope.names.lookup y.1 != some .local))) &&
 (N'.length == src.length) && ((List.range src.length).all fun i => match src[i]? with
  | some (some j) => (match N'[i]?, XN[j]? with | some x, some y => x == y && scope.names.contains (x, NameKind.free) | _, _ => false)
  | _ => true)
theorem Z0s {X : Cx} {scope : Scope} {N' : List Str} {src : List (Option Nat)} (sc : Scope) (hsc : X.env.scope = sc) (N : List Str) (hN : X.N = N) (h : Z9q (fun x => sc.names.lookup x) N scope N' src = true) : CompScope X scope N' src := by
 subst hsc hN
 unfold Z9q at h
 simp only [Bool.and_eq_true, List.all_eq_true, beq_iff_eq, bne_iff_ne, ne_eq, Bool.or_eq_true] at h
 obtain ⟨⟨⟨h1, h2⟩, h3⟩, h4⟩ := h
 refine ⟨h1, fun y hy => (h2 y hy).1.1, fun y hy hl => ?_, fun n hn => ?_, fun n hn => ?_, h3, fun i j e => ?_⟩
 ·rcases (h2 y hy).1.2 with z | z
  ·exact absurd hl z
  ·exact z
 ·rcases (h2 _ hn).2 with z | z
  ·exact absurd rfl z
  ·exact z.1
 ·rcases (h2 _ hn).2 with z | z
  ·exact absurd rfl z
  ·exact z.2
 ·have hi : i < src.length := (List.getElem?_eq_some_iff.mp e).1
  have q := h4 i (List.mem_range.mpr hi)
  rw [e] at q
  dsimp only at q
  cases e1 : N'[i]? with
  | none => rw [e1] at q; cases q
  | some x =>
   cases e2 : X.N[j]? with
   | none => rw [e1, e2] at q; cases q
   | some y =>
    rw [e1, e2] at q
    simp only [Bool.and_eq_true, beq_iff_eq] at q
    obtain ⟨rfl, q⟩ := q
    exact ⟨x, rfl, rfl, by simpa using q⟩
def Nx (N i : Nat) (P : Prop) : Prop := ∃ m', m' < N - i /\ m' = N - (i + 1) /\ i + 1 <= N /\ P
theorem nx {N i : Nat} {P : Prop} (h : i < N) (p : P) : Nx N i P := ⟨_, by omega, rfl, h, p⟩
section
variable {x : Str} {σ0 : St} {H : Hp} {g : TG} {tt : TT} {te : TE} {Q : List V -> Hp -> Prop}
theorem Z68 {lo : Int} {n : Nat} (Pv : Nat -> List V -> St -> Hp -> Prop) (h0 : Pv 0 [] σ0 H)
  (hs : ∀ i ys σc H, i < n -> Pv i ys σc H -> ys.length < sizeLine /\ g (.int (lo + i)) σc H fun σ2 H2 => tt σ2 H2 fun b H3 =>
   if b = true then te σ2 H3 fun v H4 => Nx n i (Pv (i + 1) (ys ++ [v]) σ2 H4) else Nx n i (Pv (i + 1) ys σ2 H3))
  (hd : ∀ ys σc H, Pv n ys σc H -> Q ys H) :
  ∃ W : Nat -> Nat -> List V -> St -> Hp -> Prop, (∃ m, W 0 m [] σ0 H) /\ ∀ i m ys σc H, W i m ys σc H →
   ((Itr lo n).stop i H /\ Q ys H) ∨ ((Itr lo n).go i H /\ ys.length < sizeLine /\ ∀ v H', (Itr lo n).yld i H v H' -> g v σc H' fun σ2 H2 => tt σ2 H2 fun b H3 =>
    if b = true then te σ2 H3 fun v H4 => ∃ m', m' < m /\ W (i + 1) m' (ys ++ [v]) σ2 H4 else ∃ m', m' < m /\ W (i + 1) m' ys σ2 H3) := by
 refine ⟨fun i m ys σc H => m = n - i /\ i <= n /\ Pv i ys σc H, ⟨_, rfl, Nat.zero_le _, h0⟩, ?_⟩
 rintro i m ys σc H ⟨rfl, hi, p⟩
 by_cases hlt : i < n
 ·obtain ⟨z, _⟩ := hs i ys σc H hlt p
  refine .inr ⟨hlt, z, fun v H' y => ?_⟩
  obtain ⟨e, ev⟩ := y
  subst e ev
  exact (hs i ys σc _ hlt p).2
 ·have e : i = n := by omega
  subst e
  exact .inl ⟨Nat.le_refl _, hd ys σc H p⟩
end
theorem Z02 {H : Hp} {a : Addr} {o : HO} (h : H a = none) : Same H (upd H a o) := fun b u e => by rw [Z0c (Z0h e h)]; exact e
theorem Zja {α : Type} {xs : List α} (h : 0 < xs.length) (i : Int) : ∃ v, v ∈ xs /\ atI xs (i % (xs.length : Int)) = some v := by
 have h0 : 0 <= i % (xs.length : Int) := Int.emod_nonneg _ (by omega)
 have h1 : i % (xs.length : Int) < xs.length := Int.emod_lt_of_pos _ (by omega)
 obtain ⟨j, hj⟩ := Int.eq_ofNat_of_zero_le h0
 have hl : j < xs.length := by omega
 refine ⟨xs[j], List.getElem_mem hl, ?_⟩
 rw [hj]
 exact Z2h (List.getElem?_eq_getElem hl)
theorem Z3c {α : Type} {xs : List α} {i : Int} (h0 : 0 <= i) (h1 : i < xs.length) : ∃ v, v ∈ xs /\ atI xs i = some v := by
 obtain ⟨j, hj⟩ := Int.eq_ofNat_of_zero_le h0
 have hl : j < xs.length := by omega
 refine ⟨xs[j], List.getElem_mem hl, ?_⟩
 rw [hj]
 exact Z2h (List.getElem?_eq_getElem hl)
section
variable {X : Cx} {es : List Expr} {te : TE} {t : TA}
theorem Z1h {c : Const} {j : Nat} {p : Pos} (h : PE X (.Constant c j p) te) (hr : PA X es t) : PA X (.Constant c j p :: es) (Zc8 te t) := Z0d h hr rfl
theorem Z0i {x : Str} {p : Pos} (h : PE X (.Name x p) te) (hr : PA X es t) : PA X (.Name x p :: es) (Zc8 te t) := Z0d h hr rfl
theorem Zbr {xs : List Expr} {j : Nat} {p : Pos} (h : PE X (.Tuple xs j p) te) (hr : PA X es t) : PA X (.Tuple xs j p :: es) (Zc8 te t) := Z0d h hr rfl
theorem Z4c {f : Expr} {xs : List Expr} {ks : List Keyword} {p : Pos} (h : PE X (.Call f xs ks p) te) (hr : PA X es t) : PA X (.Call f xs ks p :: es) (Zc8 te t) := Z0d h hr rfl
end
def Z53 : Expr -> Option V
 | .Constant (.int i) _ _ => some (.int i)
 | .Constant (.str x) _ _ => some (.str x)
 | .Constant (.bool b) _ _ => some (.bl b)
 | .Constant .none _ _ => some .non
 | _ => none
theorem Z7w {X : Cx} : ∀ {es : List Expr} {vs : List V}, es.map Z53 = vs.map some -> PA X es (fun _ H Q => Q vs H)
 | [], [], _ => Z00
 | [], v :: vs, h => by cases h
 | e :: es, [], h => by cases h
 | e :: es, v :: vs, h => by
  rw [List.map_cons, List.map_cons] at h
  injection h with h1 h2
  have ih := Z7w (X := X) h2
  cases e with
  | Constant c j p =>
   cases c with
   | int i => cases h1; exact Z1h Z04 ih
   | str x => cases h1; exact Z1h Z0a ih
   | bool b => cases h1; exact Z1h Z5q ih
   | none => cases h1; exact Z1h Zga ih
   | _ => cases h1
  | _ => cases h1
theorem nd1 (x : Str) : [x].Nodup := by simp
section
variable {K : PySem.W.Frag} {a : Addr} {xs : List V} {σ0 : St} {H : Hp} {g : TG} {tt : TT} {te : TE} {Q : List V -> Hp -> Prop}
theorem Z3o (Pv : Nat -> List V -> St -> Hp -> Prop) (h0 : Pv 0 [] σ0 H) (hl : ∀ i ys σc H, Pv i ys σc H -> SqT K H a xs)
  (hs : ∀ i x ys σc H, xs[i]? = some x -> i < xs.length -> Pv i ys σc H -> ys.length < sizeLine /\ g x σc H fun σ2 H2 => tt σ2 H2 fun b H3 =>
   if b = true then te σ2 H3 fun v H4 => Nx xs.length i (Pv (i + 1) (ys ++ [v]) σ2 H4) else Nx xs.length i (Pv (i + 1) ys σ2 H3))
  (hd : ∀ ys σc H, Pv xs.length ys σc H -> Q ys H) :
  ∃ W : Nat -> Nat -> List V -> St -> Hp -> Prop, (∃ m, W 0 m [] σ0 H) /\ ∀ i m ys σc H, W i m ys σc H →
   ((Itt K a).stop i H /\ Q ys H) ∨ ((Itt K a).go i H /\ ys.length < sizeLine /\ ∀ v H', (Itt K a).yld i H v H' -> g v σc H' fun σ2 H2 => tt σ2 H2 fun b H3 =>
    if b = true then te σ2 H3 fun v H4 => ∃ m', m' < m /\ W (i + 1) m' (ys ++ [v]) σ2 H4 else ∃ m', m' < m /\ W (i + 1) m' ys σ2 H3) := by
 refine ⟨fun i m ys σc H => m = xs.length - i /\ i <= xs.length /\ Pv i ys σc H, ⟨_, rfl, Nat.zero_le _, h0⟩, ?_⟩
 rintro i m ys σc H ⟨rfl, hi, p⟩
 have q := hl i ys σc H p
 by_cases hlt : i < xs.length
 ·have hx : xs[i]? = some xs[i] := List.getElem?_eq_getElem hlt
  obtain ⟨z, _⟩ := hs i _ ys σc H hx hlt p
  refine .inr ⟨⟨xs, xs[i], q, hx⟩, z, fun v H' y => ?_⟩
  obtain ⟨e, y⟩ := y
  subst e
  exact (hs i v ys σc _ (y xs q) hlt p).2
 ·have e : i = xs.length := by omega
  subst e
  exact .inl ⟨⟨xs, q, Nat.le_refl _⟩, hd ys σc H p⟩
theorem Z2r (Pv : Nat -> List V -> St -> Hp -> Prop) (h0 : Pv 0 [] σ0 H) (hl : ∀ i ys σc H, Pv i ys σc H -> SqL K H a xs)
  (hs : ∀ i x ys σc H, xs[i]? = some x -> i < xs.length -> Pv i ys σc H -> ys.length < sizeLine /\ g x σc H fun σ2 H2 => tt σ2 H2 fun b H3 =>
   if b = true then te σ2 H3 fun v H4 => Nx xs.length i (Pv (i + 1) (ys ++ [v]) σ2 H4) else Nx xs.length i (Pv (i + 1) ys σ2 H3))
  (hd : ∀ ys σc H, Pv xs.length ys σc H -> Q ys H) :
  ∃ W : Nat -> Nat -> List V -> St -> Hp -> Prop, (∃ m, W 0 m [] σ0 H) /\ ∀ i m ys σc H, W i m ys σc H →
   ((Itl K a).stop i H /\ Q ys H) ∨ ((Itl K a).go i H /\ ys.length < sizeLine /\ ∀ v H', (Itl K a).yld i H v H' -> g v σc H' fun σ2 H2 => tt σ2 H2 fun b H3 =>
    if b = true then te σ2 H3 fun v H4 => ∃ m', m' < m /\ W (i + 1) m' (ys ++ [v]) σ2 H4 else ∃ m', m' < m /\ W (i + 1) m' ys σ2 H3) := by
 refine ⟨fun i m ys σc H => m = xs.length - i /\ i <= xs.length /\ Pv i ys σc H, ⟨_, rfl, Nat.zero_le _, h0⟩, ?_⟩
 rintro i m ys σc H ⟨rfl, hi, p⟩
 have q := hl i ys σc H p
 by_cases hlt : i < xs.length
 ·have hx : xs[i]? = some xs[i] := List.getElem?_eq_getElem hlt
  obtain ⟨z, _⟩ := hs i _ ys σc H hx hlt p
  refine .inr ⟨⟨xs, xs[i], q, hx⟩, z, fun v H' y => ?_⟩
  obtain ⟨e, y⟩ := y
  subst e
  exact (hs i v ys σc _ (y xs q) hlt p).2
 ·have e : i = xs.length := by omega
  subst e
  exact .inl ⟨⟨xs, q, Nat.le_refl _⟩, hd ys σc H p⟩
end
theorem Z25 {X : Cx} {K : PySem.W.Frag} (hK : X.K = K) : Z34 X (.builtin "isinstance") (fun xs H Q => ∃ x T ty b, xs = [x, .ty T] /\ TyOf K H x ty /\ PySem.W.kitOne K ty (.type T) = some b /\ Q (.bl b) H) := by
 subst hK
 exact Z14
theorem Zgf {X : Cx} {e st : Expr} {te ts : TE} {pos p2 : Pos} (he : PE X e te) (hst : PE X st ts) : PE X (.Subscript e (.Slice none none (some st) p2) pos)
  (fun σ H Q => te σ H fun x H1 => ts σ H1 fun y H2 => y = .int (-1) /\ ∃ a xs, x = .ref a /\ SqL X.K H2 a xs /\ ∀ p, H2 p = none -> Q (.ref p) (upd H2 p (.lst xs.reverse))) := by
 intro pins s σ H Q I h
 refine Subscript_ (thn (he pins s σ H _ I h) fun v s1 ⟨x, H1, I1, r1, q1⟩ => ?_)
 refine wpAny_Slice ?_
 rw [evalPart_none]
 refine wpAny_pure (wpAny_pure ?_)
 rw [evalPart_some]
 refine thn (hst pins s1 σ H1 _ I1 q1) fun vs s3 ⟨y, H3, I3, ry, ey, a, xs, ex, hx, q⟩ => ?_
 subst ey ex
 cases r1
 obtain ⟨t, rfl⟩ := ry
 have I4 : Inv X pins σ H3 { s3 with heap := s3.heap.push { cls := .type "slice", data := .fields #[.none, .none, .int (-1) t] } } := I3.kept (t' := s3.toks) fun b ob q => Heap.get?_push_of_some _ q
 obtain ⟨its, r, ht, hz⟩ := I4.list hx
 have hlen := r.length
 refine tail_any (ops := [.ref a, .ref s3.heap.objs.size]) ht.isList.typeIs slot_list_getitem.lookup (wpAny_getItem_list_slice ht.isList (Heap.IsSliceOf.new ..) .none .none (.int (-1) t) (by simp) ?_ (by rw [List.size_toArray] <;> omega)) (by with_unfolding_all rfl)
 rw [PySem.W.krv_pick]
 refine ⟨.ref _, _, I4.laid (t' := s3.toks) (o := .lst xs.reverse) (fun b ob q => Heap.get?_push_of_some _ q) (Nat.le_refl _) ?_, rfl, q _ (I4.hok.fresh (Nat.le_refl _))⟩
 exact ⟨by rw [List.length_reverse]; exact hz, its.reverse, 0, r.reverse, by
  rw [show (its.toArray.toList.reverse).toArray = its.reverse.toArray by simp]
  exact Heap.get?_push_size _ rfl⟩
theorem Z2z {α : Type} {l : List α} {i : Nat} {c : α} (p : α -> Bool) (h : l[i]? = some c) : (l.take (i + 1)).filter p = (l.take i).filter p ++ (if p c = true then [c] else []) := by
 rw [List.take_add_one, h, List.filter_append]
 cases hp : p c <;> simp [hp]
section
variable {X : Cx} {K : PySem.W.Frag}
theorem Z6s (hK : X.K = K) : IxR X (Zlf K) := by subst hK; exact Z23
end
section
variable {X : Cx}
end
section
variable {X : Cx} {pins : List (Addr × Obj)} {σ : St} {H : Hp} {s : Shared}
end
section
variable {X : Cx}
end
end L2
namespace L2
open PySem PySem.Spec PyProof.Rows PySem.Builtin PySem.Builtin.Str
theorem Zh8 {n : Nat} {j : Int} (h : (n : Int) <= j) : (strSliceIndices none (some j) 1 n).length = n := by
 unfold strSliceIndices sliceRange
 simp only [show (1 : Int) > 0 by decide, if_true, List.length_map, List.length_range]
 split <;> (try split) <;> (try split) <;> (try simp only [Int.ediv_one]) <;> omega
theorem Zh9 {x : Str} {j : Int} (hx : 0 < x.length) (hj : 1 <= j) : 0 < (Txt.slice x none (some j)).length := by
 have hl : x.cps.toList.length = x.length := by simp [Str.length]
 by_cases h : j <= x.length
 ·have e := beq_iff_eq.mp (slice_closes_to (x := x) (j := j) ⟨by omega, by rw [hl]; exact h⟩)
  rw [e]
  show 0 < (List.toArray _).size
  rw [List.size_toArray, List.length_take, List.length_drop, hl]
  omega
 ·have e : Txt.slice x none (some j) = x := by
   unfold Txt.slice
   rw [Zh8 (show ((x.length : Nat) : Int) <= j by omega)]
   simp
  rw [e]; exact hx
theorem Zgg {x : Str} {j : Int} (hj : 0 <= j) : ((Txt.slice x none (some j)).length : Int) <= j := by
 have hl : x.cps.toList.length = x.length := by simp [Str.length]
 by_cases h : j <= x.length
 ·have e := beq_iff_eq.mp (slice_closes_to (x := x) (j := j) ⟨hj, by rw [hl]; exact h⟩)
  rw [e]
  show (((List.toArray _).size : Nat) : Int) <= j
  rw [List.size_toArray, List.length_take, List.length_drop, hl]
  omega
 ·have := Txt.slice_le x none (some j)
  omega
theorem Zez {x : Str} {i : Int} (h0 : 0 <= i) (h : i <= x.length) : ((Txt.slice x (some i) none).length : Int) = x.length - i := by
 have hl : x.cps.toList.length = x.length := by simp [Str.length]
 rw [slice_from_eq h0 h rfl]
 show (((List.toArray _).size : Nat) : Int) = _
 rw [List.size_toArray, List.length_take, List.length_drop, hl]
 omega
end L2
namespace L2
open PySem PySem.Spec PyProof.Rows
def Zf0 : Expr -> Option (List V)
 | .List es _ => es.mapM Z53
 | _ => none
theorem Zf1 : ∀ {es : List Expr} {vs : List V}, es.mapM Z53 = some vs -> es.map Z53 = vs.map some := by
 intro es
 induction es with
 | nil =>
  intro vs h
  rw [List.mapM_nil] at h
  have : vs = [] := (Option.some.inj h).symm
  subst this
  rfl
 | cons e es ih =>
  intro vs h
  rw [List.mapM_cons] at h
  cases he : Z53 e with
  | none => rw [he] at h; cases h
  | some v =>
   cases hr : es.mapM Z53 with
   | none => rw [he, hr] at h; cases h
   | some r =>
    rw [he, hr] at h
    have : vs = v :: r := (Option.some.inj h).symm
    subst this
    rw [List.map_cons, List.map_cons, he, ih hr]
theorem Z2s {X : Cx} {e : Expr} {vs : List V} (h : Zf0 e = some vs) : PE X e (Zkh (fun _ H Q => Q vs H)) := by
 cases e with
 | List es p => exact Z18 (Z7w (Zf1 h))
 | _ => cases h
theorem Z7x {X : Cx} {st : Stmt} {i : Nat} {x : Str} {vs : List V} {idx : Expr} {tb : TE} (hN : X.N.Nodup) (hi : X.N[i]? = some x) (hx : Loc X.env.scope x)
  (hst : ∃ p' es p1 p2 p3, st = .Assign [.Name x p'] (.Subscript (.List es p1) idx p2) p3 /\ es.mapM Z53 = some vs) (hb : PE X idx tb) (hs : Zcb idx)
  (hf : X.fn x = true ∨ X.env.scope.names.lookup x = some .local) : PS X st (Ziy (tOp (Zle X.K) (Zkh (fun _ H Q => Q vs H)) tb) (Z8r i)) := by
 obtain ⟨p', es, p1, p2, p3, e, h⟩ := hst
 subst e
 exact Z0j hN hi hx (Z15 Z1a (Z2s (e := .List es p1) h) hb hs) rfl hf
section
variable {X : Cx} {CX : CXT} {k : Nat} {E : XK} {x : Str} {p pos : Pos} {e : Expr} {es : List Expr} {tf : TE} {t : TA} {Pf : Addr -> Prop} {sp : Addr -> Sp}
end
inductive Th where
 | at (v : V)
 | tup (xs : List Th)
 | lst (xs : List Th)
def Z54 : V -> Bool
 | .str x => decide (x.length <= 1000)
 | v => Z3k v
mutual
inductive IsTh (H : Hp) : V -> Th -> Prop where
 | at {v : V} (f : Z54 v = true) : IsTh H v (.at v)
 | tup {a : Addr} {vs : List V} {ts : List Th} (h : H a = some (.tup vs)) (r : IsThs H vs ts) : IsTh H (.ref a) (.tup ts)
 | lst {a : Addr} {vs : List V} {ts : List Th} (h : H a = some (.lst vs)) (r : IsThs H vs ts) : IsTh H (.ref a) (.lst ts)
inductive IsThs (H : Hp) : List V -> List Th -> Prop where
 | nil : IsThs H [] []
 | cons {v : V} {vs : List V} {t : Th} {ts : List Th} (h : IsTh H v t) (r : IsThs H vs ts) : IsThs H (v :: vs) (t :: ts)
end
def Kp (H H' : Hp) : Prop := ∀ a o, H a = some o -> (∀ kvs, o ≠ .dK kvs) -> H' a = some o
theorem Kp.trans {H H1 H2 : Hp} (a : Kp H H1) (b : Kp H1 H2) : Kp H H2 := fun c o e n => b c o (a c o e n) n
theorem Kp.of {H H1 : Hp} (a : Same H H1) : Kp H H1 := fun c o e _ => a c o e
mutual
theorem IsTh.kp {H H' : Hp} (k : Kp H H') : ∀ {v : V} {t : Th}, IsTh H v t -> IsTh H' v t
 | _, _, .at f => .at f
 | _, _, .tup h r => .tup (k _ _ h (fun _ z => by cases z)) (IsThs.kp k r)
 | _, _, .lst h r => .lst (k _ _ h (fun _ z => by cases z)) (IsThs.kp k r)
theorem IsThs.kp {H H' : Hp} (k : Kp H H') : ∀ {vs : List V} {ts : List Th}, IsThs H vs ts -> IsThs H' vs ts
 | _, _, .nil => .nil
 | _, _, .cons h r => .cons (IsTh.kp k h) (IsThs.kp k r)
end
theorem IsThs.len {H : Hp} : ∀ (vs : List V) {ts : List Th}, IsThs H vs ts -> vs.length = ts.length := by
 intro vs
 induction vs with
 | nil => intro ts h; cases h; rfl
 | cons v vs ih =>
  intro ts h
  cases h with
  | cons a b => rw [List.length_cons, List.length_cons, ih b]
theorem IsThs.app {H : Hp} : ∀ (vs : List V) {ws : List V} {ts us : List Th}, IsThs H vs ts -> IsThs H ws us -> IsThs H (vs ++ ws) (ts ++ us) := by
 intro vs
 induction vs with
 | nil => intro ws ts us h g; cases h; exact g
 | cons v vs ih =>
  intro ws ts us h g
  cases h with
  | cons a b => exact .cons a (ih b g)
section
variable {X : Cx} {o e f : Expr} {apos cpos : Pos} {td ty tx : TE}
end
section
variable {X : Cx}
theorem Zha {c : TT} {tb : TS} {D : Ends} {σ : St} {H : Hp} (Pv : Nat -> St -> Hp -> Prop) (m0 : Nat) (h0 : Pv m0 σ H)
  (hs : ∀ m σ H, Pv m σ H -> c σ H fun b H1 => if b = true then tb { D with nx := fun σ' H' => ∃ m', m' < m /\ Pv m' σ' H', ct := fun σ' H' => ∃ m', m' < m /\ Pv m' σ' H', bk := D.nx } σ H1 else D.nx σ H1)
  (mono : ∀ σ H Q Q', (∀ b H1, Q b H1 -> Q' b H1) -> c σ H Q -> c σ H Q') : Zby c tb D σ H := by
 refine ⟨Pv, ⟨m0, h0⟩, ?_⟩
 intro m σ H p
 refine mono σ H _ _ (fun b H1 q => ?_) (hs m σ H p)
 cases b with
 | true => exact ⟨_, fun σ' H' z => z, q⟩
 | false => exact q
end
end L2
namespace L2
open PySem PySem.Spec PyProof.Rows PySem.Builtin PySem.Builtin.Str
end L2
namespace L2
open PySem PySem.Spec PyProof.Rows
section
variable {X : Cx}
end
end L2
namespace HT
open PySem PySem.Spec PyProof.Rows
section
variable {prog : Program} {w : World} {A : Around} {E : Value -> Shared -> Prop} {s : Shared}
theorem getItem_tuple_all {t sl : Addr} {items : Array Value} {vl vu : Value} {lo hi : Option Int} {Q : Value -> Shared -> Prop} (ht : IsTup s.heap t items) (hs : s.heap.IsSliceOf sl vl vu .none) (pl : IsPart vl lo) (pu : IsPart vu hi)
  (hw : sIx items.size 0 lo = 0 /\ sIx items.size items.size hi = items.size) (h : Q (.ref t) s) : wpAny (model prog w) A (getItem (.ref t) (.ref sl)) Q E s := by
 obtain ⟨os, hos, hcs, hds⟩ := id hs
 have hTs : s.TypeIs (.ref sl) "slice" := ⟨os, hos, hcs⟩
 unfold getItem
 try with_reducible refine wpAny_holding ?_
 first | refine wpAny_bind (wpAny_pure ?_) | skip
 refine wpAny_bind (wpAny_sequenceKey ht.typeIs (by decide) ?_)
 refine wpAny_bind (wpAny_callSpecial?_slot (name := Str.ofString "__getitem__") ht.typeIs PyProof.Rows.slot_tuple_getitem
  (wpAny_call_entry PyProof.Rows.slot_tuple_getitem ht.typeIs entry_tuple_getitem ?_ (args_tuple_getitem _ _)))
 show wpAny _ _ (Builtin.Tuple.tupleItemsOf (.ref t) >>= _) _ _ s
 refine wpAny_bind (tupleItemsOf_ ht ?_)
 refine wpAny_bind (wpAny_typeOf hTs ?_)
 rw [if_pos (by decide)]
 refine wpAny_bind (Z2m hs pl pu ?_)
 have hno : ((((sIx items.size 0 lo : Nat) : Int) == 0 && (1 : Int) == 1 && (sIx items.size items.size hi - sIx items.size 0 lo) == items.size) = true) := by
  rw [hw.1, hw.2]; simp
 show wpAny _ _ (if (((sIx items.size 0 lo : Nat) : Int) == 0 && (1 : Int) == 1 && (sIx items.size items.size hi - sIx items.size 0 lo) == items.size) = true then _ else _) _ _ s
 rw [if_pos hno]
 refine wpAny_bind (m := Builtin.Tuple.tupleIsExact _) (wpAny_bind (wpAny_typeOf ht.typeIs (wpAny_pure ?_)))
 rw [if_pos (by decide)]
 refine wpAny_bind (wpAny_rule ?_)
 exact wpAny_pure ⟨_, rfl, wpAny_pure h⟩
end
end HT
namespace L2
open PySem PySem.Spec PyProof.Rows
section
variable {X : Cx}
theorem Zf2 {xs : List V} {lo hi : Option Int} (h : HT.sIx xs.length 0 lo = 0 /\ HT.sIx xs.length xs.length hi = xs.length) : Z5r xs lo hi = xs := by
 unfold Z5r
 rw [h.1, h.2, List.drop_zero, Nat.sub_zero, List.take_of_length_le (Nat.le_refl _)]
theorem Zf3 (hc : X.calm = true) : Z34 X (.builtin "sum") (fun xs H Q => ∃ (a : Addr) (ns : List Int), xs = [.ref a] /\ SqL X.K H a (ns.map V.int) /\ Q (.int ns.sum) H) := by
 intro pins s σ H xs us Q I r h
 obtain ⟨a, ns, rfl, ha, q⟩ := h
 obtain ⟨u, rfl, ru⟩ := Z8t r
 cases ru
 obtain ⟨its, r1, pl, hz⟩ := I.list ha
 have hi := Zav r1
 obtain ⟨ys, hys⟩ := hi.allInts.items
 have e1 : (intItems ys).toList = its := by rw [<- hys]
 have e2 : preSum (numAt ys) ys.size = ns.sum := by
  rw [preSum_eq, List.take_of_length_le (by simp), <- nums_intItems, e1, hi.numsOf]
 refine sum_intListG (I.ok.hd hc) (hys ▸ pl.isList) fun h' tk t' hk => ?_
 rw [e2]
 exact ⟨.int ns.sum, H, I.kept hk, ⟨_, rfl⟩, q⟩
end
section
variable {X : Cx}
def rSlP : V -> Option Int -> Option Int -> Hp -> VK -> Prop := fun x lo hi H Q => ∃ a xs, x = .ref a /\ H a = some (.tup xs) /\ ∀ p H', Same H H' -> H' p = some (.tup (Z5r xs lo hi)) -> Q (.ref p) H'
theorem Zcp : SlR X rSlP := by
 intro pins s σ H x v vl vu lo hi sl Q I rx hs pl pu h
 obtain ⟨a, xs, rfl, hx, q⟩ := h
 by_cases hw : HT.sIx xs.length 0 lo = 0 /\ HT.sIx xs.length xs.length hi = xs.length
 ·cases rx
  obtain ⟨its, r, ht, hz⟩ := I.tuple (SqT.of hx)
  have hlen : its.toArray.size = xs.length := by rw [List.size_toArray]; exact r.length.symm
  refine ⟨"tuple", _, PyProof.Rows.slot_tuple_getitem.lookup, ht.typeIs, ?_⟩
  refine HT.getItem_tuple_all ht hs pl pu (by rw [hlen]; exact hw) ?_
  exact ⟨.ref a, H, I, rfl, q a H (Same.refl H) (by rw [Zf2 hw]; exact hx)⟩
 ·exact Zj4 pins s σ H (.ref a) v vl vu lo hi sl Q I rx hs pl pu ⟨a, xs, rfl, SqT.of hx, hw, fun p hp => q p _ (Z02 hp) Z01⟩
def rCatP : R2 := fun x y H Q => ∃ a b xs ys, x = .ref a /\ y = .ref b /\ H a = some (.tup xs) /\ H b = some (.tup ys) /\ xs.length + ys.length <= sizeLine ∧
 ∀ p H', Same H H' -> H' p = some (.tup (xs ++ ys)) -> Q (.ref p) H'
theorem Z8y : OpR X (binaryOp .Add) rCatP := by
 intro pins s σ H x y v u Q I rx ry h
 obtain ⟨a, b, xs, ys, rfl, rfl, ha, hb, hz, q⟩ := h
 by_cases hx : xs = []
 ·subst hx
  cases rx
  cases ry
  obtain ⟨its, r1, p1, _⟩ := I.tuple (SqT.of ha)
  obtain ⟨its2, r2, p2, _⟩ := I.tuple (SqT.of hb)
  cases r1
  obtain ⟨⟨cls, dd, data, sl⟩, ho, hc, n, hd⟩ := id p1
  obtain ⟨⟨cls2, dd2, data2, sl2⟩, ho2, hc2, n2, hd2⟩ := id p2
  simp only at hc hd hc2 hd2
  subst hc hd hc2 hd2
  exact concat_meets ⟨_, ho, rfl⟩ ⟨_, ho2, rfl⟩ noFill_tuple_add seq_tuple_add PySem.F.slot_tuple_add PySem.F.entry_tuple_add (PySem.F.args_tuple_add_2 _ _)
   (tuple_addW0 a b _ _ n n2 dd dd2 sl sl2 (by simp)) ⟨ho, ho2, ⟨.ref b, H, I, rfl, q b H (Same.refl H) hb⟩⟩
 ·refine Zh3 pins s σ H (.ref a) (.ref b) v u Q I rx ry ⟨a, b, xs, ys, rfl, rfl, SqT.of ha, SqT.of hb, hx, hz, fun hy => ?_, fun hy p hp => ?_⟩
  ·subst hy
   exact q a H (Same.refl H) (by rw [List.append_nil]; exact ha)
  ·exact q p _ (Z02 hp) Z01
end
section
variable {X : Cx} {pins : List (Addr × Obj)} {σ : St} {H H1 : Hp} {s s1 : Shared}
end
section
variable {X : Cx} {CX : CXT} {k : Nat} {f : Addr} {fd : FuncData} {ps : List Str} {sp : Sp} {E : XK} {x : Str} {p pos : Pos} {e : Expr} {es : List Expr} {t : TA} {ds : List Value} {dvs : List V}
end
section
variable {X : Cx}
end
section
variable {X : Cx}
end
section
variable {X : Cx} {pins : List (Addr × Obj)} {σ : St} {H : Hp} {s : Shared} {h' : Heap}
end
end L2
namespace L2
open PySem PySem.Spec PyProof.Rows PySem.Builtin PySem.AutoSeq1
section
variable {P : Program} {w : World} {B : Around} {G : Value -> Shared -> Prop} {z : Shared}
end
end L2
namespace L2
open PySem PySem.Spec PyProof.Rows
section
variable {X : Cx}
end
section
variable {X : Cx}
end
section
variable {X : Cx}
end
def isTup : Th -> Bool
 | .tup _ => true
 | _ => false
def Zk6 : Th -> String
 | .at .non => "NoneType"
 | .at (.bl _) => "bool"
 | .at (.int _) => "int"
 | .at (.str _) => "str"
 | .tup _ => "tuple"
 | .lst _ => "list"
 | _ => ""
def Zkt : Th -> Bool
 | .at (.bl _) => true
 | _ => false
def Zjb : Th -> Bool
 | .at (.int _) => true
 | .at (.bl _) => true
 | _ => false
theorem Z4d {K : PySem.W.Frag} {H : Hp} {v : V} {t : Th} (h : IsTh H v t) : TyOf K H v (.type (Zk6 t)) := by
 cases h with
 | «at» f =>
  cases v with
  | non => exact .non
  | bl b => exact .bl b
  | int i => exact .int i
  | str x => exact .str x
  | _ => exact absurd (show false = true from f) Bool.false_ne_true
 | tup e r => exact .tup e
 | lst e r => exact .lst e
structure Kits (K : PySem.W.Frag) : Prop where
 int : ∀ {H : Hp} {v : V} {t : Th}, IsTh H v t -> PySem.W.kitOne K (.type (Zk6 t)) (.type "int") = some (Zjb t)
 bl : ∀ {H : Hp} {v : V} {t : Th}, IsTh H v t -> PySem.W.kitOne K (.type (Zk6 t)) (.type "bool") = some (Zkt t)
 tup : ∀ {H : Hp} {v : V} {t : Th}, IsTh H v t -> PySem.W.kitOne K (.type (Zk6 t)) (.type "tuple") = some (isTup t)
theorem Z1i {H : Hp} : ∀ (vs : List V) {ts : List Th} {i : Nat} {v : V}, IsThs H vs ts -> vs[i]? = some v -> ∃ t, ts[i]? = some t /\ IsTh H v t := by
 intro vs
 induction vs with
 | nil => intro ts i v h e; cases e
 | cons u vs ih =>
  intro ts i v h e
  cases h with
  | cons a b =>
   cases i with
   | zero =>
    have e' : u = v := by simpa using e
    subst e'
    exact ⟨_, rfl, a⟩
   | succ i =>
    rw [List.getElem?_cons_succ] at e
    obtain ⟨t, e1, e2⟩ := ih b e
    exact ⟨t, by rw [List.getElem?_cons_succ]; exact e1, e2⟩
theorem Zcq {H : Hp} : ∀ (vs : List V) {ts : List Th} {i : Nat} {t : Th}, IsThs H vs ts -> ts[i]? = some t -> ∃ v, vs[i]? = some v /\ IsTh H v t := by
 intro vs
 induction vs with
 | nil => intro ts i t h e; cases h; simp at e
 | cons v vs ih =>
  intro ts i t h e
  cases h with
  | cons a b =>
   cases i with
   | zero => simp at e; subst e; exact ⟨v, rfl, a⟩
   | succ i => simp at e; obtain ⟨w, e1, e2⟩ := ih b e; exact ⟨w, by simpa using e1, e2⟩
theorem Z1q {H : Hp} {v : V} {ts : List Th} (h : IsTh H v (.tup ts)) : ∃ a vs, v = .ref a /\ H a = some (.tup vs) /\ IsThs H vs ts := by
 cases h with
 | tup e r => exact ⟨_, _, rfl, e, r⟩
theorem Z3d {H : Hp} {v w : V} (h : IsTh H v (.at w)) : v = w /\ Z54 w = true := by
 cases h with
 | «at» f => exact ⟨rfl, f⟩
theorem Zf4 {H : Hp} : ∀ (ws : List V) {us : List Th}, IsThs H ws us -> ws ≠ [] -> ∃ ws' y us' u, ws = ws' ++ [y] /\ us = us' ++ [u] /\ IsThs H ws' us' /\ IsTh H y u := by
 intro ws
 induction ws with
 | nil => intro us h n; exact absurd rfl n
 | cons v vs ih =>
  intro us h _
  cases h with
  | @cons _ _ t ts a b =>
   cases vs with
   | nil => cases b; exact ⟨[], v, [], t, rfl, rfl, .nil, a⟩
   | cons v2 vs2 =>
    obtain ⟨ws', y, us', u, e1, e2, h1, h2⟩ := ih b (by intro z; cases z)
    exact ⟨v :: ws', y, t :: us', u, by rw [e1]; rfl, by rw [e2]; rfl, .cons a h1, h2⟩
theorem Zcr {H : Hp} : ∀ (vs : List V) {ts : List Th}, IsThs H vs ts -> IsThs H vs.reverse ts.reverse := by
 intro vs
 induction vs with
 | nil => intro ts h; cases h; exact .nil
 | cons v vs ih =>
  intro ts h
  cases h with
  | cons a b =>
   rw [List.reverse_cons, List.reverse_cons]
   exact IsThs.app _ (ih b) (.cons a .nil)
mutual
def Th.sz : Th -> Nat
 | .at _ => 1
 | .tup xs => 1 + szs xs
 | .lst xs => 1 + szs xs
def szs : List Th -> Nat
 | [] => 0
 | x :: xs => Th.sz x + szs xs
end
theorem Zjc (t : Th) : 1 <= Th.sz t := by
 cases t with
 | «at» v => simp [Th.sz]
 | tup xs => simp [Th.sz]
 | lst xs => simp [Th.sz]
theorem Zhb : ∀ us ws : List Th, szs (us ++ ws) = szs us + szs ws := by
 intro us
 induction us with
 | nil => intro ws; simp [szs]
 | cons u us ih => intro ws; rw [List.cons_append, szs, szs, ih]; omega
theorem Z8z : ∀ ts : List Th, ts.length <= szs ts := by
 intro ts
 induction ts with
 | nil => simp [szs]
 | cons t ts ih => have := Zjc t; rw [List.length_cons, szs]; omega
theorem Zgh : ∀ (ts : List Th) (t : Th), t ∈ ts -> Th.sz t <= szs ts := by
 intro ts
 induction ts with
 | nil => intro t h; cases h
 | cons u ts ih =>
  intro t h
  rw [szs]
  rcases List.mem_cons.mp h with z | z
  ·subst z; omega
  ·have := ih t z; omega
def Z1b (ts : List Th) : List Th := ts.filter isTup
def OkT : Nat -> Th -> Prop
 | 0, _ => False
 | n + 1, t => ∃ (w : Str) (ts : List Th), t = .tup (.at (.str w) :: ts) /\ (w = "let" -> (Z1b ts).length = 2) /\ ∀ x ∈ ts, isTup x = true -> OkT n x
theorem OkT.up : ∀ (n : Nat) {t : Th}, OkT n t -> OkT (n + 1) t := by
 intro n
 induction n with
 | zero => intro t h; exact h.elim
 | succ n ih =>
  intro t h
  obtain ⟨w, ts, e, h1, h2⟩ := h
  exact ⟨w, ts, e, h1, fun x hx hx2 => ih (h2 x hx hx2)⟩
theorem Z2t {H H' : Hp} {p : Addr} (s : Same H H') (h : H' p = none) : H p = none := by
 cases e : H p with
 | none => rfl
 | some o => rw [s p o e] at h; cases h
theorem Zku (x : V) (xs : List V) : Z5r (x :: xs) (some 1) none = xs := by
 have e1 : HT.sIx (x :: xs).length 0 (some 1) = min 1 (x :: xs).length := rfl
 have e2 : HT.sIx (x :: xs).length (x :: xs).length none = (x :: xs).length := rfl
 unfold Z5r
 rw [e1, e2, List.length_cons]
 have e3 : min 1 (xs.length + 1) = 1 := by omega
 rw [e3]
 show List.take (xs.length + 1 - 1) xs = xs
 exact List.take_of_length_le (by omega)
end L2
namespace L2
open PySem
def Z3p (xs : List Th) : Bool := match xs with
 | .at (.str w) :: _ => decide (w = "let")
 | _ => false
def Z3q (l : Bool) (me : Th) : Nat -> List (Str × Th)
 | 0 => if l = true then [(("opened" : Str), me)] else []
 | 1 => if l = true then [(("closed" : Str), me)] else []
 | _ => []
mutual
def Z0u : Th -> List (Str × Th)
 | .tup xs => (("node" : Str), Th.tup xs) :: Z20 (Z3p xs) (.tup xs) 0 xs
 | .at _ => []
 | .lst _ => []
def Z20 (l : Bool) (me : Th) : Nat -> List Th -> List (Str × Th)
 | _, [] => []
 | i, x :: xs => if isTup x = true then Z0u x ++ (Z3q l me i ++ Z20 l me (i + 1) xs) else Z20 l me i xs
end
def Z55 (l : Bool) (me : Th) : Nat -> List Th -> List (Str × Th)
 | _, [] => []
 | i, k :: ks => Z0u k ++ (Z3q l me i ++ Z55 l me (i + 1) ks)
theorem Z69 (l : Bool) (me : Th) : ∀ (xs : List Th) (i : Nat), Z20 l me i xs = Z55 l me i (Z1b xs) := by
 intro xs
 induction xs with
 | nil => intro i; simp [Z20, Z55, Z1b]
 | cons x xs ih =>
  intro i
  rw [Z20]
  unfold Z1b
  rw [List.filter_cons]
  split
  ·rw [Z55, ih]; rfl
  ·rw [ih]; rfl
theorem Z7y (me : Th) : ∀ (ks : List Th) (i : Nat), Z55 false me i ks = (ks.map Z0u).flatten := by
 intro ks
 induction ks with
 | nil => intro i; rfl
 | cons k ks ih =>
  intro i
  have e : Z3q false me i = [] := by
   match i with
   | 0 => rfl
   | 1 => rfl
   | _ + 2 => rfl
  rw [Z55, ih, e, List.map_cons, List.flatten_cons, List.nil_append]
theorem Z90 {xs : List Th} (h : Z3p xs = false) : Z0u (.tup xs) = (("node" : Str), Th.tup xs) :: ((Z1b xs).map Z0u).flatten := by
 rw [Z0u, Z69, h, Z7y]
theorem Zcs {xs : List Th} {k1 k2 : Th} (h : Z3p xs = true) (hk : Z1b xs = [k1, k2]) : Z0u (.tup xs) = (("node" : Str), Th.tup xs) :: (Z0u k1 ++ ((("opened" : Str), Th.tup xs) :: (Z0u k2 ++ [(("closed" : Str), Th.tup xs)]))) := by
 rw [Z0u, Z69, h, hk]
 simp [Z55, Z3q]
def Z4e (p : Str × Th) : List (Str × Th) := if p.1 = "node" then Z0u p.2 else [p]
def Z1s (st : List (Str × Th)) : List (Str × Th) := (st.reverse.map Z4e).flatten
theorem Z3r (st : List (Str × Th)) (x : Str × Th) : Z1s (st ++ [x]) = Z4e x ++ Z1s st := by
 unfold Z1s; simp
theorem Z9r (st r : List (Str × Th)) : Z1s (st ++ r.reverse) = (r.map Z4e).flatten ++ Z1s st := by
 unfold Z1s; simp
theorem Z30 (t : Th) : Z4e (("node" : Str), t) = Z0u t := by unfold Z4e; simp
theorem Zaz (t : Th) : Z4e (("opened" : Str), t) = [(("opened" : Str), t)] := by
 unfold Z4e; rw [if_neg (by show ¬ (("opened" : Str) = "node"); decide +kernel)]
theorem Z91 (t : Th) : Z4e (("closed" : Str), t) = [(("closed" : Str), t)] := by
 unfold Z4e; rw [if_neg (by show ¬ (("closed" : Str) = "node"); decide +kernel)]
theorem Zb0 {st : List (Str × Th)} {xs : List Th} (h : Z3p xs = false) : Z1s (st ++ [(("node" : Str), Th.tup xs)]) = (("node" : Str), Th.tup xs) :: Z1s (st ++ ((Z1b xs).map fun k => (("node" : Str), k)).reverse) := by
 rw [Z3r, Z9r, Z30, Z90 h, List.map_map]
 show _ :: (_ ++ _) = _ :: (_ ++ _)
 congr 2
theorem Zf5 {st : List (Str × Th)} {xs : List Th} {k1 k2 : Th} (h : Z3p xs = true) (hk : Z1b xs = [k1, k2]) :
  Z1s (st ++ [(("node" : Str), Th.tup xs)]) = (("node" : Str), Th.tup xs) :: Z1s (st ++ ([(("node" : Str), k1), (("opened" : Str), Th.tup xs), (("node" : Str), k2), (("closed" : Str), Th.tup xs)] : List (Str × Th)).reverse) := by
 rw [Z3r, Z9r, Z30, Zcs h hk]
 simp [Z30, Zaz, Z91]
def pr (p : Str × Th) : Th := .tup [.at (.str p.1), p.2]
mutual
def cnt : Th -> Nat
 | .tup xs => 1 + Z3s xs
 | .at _ => 0
 | .lst _ => 0
def Z3s : List Th -> Nat
 | [] => 0
 | x :: xs => cnt x + Z3s xs
end
mutual
def dp : Th -> Nat
 | .tup xs => 1 + dps xs
 | .at _ => 0
 | .lst _ => 0
def dps : List Th -> Nat
 | [] => 0
 | x :: xs => max (dp x) (dps xs)
end
theorem Zhc (t : Th) (h : isTup t = false) : cnt t = 0 := by
 cases t with
 | «at» v => simp [cnt]
 | lst xs => simp [cnt]
 | tup xs => cases h
theorem Zct : ∀ xs : List Th, Z3s xs = Z3s (Z1b xs) := by
 intro xs
 induction xs with
 | nil => rfl
 | cons x xs ih =>
  unfold Z1b
  rw [Z3s, List.filter_cons]
  split
  ·rw [Z3s, ih]; rfl
  ·rw [Zhc x (by simp_all), Nat.zero_add, ih]; rfl
def Z0w (l : List (Str × Th)) : List (Str × Th) := l.filter fun p => decide (p.1 = "node")
theorem Zb1 (l : Bool) (me : Th) (i : Nat) : Z0w (Z3q l me i) = [] := by
 have e1 : decide (("opened" : Str) = "node") = false := by decide +kernel
 have e2 : decide (("closed" : Str) = "node") = false := by decide +kernel
 match i with
 | 0 => cases l <;> simp [Z0w, Z3q, e1]
 | 1 => cases l <;> simp [Z0w, Z3q, e2]
 | _ + 2 => rfl
end L2
namespace L2
open PySem PySem.Spec PyProof.Rows
section
variable {K : PySem.W.Frag} {a : Addr} {xs : List V} {σ0 : St} {H : Hp} {g : TG} {tt : TT} {te : TE} {Q : List V -> Hp -> Prop}
end
end L2
namespace Srt
open PySem PyProof.Rows
def gal : Bool -> Keyed -> Array Keyed -> Nat -> Nat -> Nat -> StateT SortSt Sem (Option Nat) := sortPriv% PySem.Builtin.gallop
def mLo : Array Keyed -> Array Keyed -> StateT SortSt Sem (Array Keyed) := sortPriv% PySem.Builtin.mergeLo
def mHi : Array Keyed -> Array Keyed -> StateT SortSt Sem (Array Keyed) := sortPriv% PySem.Builtin.mergeHi
section
variable {prog : Program} {w : World} {A : Around} {E : Value -> Shared -> Prop} {s : Shared}
theorem Z27 {xs : Array Keyed} (h : IntKeys xs) {i : Nat} (hi : i < xs.size) : ∃ t q, xs[i]? = some (.int (K xs i) t, q) := by
 have e : xs[i]? = some xs[i] := getElem?_pos _ i hi
 obtain ⟨n, t, hn⟩ := h xs[i] (by simp)
 refine ⟨t, xs[i].2, ?_⟩
 have e2 : xs[i] = (.int n t, xs[i].2) := Prod.ext hn rfl
 unfold K
 rw [e, e2]
 rfl
theorem Z08 {xs : Array Keyed} {i : Nat} {p : Keyed} {st : SortSt} {Q : Keyed -> SortSt -> Prop} (h : xs[i]? = some p) (q : Q p st) : wpS (model prog w) A E s (elem' xs i) Q st := by
 rw [elem'_eq, h]
 exact wpS_pure q
theorem Z9s {a b : Int} {t u : Tok} {p q : Value} {st : SortSt} {Q : Option Bool -> SortSt -> Prop} (hk : kindOf st = oneType') (h : Q (some (decide (a < b))) st) :
  wpS (model prog w) A E s (lt' (.int a t, p) (.int b u, q)) Q st := by
 rw [lt'_eq]
 refine wpS_bind (wpS_get ?_)
 rw [hk, keyLt'_oneType]
 refine wpS_bind (wpS_lift (wpAny_attempt (oneLt_int ⟨rfl, ?_⟩)))
 exact wpS_pure h
def byd (left : Bool) (x y : Int) : Bool := bif left then decide (y < x) else !decide (x < y)
theorem Z56 {left : Bool} {x : Int} {tk : Tok} {q : Value} {arr : Array Keyed} {j : Nat} {st : SortSt} {Q : Option Bool -> SortSt -> Prop} (hI : IntKeys arr) (hj : j < arr.size) (hk : kindOf st = oneType')
  (h : Q (some (byd left x (K arr j))) st) : wpS (model prog w) A E s (elem' arr j >>= fun y => if left = true then lt' y (.int x tk, q) else (lt' (.int x tk, q) y >>= fun r => pure (r.map (!·)))) Q st := by
 obtain ⟨t, z, e⟩ := Z27 hI hj
 refine wpS_bind (Z08 e ?_)
 cases left with
 | true => exact Z9s hk h
 | false => exact wpS_bind (Z9s hk (wpS_pure h))
theorem Z1k {left : Bool} {x : Int} {tk : Tok} {q : Value} {arr : Array Keyed} {b n hint p : Nat} {st : SortSt} {Q : Option Nat -> SortSt -> Prop} (hI : IntKeys arr) (hk : kindOf st = oneType') (hsz : b + n <= arr.size) (hh : hint < n) (hp : p <= n)
  (h1 : ∀ i, i < p -> byd left x (K arr (b + i)) = true) (h2 : ∀ i, p <= i -> i < n -> byd left x (K arr (b + i)) = false) (h : Q (some p) st) : wpS (model prog w) A E s (gal left (.int x tk, q) arr b n hint) Q st := by
 refine wpS_bind (Z56 hI (by omega) hk ?_)
 have far : ∀ i, i < n -> (byd left x (K arr (b + i)) = true ↔ i < p) := fun i hi => by
  by_cases hip : i < p
  ·exact ⟨fun _ => hip, fun _ => h1 i hip⟩
  ·rw [h2 i (by omega) hi]
   exact ⟨fun z => absurd z (by decide), fun z => absurd z hip⟩
 by_cases hr : byd left x (K arr (b + hint)) = true
 ·have hp' := (far hint hh).mp hr
  dsimp only
  rw [if_pos hr]
  refine wpS_bind (wpS_mono (wpS_forRange (I := fun k c st' => st' = st /\ ∃ u v, c = (none, u, v) /\ k < v /\ u < v /\ hint + u < p) (Q := fun c st' => st' = st /\ ∃ u v, c = (none, u, v) /\ hint + u < p /\ p <= hint + min v (n - hint)) ?e1 ?e2 ⟨rfl, 0, 1, rfl, by omega, by omega, hp'⟩) ?e3)
  case e2 =>
   rintro c st' ⟨rfl, u, v, rfl, h3, h4, h5⟩
   exact ⟨rfl, u, v, rfl, h5, by omega⟩
  case e1 =>
   rintro k c st' _ hkn ⟨rfl, u, v, rfl, h3, h4, h5⟩
   dsimp only
   by_cases hv : v ≥ n - hint
   ·rw [if_pos hv]
    exact wpS_pure ⟨rfl, u, v, rfl, h5, by omega⟩
   ·rw [if_neg hv]
    refine wpS_bind (Z56 hI (by omega) hk ?_)
    dsimp only
    by_cases hm : byd left x (K arr (b + (hint + v))) = true
    ·rw [hm]
     exact wpS_pure ⟨rfl, v, 2 * v + 1, rfl, by omega, by omega, (far _ (by omega)).mp hm⟩
    ·have hm' := (not_congr (far (hint + v) (by omega))).mp hm
     rw [Bool.not_eq_true] at hm
     rw [hm]
     exact wpS_pure ⟨rfl, u, v, rfl, h5, by omega⟩
  case e3 =>
   rintro c st' ⟨rfl, u, v, rfl, h3, h4⟩
   dsimp only
   refine wpS_bind (wpS_mono (wpS_forRange (I := fun k c st'' => st'' = st' /\ ∃ u v, c = (none, u, v) /\ u <= p /\ p <= v /\ v <= n /\ v - u <= n - k) (Q := fun c st'' => st'' = st' /\ ∃ u, c = (none, u, p)) ?f1 ?f2 ⟨rfl, _, _, rfl, by omega, by omega, by omega, by omega⟩) ?f3)
   case f2 =>
    rintro c st'' ⟨rfl, u, v, rfl, h7, h8, h9, h10⟩
    obtain rfl : v = p := by omega
    exact ⟨rfl, u, rfl⟩
   case f3 =>
    rintro c st'' ⟨rfl, u, rfl⟩
    exact wpS_pure h
   case f1 =>
    rintro k c st'' _ hkn ⟨rfl, u, v, rfl, h7, h8, h9, h10⟩
    dsimp only
    by_cases huv : u ≥ v
    ·rw [if_pos huv]
     obtain rfl : v = p := by omega
     exact wpS_pure ⟨rfl, u, rfl⟩
    ·rw [if_neg huv]
     refine wpS_bind (Z56 hI (by omega) hk ?_)
     dsimp only
     by_cases hm : byd left x (K arr (b + (u + (v - u) / 2))) = true
     ·rw [if_pos hm]
      have := (far _ (by omega)).mp hm
      exact wpS_pure ⟨rfl, u + (v - u) / 2 + 1, v, rfl, by omega, by omega, by omega, by omega⟩
     ·rw [if_neg hm]
      have := (not_congr (far (u + (v - u) / 2) (by omega))).mp hm
      exact wpS_pure ⟨rfl, u, u + (v - u) / 2, rfl, by omega, by omega, by omega, by omega⟩
 ·have hp' := (not_congr (far hint hh)).mp hr
  dsimp only
  rw [if_neg hr]
  refine wpS_bind (wpS_mono (wpS_forRange (I := fun k c st' => st' = st /\ ∃ u v, c = (none, u, v) /\ k < v /\ u < v /\ p <= hint - u /\ u <= hint) (Q := fun c st' => st' = st /\ ∃ u v, c = (none, u, v) /\ p <= hint - u /\ hint + 1 - min v (hint + 1) <= p /\ u <= hint) ?e1 ?e2 ⟨rfl, 0, 1, rfl, by omega, by omega, by omega, by omega⟩) ?e3)
  case e2 =>
   rintro c st' ⟨rfl, u, v, rfl, h3, h4, h5⟩
   exact ⟨rfl, u, v, rfl, h5.1, by omega, h5.2⟩
  case e1 =>
   rintro k c st' _ hkn ⟨rfl, u, v, rfl, h3, h4, h5, h6⟩
   dsimp only
   by_cases hv : v ≥ hint + 1
   ·rw [if_pos hv]
    exact wpS_pure ⟨rfl, u, v, rfl, h5, by omega, h6⟩
   ·rw [if_neg hv]
    refine wpS_bind (Z56 hI (by omega) hk ?_)
    dsimp only
    by_cases hm : byd left x (K arr (b + (hint - v))) = true
    ·rw [if_pos hm]
     have := (far (hint - v) (by omega)).mp hm
     exact wpS_pure ⟨rfl, u, v, rfl, h5, by omega, h6⟩
    ·have hm' := (not_congr (far (hint - v) (by omega))).mp hm
     rw [if_neg hm]
     exact wpS_pure ⟨rfl, v, 2 * v + 1, rfl, by omega, by omega, by omega, by omega⟩
  case e3 =>
   rintro c st' ⟨rfl, u, v, rfl, h3, h4, h6⟩
   dsimp only
   refine wpS_bind (wpS_mono (wpS_forRange (I := fun k c st'' => st'' = st' /\ ∃ u v, c = (none, u, v) /\ u <= p /\ p <= v /\ v <= n /\ v - u <= n - k) (Q := fun c st'' => st'' = st' /\ ∃ u, c = (none, u, p)) ?f1 ?f2 ⟨rfl, _, _, rfl, by omega, by omega, by omega, by omega⟩) ?f3)
   case f2 =>
    rintro c st'' ⟨rfl, u, v, rfl, h7, h8, h9, h10⟩
    obtain rfl : v = p := by omega
    exact ⟨rfl, u, rfl⟩
   case f3 =>
    rintro c st'' ⟨rfl, u, rfl⟩
    exact wpS_pure h
   case f1 =>
    rintro k c st'' _ hkn ⟨rfl, u, v, rfl, h7, h8, h9, h10⟩
    dsimp only
    by_cases huv : u ≥ v
    ·rw [if_pos huv]
     obtain rfl : v = p := by omega
     exact wpS_pure ⟨rfl, u, rfl⟩
    ·rw [if_neg huv]
     refine wpS_bind (Z56 hI (by omega) hk ?_)
     dsimp only
     by_cases hm : byd left x (K arr (b + (u + (v - u) / 2))) = true
     ·rw [if_pos hm]
      have := (far _ (by omega)).mp hm
      exact wpS_pure ⟨rfl, u + (v - u) / 2 + 1, v, rfl, by omega, by omega, by omega, by omega⟩
     ·rw [if_neg hm]
      have := (not_congr (far (u + (v - u) / 2) (by omega))).mp hm
      exact wpS_pure ⟨rfl, u, u + (v - u) / 2, rfl, by omega, by omega, by omega, by omega⟩
end
def key (p : Keyed) : Int := numOf p.1
def Sd (l : List Keyed) : Prop := l.Pairwise fun x y => key x <= key y
def Le (l m : List Keyed) : Prop := ∀ x ∈ l, ∀ y ∈ m, key x <= key y
theorem Z1g {xs : Array Keyed} {i : Nat} {p : Keyed} (h : xs[i]? = some p) : K xs i = key p := by
 unfold K
 rw [h]
 rfl
theorem Z57 {l : List Keyed} {i : Nat} {p : Keyed} (h : l[i]? = some p) : l.drop i = p :: l.drop (i + 1) := by
 obtain ⟨hi, rfl⟩ := List.getElem?_eq_some_iff.mp h
 exact List.drop_eq_getElem_cons hi
theorem Z58 {l : List Keyed} {i : Nat} {p : Keyed} (h : l[i]? = some p) : l.take (i + 1) = l.take i ++ [p] := by
 rw [List.take_add_one, h]
 rfl
theorem Sd.from {l : List Keyed} (h : Sd l) {i : Nat} {p : Keyed} (e : l[i]? = some p) : ∀ y ∈ l.drop i, key p <= key y := by
 intro y hy
 have q : Sd (l.drop i) := h.sublist (List.drop_sublist _ _)
 rw [Z57 e] at hy q
 rcases List.mem_cons.mp hy with rfl | hy
 ·exact Int.le_refl _
 ·exact (List.pairwise_cons.mp q).1 y hy
theorem Sd.upto {l : List Keyed} (h : Sd l) {i : Nat} {p : Keyed} (e : l[i]? = some p) : ∀ y ∈ l.take (i + 1), key y <= key p := by
 intro y hy
 have q : Sd (l.take (i + 1)) := h.sublist (List.take_sublist _ _)
 rw [Z58 e] at hy q
 rcases List.mem_append.mp hy with hy | hy
 ·exact (List.pairwise_append.mp q).2.2 y hy p (List.mem_singleton.mpr rfl)
 ·rw [List.mem_singleton.mp hy]
  exact Int.le_refl _
theorem lst {a : Array Keyed} {i : Nat} : a.toList[i]? = a[i]? := Array.getElem?_toList
structure Lo (a b out : Array Keyed) (i j : Nat) : Prop where
 pm : (out.toList ++ (a.toList.drop i ++ b.toList.drop j)).Perm (a.toList ++ b.toList)
 sd : Sd out.toList
 le : Le out.toList (a.toList.drop i ++ b.toList.drop j)
theorem Lo.pa {a b out : Array Keyed} {i j : Nat} {p : Keyed} (h : Lo a b out i j) (sa : Sd a.toList) (e : a[i]? = some p) (hb : ∀ y ∈ b.toList.drop j, key p <= key y) : Lo a b (out.push p) (i + 1) j := by
 have d := Z57 (lst.trans e)
 have hp : ∀ x ∈ out.toList, key x <= key p := fun x hx => h.le x hx p (by rw [d]; simp)
 refine ⟨?_, ?_, ?_⟩
 ·rw [Array.toList_push, List.append_assoc]
  have q := h.pm
  rw [d] at q
  exact q
 ·rw [Array.toList_push]
  exact List.pairwise_append.mpr ⟨h.sd, List.pairwise_singleton _ _, fun x hx y hy => by rw [List.mem_singleton.mp hy]; exact hp x hx⟩
 ·intro x hx y hy
  rw [Array.toList_push] at hx
  rcases List.mem_append.mp hx with hx | hx
  ·refine h.le x hx y ?_
   rw [d]
   exact List.mem_cons_of_mem _ hy
  ·rw [List.mem_singleton.mp hx]
   rcases List.mem_append.mp hy with hy | hy
   ·exact sa.from (lst.trans e) y (by rw [d]; exact List.mem_cons_of_mem _ hy)
   ·exact hb y hy
theorem Lo.pb {a b out : Array Keyed} {i j : Nat} {p : Keyed} (h : Lo a b out i j) (sb : Sd b.toList) (e : b[j]? = some p) (ha : ∀ y ∈ a.toList.drop i, key p <= key y) : Lo a b (out.push p) i (j + 1) := by
 have d := Z57 (lst.trans e)
 have hp : ∀ x ∈ out.toList, key x <= key p := fun x hx => h.le x hx p (by rw [d]; simp)
 refine ⟨?_, ?_, ?_⟩
 ·rw [Array.toList_push, List.append_assoc]
  refine List.Perm.trans ?_ h.pm
  rw [d]
  show (out.toList ++ (p :: (a.toList.drop i ++ b.toList.drop (j + 1)))).Perm _
  exact List.Perm.append_left _ List.perm_middle.symm
 ·rw [Array.toList_push]
  exact List.pairwise_append.mpr ⟨h.sd, List.pairwise_singleton _ _, fun x hx y hy => by rw [List.mem_singleton.mp hy]; exact hp x hx⟩
 ·intro x hx y hy
  rw [Array.toList_push] at hx
  rcases List.mem_append.mp hx with hx | hx
  ·refine h.le x hx y ?_
   rw [d]
   rcases List.mem_append.mp hy with hy | hy
   ·exact List.mem_append_left _ hy
   ·exact List.mem_append_right _ (List.mem_cons_of_mem _ hy)
  ·rw [List.mem_singleton.mp hx]
   rcases List.mem_append.mp hy with hy | hy
   ·exact ha y hy
   ·exact sb.from (lst.trans e) y (by rw [d]; exact List.mem_cons_of_mem _ hy)
theorem Z26 (a : Array Keyed) (i k : Nat) : (a.extract i (i + k)).toList = (a.toList.drop i).take k := by
 rw [Array.toList_extract, List.extract_eq_take_drop, Nat.add_sub_cancel_left]
theorem Z31 (a : Array Keyed) (i : Nat) : (a.extract i).toList = a.toList.drop i := by
 rw [Array.toList_extract, List.extract_eq_take_drop]
 exact List.take_of_length_le (by rw [List.length_drop, Array.length_toList]; exact Nat.le_refl _)
theorem Z32 (a : Array Keyed) (n : Nat) : (a.extract 0 n).toList = a.toList.take n := by
 rw [Array.toList_extract, List.extract_eq_take_drop, Nat.sub_zero]
 rfl
theorem Z9t {a : Array Keyed} {i k : Nat} {p : Keyed} (e : a[i + k]? = some p) (out : Array Keyed) : out ++ a.extract i (i + (k + 1)) = (out ++ a.extract i (i + k)).push p := by
 refine Array.toList_inj.mp ?_
 rw [Array.toList_push, Array.toList_append, Array.toList_append, Z26, Z26, Z58 (p := p) (by rw [List.getElem?_drop, lst]; exact e), List.append_assoc]
theorem Z9u (a out : Array Keyed) (i : Nat) : out ++ a.extract i (i + 0) = out := by
 refine Array.toList_inj.mp ?_
 rw [Array.toList_append, Z26, List.take_zero, List.append_nil]
theorem Lo.ba {a b out : Array Keyed} {i j : Nat} (h : Lo a b out i j) (sa : Sd a.toList) : ∀ k, i + k <= a.size -> (∀ t, t < k -> ∀ y ∈ b.toList.drop j, K a (i + t) <= key y) -> Lo a b (out ++ a.extract i (i + k)) (i + k) j
 | 0, _, _ => by rw [Z9u]; exact h
 | k + 1, hk, hb => by
  have e : a[i + k]? = some a[i + k] := getElem?_pos _ _ (by omega)
  rw [Z9t e]
  refine (h.ba sa k (by omega) fun t ht => hb t (by omega)).pa sa e ?_
  rw [<- Z1g e]
  exact hb k (by omega)
theorem Lo.bb {a b out : Array Keyed} {i j : Nat} (h : Lo a b out i j) (sb : Sd b.toList) : ∀ k, j + k <= b.size -> (∀ t, t < k -> ∀ y ∈ a.toList.drop i, K b (j + t) <= key y) -> Lo a b (out ++ b.extract j (j + k)) i (j + k)
 | 0, _, _ => by rw [Z9u]; exact h
 | k + 1, hk, hb => by
  have e : b[j + k]? = some b[j + k] := getElem?_pos _ _ (by omega)
  rw [Z9t e]
  refine (h.bb sb k (by omega) fun t ht => hb t (by omega)).pb sb e ?_
  rw [<- Z1g e]
  exact hb k (by omega)
def Mgd (a b res : Array Keyed) : Prop := res.toList.Perm (a.toList ++ b.toList) /\ Sd res.toList
theorem Lo.doneB {a b out : Array Keyed} {i j : Nat} (h : Lo a b out i j) (sa : Sd a.toList) (e : b.size <= j) : Mgd a b (out ++ a.extract i ++ b.extract j) := by
 have z : b.toList.drop j = [] := List.drop_eq_nil_of_le (by simpa using e)
 have q : (out ++ a.extract i ++ b.extract j).toList = out.toList ++ a.toList.drop i := by
  rw [Array.toList_append, Array.toList_append, Z31, Z31, z, List.append_nil]
 have p := h.pm
 have l := h.le
 rw [z, List.append_nil] at p l
 refine ⟨by rw [q]; exact p, ?_⟩
 rw [q]
 exact List.pairwise_append.mpr ⟨h.sd, sa.sublist (List.drop_sublist _ _), l⟩
theorem Lo.doneA {a b out : Array Keyed} {i j : Nat} (h : Lo a b out i j) (sb : Sd b.toList) (e : a.size <= i) : Mgd a b (out ++ a.extract i ++ b.extract j) := by
 have z : a.toList.drop i = [] := List.drop_eq_nil_of_le (by simpa using e)
 have q : (out ++ a.extract i ++ b.extract j).toList = out.toList ++ b.toList.drop j := by
  rw [Array.toList_append, Array.toList_append, Z31, Z31, z, List.append_nil]
 have p := h.pm
 have l := h.le
 rw [z, List.nil_append] at p l
 refine ⟨by rw [q]; exact p, ?_⟩
 rw [q]
 exact List.pairwise_append.mpr ⟨h.sd, sb.sublist (List.drop_sublist _ _), l⟩
theorem Lo.last {a b out : Array Keyed} {i j : Nat} (h : Lo a b out i j) (sa : Sd a.toList) (sb : Sd b.toList) (hl : ∀ y ∈ b.toList, key y <= K a (a.size - 1)) (e : i + 1 = a.size) : Mgd a b (out ++ b.extract j ++ a.extract i) := by
 have ei : a[i]? = some a[i] := getElem?_pos _ _ (by omega)
 have d := Z57 (lst.trans ei)
 have z : a.toList.drop (i + 1) = [] := List.drop_eq_nil_of_le (by simp; omega)
 rw [z] at d
 have q : (out ++ b.extract j ++ a.extract i).toList = out.toList ++ (b.toList.drop j ++ [a[i]]) := by
  rw [Array.toList_append, Array.toList_append, Z31, Z31, d, List.append_assoc]
 have p := h.pm
 have l := h.le
 rw [d] at p l
 have ek : K a (a.size - 1) = key a[i] := by rw [<- Z1g ei]; congr 1; omega
 refine ⟨?_, ?_⟩
 ·rw [q]
  exact (List.Perm.append_left _ List.perm_append_comm).trans p
 ·rw [q]
  refine List.pairwise_append.mpr ⟨h.sd, List.pairwise_append.mpr ⟨sb.sublist (List.drop_sublist _ _), List.pairwise_singleton _ _, fun x hx y hy => ?_⟩, fun x hx y hy => l x hx y ?_⟩
  ·rw [List.mem_singleton.mp hy, <- ek]
   exact hl x (List.mem_of_mem_drop hx)
  ·rcases List.mem_append.mp hy with hy | hy
   ·exact List.mem_append_right _ hy
   ·exact List.mem_append_left _ hy
theorem Lo.start {a b : Array Keyed} {p : Keyed} (sb : Sd b.toList) (e : b[0]? = some p) (ha : ∀ y ∈ a.toList, key p <= key y) : Lo a b #[p] 0 1 := by
 have h : Lo a b #[] 0 0 := ⟨List.Perm.refl _, List.Pairwise.nil, fun x hx => absurd hx (by simp)⟩
 exact h.pb sb e ha
structure Hi (a b out : Array Keyed) (i j : Nat) : Prop where
 pm : ((a.toList.take i ++ b.toList.take j) ++ out.toList.reverse).Perm (a.toList ++ b.toList)
 sd : Sd out.toList.reverse
 le : Le (a.toList.take i ++ b.toList.take j) out.toList.reverse
theorem Hi.pa {a b out : Array Keyed} {i j : Nat} {p : Keyed} (h : Hi a b out (i + 1) j) (sa : Sd a.toList) (e : a[i]? = some p) (hb : ∀ y ∈ b.toList.take j, key y <= key p) : Hi a b (out.push p) i j := by
 have d := Z58 (lst.trans e)
 have hr : (out.push p).toList.reverse = p :: out.toList.reverse := by rw [Array.toList_push, List.reverse_append]; rfl
 have hp : ∀ x ∈ out.toList.reverse, key p <= key x := fun x hx => h.le p (by rw [d]; simp) x hx
 refine ⟨?_, ?_, ?_⟩
 ·rw [hr]
  refine List.Perm.trans ?_ h.pm
  rw [d]
  refine List.perm_middle.trans ?_
  rw [<- List.cons_append]
  refine List.Perm.append_right _ ?_
  rw [List.append_assoc]
  exact List.perm_middle.symm
 ·rw [hr]
  exact List.pairwise_cons.mpr ⟨hp, h.sd⟩
 ·intro x hx y hy
  rw [hr] at hy
  rcases List.mem_cons.mp hy with rfl | hy
  ·rcases List.mem_append.mp hx with hx | hx
   ·exact sa.upto (lst.trans e) x (by rw [d]; exact List.mem_append_left _ hx)
   ·exact hb x hx
  ·refine h.le x ?_ y hy
   rw [d]
   rcases List.mem_append.mp hx with hx | hx
   ·exact List.mem_append_left _ (List.mem_append_left _ hx)
   ·exact List.mem_append_right _ hx
theorem Hi.pb {a b out : Array Keyed} {i j : Nat} {p : Keyed} (h : Hi a b out i (j + 1)) (sb : Sd b.toList) (e : b[j]? = some p) (ha : ∀ y ∈ a.toList.take i, key y <= key p) : Hi a b (out.push p) i j := by
 have d := Z58 (lst.trans e)
 have hr : (out.push p).toList.reverse = p :: out.toList.reverse := by rw [Array.toList_push, List.reverse_append]; rfl
 have hp : ∀ x ∈ out.toList.reverse, key p <= key x := fun x hx => h.le p (by rw [d]; simp) x hx
 refine ⟨?_, ?_, ?_⟩
 ·rw [hr]
  refine List.Perm.trans ?_ h.pm
  rw [d, <- List.append_assoc, List.append_assoc (a.toList.take i ++ b.toList.take j)]
  exact List.Perm.refl _
 ·rw [hr]
  exact List.pairwise_cons.mpr ⟨hp, h.sd⟩
 ·intro x hx y hy
  rw [hr] at hy
  rcases List.mem_cons.mp hy with rfl | hy
  ·rcases List.mem_append.mp hx with hx | hx
   ·exact ha x hx
   ·exact sb.upto (lst.trans e) x (by rw [d]; exact List.mem_append_left _ hx)
  ·refine h.le x ?_ y hy
   rw [d]
   rcases List.mem_append.mp hx with hx | hx
   ·exact List.mem_append_left _ hx
   ·exact List.mem_append_right _ (List.mem_append_left _ hx)
theorem Z7z {a : Array Keyed} {i k : Nat} {p : Keyed} (e : a[i]? = some p) (out : Array Keyed) : out ++ (a.extract i (i + (k + 1))).reverse = (out ++ (a.extract (i + 1) (i + 1 + k)).reverse).push p := by
 refine Array.toList_inj.mp ?_
 rw [Array.toList_push, Array.toList_append, Array.toList_append, Array.toList_reverse, Array.toList_reverse, Z26, Z26, Z57 (lst.trans e), List.take_succ_cons, List.reverse_cons, List.append_assoc]
theorem Hi.ba {a b out : Array Keyed} {j : Nat} (sa : Sd a.toList) : ∀ (k i : Nat), Hi a b out (i + k) j -> i + k <= a.size -> (∀ t, i <= t -> t < i + k -> ∀ y ∈ b.toList.take j, key y <= K a t) -> Hi a b (out ++ (a.extract i (i + k)).reverse) i j
 | 0, i, h, _, _ => by
  have z : out ++ (a.extract i (i + 0)).reverse = out := by
   refine Array.toList_inj.mp ?_
   rw [Array.toList_append, Array.toList_reverse, Z26, List.take_zero, List.reverse_nil, List.append_nil]
  rw [z]
  exact h
 | k + 1, i, h, hk, hb => by
  have e : a[i]? = some a[i] := getElem?_pos _ _ (by omega)
  rw [Z7z e]
  refine (Hi.ba sa k (i + 1) (by rw [Nat.add_right_comm]; exact h) (by omega) fun t h1 h2 => hb t (by omega) (by omega)).pa sa e ?_
  rw [<- Z1g e]
  exact hb i (Nat.le_refl _) (by omega)
theorem Hi.bb {a b out : Array Keyed} {i : Nat} (sb : Sd b.toList) : ∀ (k j : Nat), Hi a b out i (j + k) -> j + k <= b.size -> (∀ t, j <= t -> t < j + k -> ∀ y ∈ a.toList.take i, key y <= K b t) -> Hi a b (out ++ (b.extract j (j + k)).reverse) i j
 | 0, j, h, _, _ => by
  have z : out ++ (b.extract j (j + 0)).reverse = out := by
   refine Array.toList_inj.mp ?_
   rw [Array.toList_append, Array.toList_reverse, Z26, List.take_zero, List.reverse_nil, List.append_nil]
  rw [z]
  exact h
 | k + 1, j, h, hk, hb => by
  have e : b[j]? = some b[j] := getElem?_pos _ _ (by omega)
  rw [Z7z e]
  refine (Hi.bb sb k (j + 1) (by rw [Nat.add_right_comm]; exact h) (by omega) fun t h1 h2 => hb t (by omega) (by omega)).pb sb e ?_
  rw [<- Z1g e]
  exact hb j (Nat.le_refl _) (by omega)
theorem Hi.doneA {a b out : Array Keyed} {i j : Nat} (h : Hi a b out i j) (sb : Sd b.toList) (e : i = 0) : Mgd a b (a.extract 0 i ++ b.extract 0 j ++ out.reverse) := by
 subst e
 have q : (a.extract 0 0 ++ b.extract 0 j ++ out.reverse).toList = b.toList.take j ++ out.toList.reverse := by
  rw [Array.toList_append, Array.toList_append, Z32, Z32, Array.toList_reverse, List.take_zero, List.nil_append]
 have p := h.pm
 have l := h.le
 rw [List.take_zero, List.nil_append] at p l
 refine ⟨by rw [q]; exact p, ?_⟩
 rw [q]
 exact List.pairwise_append.mpr ⟨sb.sublist (List.take_sublist _ _), h.sd, l⟩
theorem Hi.doneB {a b out : Array Keyed} {i j : Nat} (h : Hi a b out i j) (sa : Sd a.toList) (e : j = 0) : Mgd a b (a.extract 0 i ++ b.extract 0 j ++ out.reverse) := by
 subst e
 have q : (a.extract 0 i ++ b.extract 0 0 ++ out.reverse).toList = a.toList.take i ++ out.toList.reverse := by
  rw [Array.toList_append, Array.toList_append, Z32, Z32, Array.toList_reverse, List.take_zero, List.append_nil]
 have p := h.pm
 have l := h.le
 rw [List.take_zero, List.append_nil] at p l
 refine ⟨by rw [q]; exact p, ?_⟩
 rw [q]
 exact List.pairwise_append.mpr ⟨sa.sublist (List.take_sublist _ _), h.sd, l⟩
theorem Hi.first {a b out : Array Keyed} {i j : Nat} (h : Hi a b out i j) (sa : Sd a.toList) (hb : 1 <= b.size) (hl : ∀ y ∈ a.toList, K b 0 <= key y) (e : j = 1) : Mgd a b (b.extract 0 j ++ a.extract 0 i ++ out.reverse) := by
 subst e
 have e0 : b[0]? = some b[0] := getElem?_pos _ _ (by omega)
 have d : b.toList.take 1 = [b[0]] := Z58 (lst.trans e0)
 have q : (b.extract 0 1 ++ a.extract 0 i ++ out.reverse).toList = ([b[0]] ++ a.toList.take i) ++ out.toList.reverse := by
  rw [Array.toList_append, Array.toList_append, Z32, Z32, Array.toList_reverse, d]
 have p := h.pm
 have l := h.le
 rw [d] at p l
 refine ⟨?_, ?_⟩
 ·rw [q]
  exact (List.Perm.append_right _ List.perm_append_comm).trans p
 ·rw [q]
  refine List.pairwise_append.mpr ⟨List.pairwise_append.mpr ⟨List.pairwise_singleton _ _, sa.sublist (List.take_sublist _ _), fun x hx y hy => ?_⟩, h.sd, fun x hx y hy => l x ?_ y hy⟩
  ·rw [List.mem_singleton.mp hx, <- Z1g e0]
   exact hl y (List.mem_of_mem_take hy)
  ·rcases List.mem_append.mp hx with hx | hx
   ·exact List.mem_append_right _ hx
   ·exact List.mem_append_left _ hx
theorem Hi.start {a b : Array Keyed} {p : Keyed} {n : Nat} (sa : Sd a.toList) (en : a.size = n + 1) (e : a[n]? = some p) (hb : ∀ y ∈ b.toList, key y <= key p) : Hi a b #[p] n b.size := by
 have h : Hi a b #[] (n + 1) b.size := by
  have ta : a.toList.take (n + 1) = a.toList := List.take_of_length_le (by simp [en])
  have tb : b.toList.take b.size = b.toList := List.take_of_length_le (by simp)
  refine ⟨?_, List.Pairwise.nil, fun x hx y hy => absurd hy (by simp)⟩
  rw [ta, tb]
  exact List.Perm.of_eq (List.append_nil _)
 refine h.pa sa e fun y hy => hb y (List.mem_of_mem_take hy)
theorem Z9v : ∀ (n : Nat) (f : Nat -> Bool), (∀ i j, i <= j -> j < n -> f j = true -> f i = true) -> ∃ p, p <= n /\ (∀ i, i < p -> f i = true) /\ ∀ i, p <= i -> i < n -> f i = false
 | 0, _, _ => ⟨0, Nat.le_refl _, fun i h => absurd h (by omega), fun i _ h => absurd h (by omega)⟩
 | n + 1, f, h => by
  obtain ⟨p, h1, h2, h3⟩ := Z9v n f fun i j a b c => h i j a (by omega) c
  by_cases e : f n = true
  ·exact ⟨n + 1, Nat.le_refl _, fun i hi => h i n (by omega) (by omega) e, fun i a b => absurd b (by omega)⟩
  ·refine ⟨p, by omega, h2, fun i a b => ?_⟩
   by_cases hi : i < n
   ·exact h3 i a hi
   ·obtain rfl : i = n := by omega
    exact Bool.not_eq_true _ ▸ e
theorem Sd.K_le {a : Array Keyed} (sa : Sd a.toList) {i j : Nat} (h : i <= j) (hj : j < a.size) : K a i <= K a j := by
 have ei : a[i]? = some a[i] := getElem?_pos _ _ (by omega)
 have ej : a[j]? = some a[j] := getElem?_pos a j hj
 rw [Z1g ei, Z1g ej]
 refine sa.from (lst.trans ei) _ ?_
 have q : (a.toList.drop i)[j - i]? = some a[j] := by
  rw [List.getElem?_drop, lst]
  rw [(by omega : i + (j - i) = j)]
  exact ej
 exact List.mem_of_getElem? q
theorem Z1t (left : Bool) (x : Int) {a : Array Keyed} (sa : Sd a.toList) {i n : Nat} (h : i + n <= a.size) : ∃ p, p <= n /\ (∀ t, t < p -> byd left x (K a (i + t)) = true) /\ ∀ t, p <= t -> t < n -> byd left x (K a (i + t)) = false := by
 refine Z9v n (fun t => byd left x (K a (i + t))) fun u v h1 h2 h3 => ?_
 have q := sa.K_le (i := i + u) (j := i + v) (by omega) (by omega)
 cases left with
 | true =>
  have h3 : K a (i + v) < x := of_decide_eq_true h3
  exact decide_eq_true (by omega)
 | false =>
  have h3 : ¬ x < K a (i + v) := by
   intro z
   have h3 : (!decide (x < K a (i + v))) = true := h3
   rw [decide_eq_true z] at h3
   cases h3
  show (!decide (x < K a (i + u))) = true
  rw [decide_eq_false (by omega)]
  rfl
theorem Z1l {x y : Int} : (byd true x y = true -> y < x) /\ (byd true x y = false -> x <= y) := ⟨fun h => of_decide_eq_true h, fun h => by have := of_decide_eq_false h; omega⟩
theorem Z35 {x y : Int} : (byd false x y = true -> y <= x) /\ (byd false x y = false -> x < y) := by
 refine ⟨fun h => ?_, fun h => ?_⟩
 ·have h : (!decide (x < y)) = true := h
  by_cases z : x < y
  ·rw [decide_eq_true z] at h
   cases h
  ·omega
 ·have h : (!decide (x < y)) = false := h
  by_cases z : x < y
  ·exact z
  ·rw [decide_eq_false z] at h
   cases h
abbrev Sm (st st' : SortSt) : Prop := kindOf st' = kindOf st /\ arrOf st' = arrOf st /\ pendingOf st' = pendingOf st /\ failedOf st' = failedOf st
section
variable {prog : Program} {w : World} {A : Around} {E : Value -> Shared -> Prop} {s : Shared}
theorem Zhd {a b : Array Keyed} {st : SortSt} {Q : Array Keyed -> SortSt -> Prop} (ha : IntKeys a) (hb : IntKeys b) (sa : Sd a.toList) (sb : Sd b.toList) (hk : kindOf st = oneType') (na : 1 <= a.size) (nb : 1 <= b.size)
  (hf : ∀ y ∈ a.toList, K b 0 <= key y) (hl : ∀ y ∈ b.toList, key y <= K a (a.size - 1)) (h : ∀ r st', Sm st st' -> Mgd a b r -> Q r st') : wpS (model prog w) A E s (mLo a b) Q st := by
 refine wpS_bind (wpS_lift (wpAny_rule ⟨rfl, ?_⟩))
 obtain ⟨t0, q0, e0⟩ := Z27 hb (i := 0) nb
 refine wpS_bind (Z08 e0 ?_)
 dsimp only
 have lo0 := Lo.start (a := a) sb e0 hf
 by_cases c1 : (1 == b.size) = true
 ·rw [if_pos c1]
  exact wpS_pure (h _ _ ⟨rfl, rfl, rfl, rfl⟩ (lo0.doneB sa (by have := beq_iff_eq.mp c1; omega)))
 rw [if_neg c1]
 have m1 : ¬ 1 = b.size := fun z => c1 (beq_iff_eq.mpr z)
 by_cases c2 : (0 + 1 == a.size) = true
 ·rw [if_pos c2]
  exact wpS_pure (h _ _ ⟨rfl, rfl, rfl, rfl⟩ (lo0.last sa sb hl (beq_iff_eq.mp c2)))
 rw [if_neg c2]
 have m2 : ¬ 0 + 1 = a.size := fun z => c2 (beq_iff_eq.mpr z)
 refine wpS_bind (wpS_get ?_)
 refine wpS_bind (wpS_mono (wpS_forRange (I := fun k c st' => Sm st st' /\ ∃ out i j g, c = (none, out, i, j, g) /\ Lo a b out i j /\ i + 1 < a.size /\ j < b.size /\ k <= i + j)
  (Q := fun c st' => Sm st st' /\ ∃ r out i j g, c = (some r, out, i, j, g) /\ Mgd a b r) ?step ?fin ⟨⟨rfl, rfl, rfl, rfl⟩, _, 0, 1, _, rfl, lo0, by omega, by omega, by omega⟩) ?post)
 case post =>
  rintro c st' ⟨sm, r, out, i, j, g, rfl, mg⟩
  exact wpS_pure (h r st' sm mg)
 case fin =>
  rintro c st' ⟨sm, out, i, j, g, rfl, lo, hi, hj, hn⟩
  exfalso
  omega
 case step =>
  rintro k c st' _ hkn ⟨sm, out, i, j, g, rfl, lo, hi, hj, hn⟩
  dsimp only
  refine wpS_bind (wpS_mono (wpS_forRange (I := fun t c st'' => st'' = st' /\ ∃ o i' j' u v, c = (none, o, i', j', u, v) /\ Lo a b o i' j' /\ i' + 1 < a.size /\ j' < b.size /\ i + j + t <= i' + j')
   (Q := fun c st'' => st'' = st' /\ ∃ r o i' j' u v, c = (r, o, i', j', u, v) /\ ((∃ z, r = some z /\ Mgd a b z) ∨ (r = none /\ Lo a b o i' j' /\ i' + 1 < a.size /\ j' < b.size /\ i + j < i' + j'))) ?step1 ?fin1 ⟨rfl, out, i, j, 0, 0, rfl, lo, hi, hj, Nat.le_refl _⟩) ?post1)
  case fin1 =>
   rintro c st'' ⟨rfl, o, i', j', u, v, rfl, lo', hi', hj', hp'⟩
   exfalso
   omega
  case step1 =>
   rintro t c st'' _ _ ⟨rfl, o, i', j', u, v, rfl, lo', hi', hj', hp'⟩
   dsimp only
   obtain ⟨tb, qb, eb⟩ := Z27 hb hj'
   obtain ⟨ta, qa, ea⟩ := Z27 ha (i := i') (by omega)
   refine wpS_bind (Z08 eb ?_)
   refine wpS_bind (Z08 ea ?_)
   refine wpS_bind (Z9s (sm.1.trans hk) ?_)
   dsimp only
   by_cases hw : K b j' < K a i'
   ·rw [if_pos (decide_eq_true hw)]
    refine wpS_bind (Z08 eb ?_)
    have lo2 := lo'.pb sb eb fun y hy => Int.le_trans (Int.le_of_lt hw) (sa.from (lst.trans ea) y hy)
    by_cases e1 : (j' + 1 == b.size) = true
    ·rw [if_pos e1]
     exact wpS_pure ⟨rfl, _, _, _, _, _, _, rfl, .inl ⟨_, rfl, lo2.doneB sa (by have := beq_iff_eq.mp e1; omega)⟩⟩
    ·rw [if_neg e1]
     have n1 : ¬ j' + 1 = b.size := fun z => e1 (beq_iff_eq.mpr z)
     by_cases e2 : v + 1 ≥ g
     ·rw [if_pos e2]
      exact wpS_pure ⟨rfl, _, _, _, _, _, _, rfl, .inr ⟨rfl, lo2, hi', by omega, by omega⟩⟩
     ·rw [if_neg e2]
      exact wpS_pure ⟨rfl, _, _, _, _, _, rfl, lo2, hi', by omega, by omega⟩
   ·rw [if_neg (fun z => hw (of_decide_eq_true z))]
    refine wpS_bind (Z08 ea ?_)
    have lo2 := lo'.pa sa ea fun y hy => Int.le_trans (Int.not_lt.mp hw) (sb.from (lst.trans eb) y hy)
    by_cases e1 : (i' + 1 + 1 == a.size) = true
    ·rw [if_pos e1]
     exact wpS_pure ⟨rfl, _, _, _, _, _, _, rfl, .inl ⟨_, rfl, lo2.last sa sb hl (beq_iff_eq.mp e1)⟩⟩
    ·rw [if_neg e1]
     have n1 : ¬ i' + 1 + 1 = a.size := fun z => e1 (beq_iff_eq.mpr z)
     by_cases e2 : u + 1 ≥ g
     ·rw [if_pos e2]
      exact wpS_pure ⟨rfl, _, _, _, _, _, _, rfl, .inr ⟨rfl, lo2, by omega, hj', by omega⟩⟩
     ·rw [if_neg e2]
      exact wpS_pure ⟨rfl, _, _, _, _, _, rfl, lo2, by omega, hj', by omega⟩
  case post1 =>
   rintro c st'' ⟨rfl, r, o, i', j', u, v, rfl, hz⟩
   rcases hz with ⟨z, rfl, mg⟩ | ⟨rfl, lo', hi', hj', hp'⟩
   ·exact wpS_pure ⟨sm, z, _, _, _, _, rfl, mg⟩
   ·dsimp only
    refine wpS_bind (wpS_lift (wpAny_rule ⟨rfl, ?_⟩))
    refine wpS_bind (wpS_mono (wpS_forRange (I := fun t c s3 => Sm st s3 /\ ∃ o i' j' m u v, c = (none, o, i', j', m, u, v) /\ Lo a b o i' j' /\ i' + 1 < a.size /\ j' < b.size /\ i + j + 1 + t <= i' + j')
     (Q := fun c s3 => Sm st s3 /\ ∃ r o i' j' m u v, c = (r, o, i', j', m, u, v) /\ ((∃ z, r = some z /\ Mgd a b z) ∨ (r = none /\ Lo a b o i' j' /\ i' + 1 < a.size /\ j' < b.size /\ i + j < i' + j'))) ?step2 ?fin2 ⟨sm, o, i', j', _, u, v, rfl, lo', hi', hj', by omega⟩) ?post2)
    case fin2 =>
     rintro c s3 ⟨sm3, o, i', j', m, u, v, rfl, lo', hi', hj', hp'⟩
     exfalso
     omega
    case post2 =>
     rintro c s3 ⟨sm3, r, o, i', j', m, u, v, rfl, hz⟩
     rcases hz with ⟨z, rfl, mg⟩ | ⟨rfl, lo', hi', hj', hp'⟩
     ·exact wpS_pure ⟨sm3, z, _, _, _, _, rfl, mg⟩
     ·dsimp only
      refine wpS_bind (wpS_modify ?_)
      exact wpS_pure ⟨sm3, _, _, _, _, rfl, lo', hi', hj', by omega⟩
    case step2 =>
     clear lo' hi' hj' hp'
     rintro t c s3 _ _ ⟨sm3, o, i', j', m, u, v, rfl, lo', hi', hj', hp'⟩
     dsimp only
     obtain ⟨tb, qb, eb⟩ := Z27 hb hj'
     by_cases g1 : m > 1
     ·rw [if_pos g1]
      refine wpS_bind (wpS_modify ?_)
      refine wpS_bind (Z08 eb ?_)
      obtain ⟨p, hp, p1, p2⟩ := Z1t false (K b j') sa (i := i') (n := a.size - i') (by omega)
      refine wpS_bind (Z1k ha (sm3.1.trans hk) (by omega) (by omega) hp p1 p2 ?_)
      dsimp only
      by_cases k0 : p > 0
      ·rw [if_pos k0]
       have lo2 := lo'.ba sa p (by omega) fun t ht y hy => Int.le_trans (Z35.1 (p1 t ht)) (sb.from (lst.trans eb) y hy)
       by_cases e1 : (i' + p + 1 == a.size) = true
       ·rw [if_pos e1]
        exact wpS_pure ⟨sm3, _, _, _, _, _, _, _, rfl, .inl ⟨_, rfl, lo2.last sa sb hl (beq_iff_eq.mp e1)⟩⟩
       ·rw [if_neg e1]
        have n1 : ¬ i' + p + 1 = a.size := fun z => e1 (beq_iff_eq.mpr z)
        by_cases e2 : (i' + p == a.size) = true
        ·rw [if_pos e2]
         exact wpS_pure ⟨sm3, _, _, _, _, _, _, _, rfl, .inl ⟨_, rfl, lo2.doneA sb (by have := beq_iff_eq.mp e2; omega)⟩⟩
        ·rw [if_neg e2]
         have n2 : ¬ i' + p = a.size := fun z => e2 (beq_iff_eq.mpr z)
         refine wpS_bind (Z08 eb ?_)
         obtain ⟨ta, qa, ea⟩ := Z27 ha (i := i' + p) (by omega)
         have lo3 := lo2.pb sb eb fun y hy => by
          have z := Z35.2 (p2 p (Nat.le_refl _) (by omega))
          exact Int.le_trans (Int.le_of_lt z) (sa.from (lst.trans ea) y hy)
         by_cases e3 : (j' + 1 == b.size) = true
         ·rw [if_pos e3]
          exact wpS_pure ⟨sm3, _, _, _, _, _, _, _, rfl, .inl ⟨_, rfl, lo3.doneB sa (by have := beq_iff_eq.mp e3; omega)⟩⟩
         ·rw [if_neg e3]
          have n3 : ¬ j' + 1 = b.size := fun z => e3 (beq_iff_eq.mpr z)
          refine wpS_bind (Z08 ea ?_)
          obtain ⟨r, hr, r1, r2⟩ := Z1t true (K a (i' + p)) sb (i := j' + 1) (n := b.size - (j' + 1)) (by omega)
          refine wpS_bind (Z1k hb (sm3.1.trans hk) (by omega) (by omega) hr r1 r2 ?_)
          dsimp only
          by_cases k1 : r > 0
          ·rw [if_pos k1]
           have lo4 := lo3.bb sb r (by omega) fun t ht y hy => Int.le_trans (Int.le_of_lt (Z1l.1 (r1 t ht))) (sa.from (lst.trans ea) y hy)
           by_cases e4 : (j' + 1 + r == b.size) = true
           ·rw [if_pos e4]
            exact wpS_pure ⟨sm3, _, _, _, _, _, _, _, rfl, .inl ⟨_, rfl, lo4.doneB sa (by have := beq_iff_eq.mp e4; omega)⟩⟩
           ·rw [if_neg e4]
            have n4 : ¬ j' + 1 + r = b.size := fun z => e4 (beq_iff_eq.mpr z)
            refine wpS_bind (Z08 ea ?_)
            have ej : b[j' + 1 + r]? = some b[j' + 1 + r] := getElem?_pos _ _ (by omega)
            have lo5 := lo4.pa sa ea fun y hy => by
             have z := Z1l.2 (r2 r (Nat.le_refl _) (by omega))
             have z2 := sb.from (lst.trans ej) y hy
             rw [<- Z1g ej] at z2
             exact Int.le_trans z z2
            by_cases e5 : (i' + p + 1 + 1 == a.size) = true
            ·rw [if_pos e5]
             exact wpS_pure ⟨sm3, _, _, _, _, _, _, _, rfl, .inl ⟨_, rfl, lo5.last sa sb hl (beq_iff_eq.mp e5)⟩⟩
            ·rw [if_neg e5]
             have n5 : ¬ i' + p + 1 + 1 = a.size := fun z => e5 (beq_iff_eq.mpr z)
             by_cases e6 : (decide (p < 7) && decide (r < 7)) = true
             ·rw [if_pos e6]
              exact wpS_pure ⟨sm3, _, _, _, _, _, _, _, rfl, .inr ⟨rfl, lo5, by omega, by omega, by omega⟩⟩
             ·rw [if_neg e6]
              exact wpS_pure ⟨sm3, _, _, _, _, _, _, rfl, lo5, by omega, by omega, by omega⟩
          ·rw [if_neg k1]
           obtain rfl : r = 0 := by omega
           refine wpS_bind (Z08 ea ?_)
           have ej : b[j' + 1]? = some b[j' + 1] := getElem?_pos _ _ (by omega)
           have lo5 := lo3.pa sa ea fun y hy => by
            have z := Z1l.2 (r2 0 (Nat.le_refl _) (by omega))
            have z2 := sb.from (lst.trans ej) y hy
            rw [<- Z1g ej] at z2
            exact Int.le_trans z z2
           by_cases e5 : (i' + p + 1 + 1 == a.size) = true
           ·rw [if_pos e5]
            exact wpS_pure ⟨sm3, _, _, _, _, _, _, _, rfl, .inl ⟨_, rfl, lo5.last sa sb hl (beq_iff_eq.mp e5)⟩⟩
           ·rw [if_neg e5]
            have n5 : ¬ i' + p + 1 + 1 = a.size := fun z => e5 (beq_iff_eq.mpr z)
            by_cases e6 : (decide (p < 7) && decide (0 < 7)) = true
            ·rw [if_pos e6]
             exact wpS_pure ⟨sm3, _, _, _, _, _, _, _, rfl, .inr ⟨rfl, lo5, by omega, by omega, by omega⟩⟩
            ·rw [if_neg e6]
             exact wpS_pure ⟨sm3, _, _, _, _, _, _, rfl, lo5, by omega, by omega, by omega⟩
      ·rw [if_neg k0]
       obtain rfl : p = 0 := by omega
       refine wpS_bind (Z08 eb ?_)
       obtain ⟨ta, qa, ea⟩ := Z27 ha (i := i') (by omega)
       have lo3 := lo'.pb sb eb fun y hy => by
        have z := Z35.2 (p2 0 (Nat.le_refl _) (by omega))
        exact Int.le_trans (Int.le_of_lt z) (sa.from (lst.trans ea) y hy)
       by_cases e3 : (j' + 1 == b.size) = true
       ·rw [if_pos e3]
        exact wpS_pure ⟨sm3, _, _, _, _, _, _, _, rfl, .inl ⟨_, rfl, lo3.doneB sa (by have := beq_iff_eq.mp e3; omega)⟩⟩
       ·rw [if_neg e3]
        have n3 : ¬ j' + 1 = b.size := fun z => e3 (beq_iff_eq.mpr z)
        refine wpS_bind (Z08 ea ?_)
        obtain ⟨r, hr, r1, r2⟩ := Z1t true (K a (i')) sb (i := j' + 1) (n := b.size - (j' + 1)) (by omega)
        refine wpS_bind (Z1k hb (sm3.1.trans hk) (by omega) (by omega) hr r1 r2 ?_)
        dsimp only
        by_cases k1 : r > 0
        ·rw [if_pos k1]
         have lo4 := lo3.bb sb r (by omega) fun t ht y hy => Int.le_trans (Int.le_of_lt (Z1l.1 (r1 t ht))) (sa.from (lst.trans ea) y hy)
         by_cases e4 : (j' + 1 + r == b.size) = true
         ·rw [if_pos e4]
          exact wpS_pure ⟨sm3, _, _, _, _, _, _, _, rfl, .inl ⟨_, rfl, lo4.doneB sa (by have := beq_iff_eq.mp e4; omega)⟩⟩
         ·rw [if_neg e4]
          have n4 : ¬ j' + 1 + r = b.size := fun z => e4 (beq_iff_eq.mpr z)
          refine wpS_bind (Z08 ea ?_)
          have ej : b[j' + 1 + r]? = some b[j' + 1 + r] := getElem?_pos _ _ (by omega)
          have lo5 := lo4.pa sa ea fun y hy => by
           have z := Z1l.2 (r2 r (Nat.le_refl _) (by omega))
           have z2 := sb.from (lst.trans ej) y hy
           rw [<- Z1g ej] at z2
           exact Int.le_trans z z2
          by_cases e5 : (i' + 1 + 1 == a.size) = true
          ·rw [if_pos e5]
           exact wpS_pure ⟨sm3, _, _, _, _, _, _, _, rfl, .inl ⟨_, rfl, lo5.last sa sb hl (beq_iff_eq.mp e5)⟩⟩
          ·rw [if_neg e5]
           have n5 : ¬ i' + 1 + 1 = a.size := fun z => e5 (beq_iff_eq.mpr z)
           by_cases e6 : (decide (0 < 7) && decide (r < 7)) = true
           ·rw [if_pos e6]
            exact wpS_pure ⟨sm3, _, _, _, _, _, _, _, rfl, .inr ⟨rfl, lo5, by omega, by omega, by omega⟩⟩
           ·rw [if_neg e6]
            exact wpS_pure ⟨sm3, _, _, _, _, _, _, rfl, lo5, by omega, by omega, by omega⟩
        ·rw [if_neg k1]
         obtain rfl : r = 0 := by omega
         refine wpS_bind (Z08 ea ?_)
         have ej : b[j' + 1]? = some b[j' + 1] := getElem?_pos _ _ (by omega)
         have lo5 := lo3.pa sa ea fun y hy => by
          have z := Z1l.2 (r2 0 (Nat.le_refl _) (by omega))
          have z2 := sb.from (lst.trans ej) y hy
          rw [<- Z1g ej] at z2
          exact Int.le_trans z z2
         by_cases e5 : (i' + 1 + 1 == a.size) = true
         ·rw [if_pos e5]
          exact wpS_pure ⟨sm3, _, _, _, _, _, _, _, rfl, .inl ⟨_, rfl, lo5.last sa sb hl (beq_iff_eq.mp e5)⟩⟩
         ·rw [if_neg e5]
          have n5 : ¬ i' + 1 + 1 = a.size := fun z => e5 (beq_iff_eq.mpr z)
          by_cases e6 : (decide (0 < 7) && decide (0 < 7)) = true
          ·rw [if_pos e6]
           exact wpS_pure ⟨sm3, _, _, _, _, _, _, _, rfl, .inr ⟨rfl, lo5, by omega, by omega, by omega⟩⟩
          ·rw [if_neg e6]
           exact wpS_pure ⟨sm3, _, _, _, _, _, _, rfl, lo5, by omega, by omega, by omega⟩
     ·rw [if_neg g1]
      refine wpS_bind (wpS_modify ?_)
      refine wpS_bind (Z08 eb ?_)
      obtain ⟨p, hp, p1, p2⟩ := Z1t false (K b j') sa (i := i') (n := a.size - i') (by omega)
      refine wpS_bind (Z1k ha (sm3.1.trans hk) (by omega) (by omega) hp p1 p2 ?_)
      dsimp only
      by_cases k0 : p > 0
      ·rw [if_pos k0]
       have lo2 := lo'.ba sa p (by omega) fun t ht y hy => Int.le_trans (Z35.1 (p1 t ht)) (sb.from (lst.trans eb) y hy)
       by_cases e1 : (i' + p + 1 == a.size) = true
       ·rw [if_pos e1]
        exact wpS_pure ⟨sm3, _, _, _, _, _, _, _, rfl, .inl ⟨_, rfl, lo2.last sa sb hl (beq_iff_eq.mp e1)⟩⟩
       ·rw [if_neg e1]
        have n1 : ¬ i' + p + 1 = a.size := fun z => e1 (beq_iff_eq.mpr z)
        by_cases e2 : (i' + p == a.size) = true
        ·rw [if_pos e2]
         exact wpS_pure ⟨sm3, _, _, _, _, _, _, _, rfl, .inl ⟨_, rfl, lo2.doneA sb (by have := beq_iff_eq.mp e2; omega)⟩⟩
        ·rw [if_neg e2]
         have n2 : ¬ i' + p = a.size := fun z => e2 (beq_iff_eq.mpr z)
         refine wpS_bind (Z08 eb ?_)
         obtain ⟨ta, qa, ea⟩ := Z27 ha (i := i' + p) (by omega)
         have lo3 := lo2.pb sb eb fun y hy => by
          have z := Z35.2 (p2 p (Nat.le_refl _) (by omega))
          exact Int.le_trans (Int.le_of_lt z) (sa.from (lst.trans ea) y hy)
         by_cases e3 : (j' + 1 == b.size) = true
         ·rw [if_pos e3]
          exact wpS_pure ⟨sm3, _, _, _, _, _, _, _, rfl, .inl ⟨_, rfl, lo3.doneB sa (by have := beq_iff_eq.mp e3; omega)⟩⟩
         ·rw [if_neg e3]
          have n3 : ¬ j' + 1 = b.size := fun z => e3 (beq_iff_eq.mpr z)
          refine wpS_bind (Z08 ea ?_)
          obtain ⟨r, hr, r1, r2⟩ := Z1t true (K a (i' + p)) sb (i := j' + 1) (n := b.size - (j' + 1)) (by omega)
          refine wpS_bind (Z1k hb (sm3.1.trans hk) (by omega) (by omega) hr r1 r2 ?_)
          dsimp only
          by_cases k1 : r > 0
          ·rw [if_pos k1]
           have lo4 := lo3.bb sb r (by omega) fun t ht y hy => Int.le_trans (Int.le_of_lt (Z1l.1 (r1 t ht))) (sa.from (lst.trans ea) y hy)
           by_cases e4 : (j' + 1 + r == b.size) = true
           ·rw [if_pos e4]
            exact wpS_pure ⟨sm3, _, _, _, _, _, _, _, rfl, .inl ⟨_, rfl, lo4.doneB sa (by have := beq_iff_eq.mp e4; omega)⟩⟩
           ·rw [if_neg e4]
            have n4 : ¬ j' + 1 + r = b.size := fun z => e4 (beq_iff_eq.mpr z)
            refine wpS_bind (Z08 ea ?_)
            have ej : b[j' + 1 + r]? = some b[j' + 1 + r] := getElem?_pos _ _ (by omega)
            have lo5 := lo4.pa sa ea fun y hy => by
             have z := Z1l.2 (r2 r (Nat.le_refl _) (by omega))
             have z2 := sb.from (lst.trans ej) y hy
             rw [<- Z1g ej] at z2
             exact Int.le_trans z z2
            by_cases e5 : (i' + p + 1 + 1 == a.size) = true
            ·rw [if_pos e5]
             exact wpS_pure ⟨sm3, _, _, _, _, _, _, _, rfl, .inl ⟨_, rfl, lo5.last sa sb hl (beq_iff_eq.mp e5)⟩⟩
            ·rw [if_neg e5]
             have n5 : ¬ i' + p + 1 + 1 = a.size := fun z => e5 (beq_iff_eq.mpr z)
             by_cases e6 : (decide (p < 7) && decide (r < 7)) = true
             ·rw [if_pos e6]
              exact wpS_pure ⟨sm3, _, _, _, _, _, _, _, rfl, .inr ⟨rfl, lo5, by omega, by omega, by omega⟩⟩
             ·rw [if_neg e6]
              exact wpS_pure ⟨sm3, _, _, _, _, _, _, rfl, lo5, by omega, by omega, by omega⟩
          ·rw [if_neg k1]
           obtain rfl : r = 0 := by omega
           refine wpS_bind (Z08 ea ?_)
           have ej : b[j' + 1]? = some b[j' + 1] := getElem?_pos _ _ (by omega)
           have lo5 := lo3.pa sa ea fun y hy => by
            have z := Z1l.2 (r2 0 (Nat.le_refl _) (by omega))
            have z2 := sb.from (lst.trans ej) y hy
            rw [<- Z1g ej] at z2
            exact Int.le_trans z z2
           by_cases e5 : (i' + p + 1 + 1 == a.size) = true
           ·rw [if_pos e5]
            exact wpS_pure ⟨sm3, _, _, _, _, _, _, _, rfl, .inl ⟨_, rfl, lo5.last sa sb hl (beq_iff_eq.mp e5)⟩⟩
           ·rw [if_neg e5]
            have n5 : ¬ i' + p + 1 + 1 = a.size := fun z => e5 (beq_iff_eq.mpr z)
            by_cases e6 : (decide (p < 7) && decide (0 < 7)) = true
            ·rw [if_pos e6]
             exact wpS_pure ⟨sm3, _, _, _, _, _, _, _, rfl, .inr ⟨rfl, lo5, by omega, by omega, by omega⟩⟩
            ·rw [if_neg e6]
             exact wpS_pure ⟨sm3, _, _, _, _, _, _, rfl, lo5, by omega, by omega, by omega⟩
      ·rw [if_neg k0]
       obtain rfl : p = 0 := by omega
       refine wpS_bind (Z08 eb ?_)
       obtain ⟨ta, qa, ea⟩ := Z27 ha (i := i') (by omega)
       have lo3 := lo'.pb sb eb fun y hy => by
        have z := Z35.2 (p2 0 (Nat.le_refl _) (by omega))
        exact Int.le_trans (Int.le_of_lt z) (sa.from (lst.trans ea) y hy)
       by_cases e3 : (j' + 1 == b.size) = true
       ·rw [if_pos e3]
        exact wpS_pure ⟨sm3, _, _, _, _, _, _, _, rfl, .inl ⟨_, rfl, lo3.doneB sa (by have := beq_iff_eq.mp e3; omega)⟩⟩
       ·rw [if_neg e3]
        have n3 : ¬ j' + 1 = b.size := fun z => e3 (beq_iff_eq.mpr z)
        refine wpS_bind (Z08 ea ?_)
        obtain ⟨r, hr, r1, r2⟩ := Z1t true (K a (i')) sb (i := j' + 1) (n := b.size - (j' + 1)) (by omega)
        refine wpS_bind (Z1k hb (sm3.1.trans hk) (by omega) (by omega) hr r1 r2 ?_)
        dsimp only
        by_cases k1 : r > 0
        ·rw [if_pos k1]
         have lo4 := lo3.bb sb r (by omega) fun t ht y hy => Int.le_trans (Int.le_of_lt (Z1l.1 (r1 t ht))) (sa.from (lst.trans ea) y hy)
         by_cases e4 : (j' + 1 + r == b.size) = true
         ·rw [if_pos e4]
          exact wpS_pure ⟨sm3, _, _, _, _, _, _, _, rfl, .inl ⟨_, rfl, lo4.doneB sa (by have := beq_iff_eq.mp e4; omega)⟩⟩
         ·rw [if_neg e4]
          have n4 : ¬ j' + 1 + r = b.size := fun z => e4 (beq_iff_eq.mpr z)
          refine wpS_bind (Z08 ea ?_)
          have ej : b[j' + 1 + r]? = some b[j' + 1 + r] := getElem?_pos _ _ (by omega)
          have lo5 := lo4.pa sa ea fun y hy => by
           have z := Z1l.2 (r2 r (Nat.le_refl _) (by omega))
           have z2 := sb.from (lst.trans ej) y hy
           rw [<- Z1g ej] at z2
           exact Int.le_trans z z2
          by_cases e5 : (i' + 1 + 1 == a.size) = true
          ·rw [if_pos e5]
           exact wpS_pure ⟨sm3, _, _, _, _, _, _, _, rfl, .inl ⟨_, rfl, lo5.last sa sb hl (beq_iff_eq.mp e5)⟩⟩
          ·rw [if_neg e5]
           have n5 : ¬ i' + 1 + 1 = a.size := fun z => e5 (beq_iff_eq.mpr z)
           by_cases e6 : (decide (0 < 7) && decide (r < 7)) = true
           ·rw [if_pos e6]
            exact wpS_pure ⟨sm3, _, _, _, _, _, _, _, rfl, .inr ⟨rfl, lo5, by omega, by omega, by omega⟩⟩
           ·rw [if_neg e6]
            exact wpS_pure ⟨sm3, _, _, _, _, _, _, rfl, lo5, by omega, by omega, by omega⟩
        ·rw [if_neg k1]
         obtain rfl : r = 0 := by omega
         refine wpS_bind (Z08 ea ?_)
         have ej : b[j' + 1]? = some b[j' + 1] := getElem?_pos _ _ (by omega)
         have lo5 := lo3.pa sa ea fun y hy => by
          have z := Z1l.2 (r2 0 (Nat.le_refl _) (by omega))
          have z2 := sb.from (lst.trans ej) y hy
          rw [<- Z1g ej] at z2
          exact Int.le_trans z z2
         by_cases e5 : (i' + 1 + 1 == a.size) = true
         ·rw [if_pos e5]
          exact wpS_pure ⟨sm3, _, _, _, _, _, _, _, rfl, .inl ⟨_, rfl, lo5.last sa sb hl (beq_iff_eq.mp e5)⟩⟩
         ·rw [if_neg e5]
          have n5 : ¬ i' + 1 + 1 = a.size := fun z => e5 (beq_iff_eq.mpr z)
          by_cases e6 : (decide (0 < 7) && decide (0 < 7)) = true
          ·rw [if_pos e6]
           exact wpS_pure ⟨sm3, _, _, _, _, _, _, _, rfl, .inr ⟨rfl, lo5, by omega, by omega, by omega⟩⟩
          ·rw [if_neg e6]
           exact wpS_pure ⟨sm3, _, _, _, _, _, _, rfl, lo5, by omega, by omega, by omega⟩
end
theorem Hi.pa' {a b out : Array Keyed} {i j : Nat} {p : Keyed} (h : Hi a b out i j) (sa : Sd a.toList) (hi : 1 <= i) (e : a[i - 1]? = some p) (hb : ∀ y ∈ b.toList.take j, key y <= key p) : Hi a b (out.push p) (i - 1) j := by
 obtain ⟨n, rfl⟩ : ∃ n, i = n + 1 := ⟨i - 1, by omega⟩
 exact h.pa sa e hb
theorem Hi.pb' {a b out : Array Keyed} {i j : Nat} {p : Keyed} (h : Hi a b out i j) (sb : Sd b.toList) (hj : 1 <= j) (e : b[j - 1]? = some p) (ha : ∀ y ∈ a.toList.take i, key y <= key p) : Hi a b (out.push p) i (j - 1) := by
 obtain ⟨n, rfl⟩ : ∃ n, j = n + 1 := ⟨j - 1, by omega⟩
 exact h.pb sb e ha
theorem Hi.ba' {a b out : Array Keyed} {i j m : Nat} (h : Hi a b out m j) (sa : Sd a.toList) (hm : i <= m) (hs : m <= a.size) (hb : ∀ t, i <= t -> t < m -> ∀ y ∈ b.toList.take j, key y <= K a t) : Hi a b (out ++ (a.extract i m).reverse) i j := by
 obtain ⟨k, rfl⟩ : ∃ k, m = i + k := ⟨m - i, by omega⟩
 exact Hi.ba sa k i h hs hb
theorem Hi.bb' {a b out : Array Keyed} {i j m : Nat} (h : Hi a b out i m) (sb : Sd b.toList) (hm : j <= m) (hs : m <= b.size) (hb : ∀ t, j <= t -> t < m -> ∀ y ∈ a.toList.take i, key y <= K b t) : Hi a b (out ++ (b.extract j m).reverse) i j := by
 obtain ⟨k, rfl⟩ : ∃ k, m = j + k := ⟨m - j, by omega⟩
 exact Hi.bb sb k j h hs hb
section
variable {prog : Program} {w : World} {A : Around} {E : Value -> Shared -> Prop} {s : Shared}
theorem Z09 {α : Type} {M : Model} {c : Prop} [Decidable c] {t e : StateT SortSt Sem α} {Q : α -> SortSt -> Prop} {st : SortSt} (h1 : c -> wpS M A E s t Q st) (h2 : ¬ c -> wpS M A E s e Q st) : wpS M A E s (if c then t else e) Q st := by
 by_cases h : c
 ·rw [if_pos h]
  exact h1 h
 ·rw [if_neg h]
  exact h2 h
theorem Zhe {a b : Array Keyed} {st : SortSt} {Q : Array Keyed -> SortSt -> Prop} (ha : IntKeys a) (hb : IntKeys b) (sa : Sd a.toList) (sb : Sd b.toList) (hk : kindOf st = oneType') (na : 1 <= a.size) (nb : 1 <= b.size)
  (hf : ∀ y ∈ a.toList, K b 0 <= key y) (hl : ∀ y ∈ b.toList, key y <= K a (a.size - 1)) (h : ∀ r st', Sm st st' -> Mgd a b r -> Q r st') : wpS (model prog w) A E s (mHi a b) Q st := by
 refine wpS_bind (wpS_lift (wpAny_rule ⟨rfl, ?_⟩))
 obtain ⟨t0, q0, e0⟩ := Z27 ha (i := a.size - 1) (by omega)
 refine wpS_bind (Z08 e0 ?_)
 dsimp only
 have hi0 := Hi.start (b := b) sa (by omega : a.size = a.size - 1 + 1) e0 hl
 refine Z09 (fun c1 => ?_) (fun c1 => ?_)
 ·exact wpS_pure (h _ _ ⟨rfl, rfl, rfl, rfl⟩ (hi0.doneA sb (beq_iff_eq.mp c1)))
 have m1 : ¬ a.size - 1 = 0 := fun z => c1 (beq_iff_eq.mpr z)
 refine Z09 (fun c2 => ?_) (fun c2 => ?_)
 ·exact wpS_pure (h _ _ ⟨rfl, rfl, rfl, rfl⟩ (hi0.first sa nb hf (beq_iff_eq.mp c2)))
 have m2 : ¬ b.size = 1 := fun z => c2 (beq_iff_eq.mpr z)
 refine wpS_bind (wpS_get ?_)
 refine wpS_bind (wpS_mono (wpS_forRange (I := fun k c st' => Sm st st' /\ ∃ out i j g, c = (none, i, j, out, g) /\ Hi a b out i j /\ (1 <= i /\ i <= a.size) /\ (2 <= j /\ j <= b.size) /\ i + j + k <= a.size + b.size)
  (Q := fun c st' => Sm st st' /\ ∃ r out i j g, c = (some r, i, j, out, g) /\ Mgd a b r) ?step ?fin ⟨⟨rfl, rfl, rfl, rfl⟩, _, _, _, _, rfl, hi0, by omega, by omega, by omega⟩) ?post)
 case post =>
  rintro c st' ⟨sm, r, out, i, j, g, rfl, mg⟩
  exact wpS_pure (h r st' sm mg)
 case fin =>
  rintro c st' ⟨sm, out, i, j, g, rfl, lo, hi, hj, hn⟩
  exfalso
  omega
 case step =>
  rintro k c st' _ hkn ⟨sm, out, i, j, g, rfl, hio, hi, hj, hn⟩
  dsimp only
  refine wpS_bind (wpS_mono (wpS_forRange (I := fun t c st'' => st'' = st' /\ ∃ o i' j' u v, c = (none, i', j', o, u, v) /\ Hi a b o i' j' /\ (1 <= i' /\ i' <= a.size) /\ (2 <= j' /\ j' <= b.size) /\ i' + j' + t <= i + j)
   (Q := fun c st'' => st'' = st' /\ ∃ r o i' j' u v, c = (r, i', j', o, u, v) /\ ((∃ z, r = some z /\ Mgd a b z) ∨ (r = none /\ Hi a b o i' j' /\ (1 <= i' /\ i' <= a.size) /\ (2 <= j' /\ j' <= b.size) /\ i' + j' < i + j))) ?step1 ?fin1 ⟨rfl, out, i, j, 0, 0, rfl, hio, hi, hj, Nat.le_refl _⟩) ?post1)
  case fin1 =>
   rintro c st'' ⟨rfl, o, i', j', u, v, rfl, hi', hi1, hj', hp'⟩
   exfalso
   omega
  case step1 =>
   rintro t c st'' _ _ ⟨rfl, o, i', j', u, v, rfl, hi', hi1, hj', hp'⟩
   dsimp only
   obtain ⟨tb, qb, eb⟩ := Z27 hb (i := j' - 1) (by omega)
   obtain ⟨ta, qa, ea⟩ := Z27 ha (i := i' - 1) (by omega)
   refine wpS_bind (Z08 eb ?_)
   refine wpS_bind (Z08 ea ?_)
   refine wpS_bind (Z9s (sm.1.trans hk) ?_)
   dsimp only
   refine Z09 (fun hw => ?_) (fun hw => ?_)
   ·have hw := of_decide_eq_true hw
    refine wpS_bind (Z08 ea ?_)
    have hi2 := hi'.pa' sa (by omega) ea fun y hy => Int.le_trans (sb.upto (lst.trans eb) y (by rw [Nat.sub_add_cancel (by omega)]; exact hy)) (Int.le_of_lt hw)
    refine Z09 (fun e1 => ?_) (fun e1 => ?_)
    ·exact wpS_pure ⟨rfl, _, _, _, _, _, _, rfl, .inl ⟨_, rfl, hi2.doneA sb (beq_iff_eq.mp e1)⟩⟩
    ·have n1 : ¬ i' - 1 = 0 := fun z => e1 (beq_iff_eq.mpr z)
     refine Z09 (fun e2 => ?_) (fun e2 => ?_)
     ·exact wpS_pure ⟨rfl, _, _, _, _, _, _, rfl, .inr ⟨rfl, hi2, by omega, by omega, by omega⟩⟩
     ·exact wpS_pure ⟨rfl, _, _, _, _, _, rfl, hi2, by omega, by omega, by omega⟩
   ·have hw : ¬ K b (j' - 1) < K a (i' - 1) := fun z => hw (decide_eq_true z)
    refine wpS_bind (Z08 eb ?_)
    have hi2 := hi'.pb' sb (by omega) eb fun y hy => Int.le_trans (sa.upto (lst.trans ea) y (by rw [Nat.sub_add_cancel (by omega)]; exact hy)) (Int.not_lt.mp hw)
    refine Z09 (fun e1 => ?_) (fun e1 => ?_)
    ·exact wpS_pure ⟨rfl, _, _, _, _, _, _, rfl, .inl ⟨_, rfl, hi2.first sa nb hf (beq_iff_eq.mp e1)⟩⟩
    ·have n1 : ¬ j' - 1 = 1 := fun z => e1 (beq_iff_eq.mpr z)
     refine Z09 (fun e2 => ?_) (fun e2 => ?_)
     ·exact wpS_pure ⟨rfl, _, _, _, _, _, _, rfl, .inr ⟨rfl, hi2, by omega, by omega, by omega⟩⟩
     ·exact wpS_pure ⟨rfl, _, _, _, _, _, rfl, hi2, by omega, by omega, by omega⟩
  case post1 =>
   rintro c st'' ⟨rfl, r, o, i', j', u, v, rfl, hz⟩
   rcases hz with ⟨z, rfl, mg⟩ | ⟨rfl, hi', hi1, hj', hp'⟩
   ·exact wpS_pure ⟨sm, z, _, _, _, _, rfl, mg⟩
   ·dsimp only
    refine wpS_bind (wpS_lift (wpAny_rule ⟨rfl, ?_⟩))
    refine wpS_bind (wpS_mono (wpS_forRange (I := fun t c s3 => Sm st s3 /\ ∃ o i' j' m u v, c = (none, i', j', o, m, u, v) /\ Hi a b o i' j' /\ (1 <= i' /\ i' <= a.size) /\ (2 <= j' /\ j' <= b.size) /\ i' + j' + 1 + t <= i + j)
     (Q := fun c s3 => Sm st s3 /\ ∃ r o i' j' m u v, c = (r, i', j', o, m, u, v) /\ ((∃ z, r = some z /\ Mgd a b z) ∨ (r = none /\ Hi a b o i' j' /\ (1 <= i' /\ i' <= a.size) /\ (2 <= j' /\ j' <= b.size) /\ i' + j' < i + j))) ?step2 ?fin2 ⟨sm, o, i', j', _, u, v, rfl, hi', hi1, hj', by omega⟩) ?post2)
    case fin2 =>
     rintro c s3 ⟨sm3, o, i', j', m, u, v, rfl, lo', hi', hj', hp'⟩
     exfalso
     omega
    case post2 =>
     rintro c s3 ⟨sm3, r, o, i', j', m, u, v, rfl, hz⟩
     rcases hz with ⟨z, rfl, mg⟩ | ⟨rfl, hi', hi1, hj', hp'⟩
     ·exact wpS_pure ⟨sm3, z, _, _, _, _, rfl, mg⟩
     ·dsimp only
      refine wpS_bind (wpS_modify ?_)
      exact wpS_pure ⟨sm3, _, _, _, _, rfl, hi', hi1, hj', by omega⟩
    case step2 =>
     clear hi' hi1 hj' hp'
     rintro t c s3 _ _ ⟨sm3, o, i', j', m, u, v, rfl, hi', hi1, hj', hp'⟩
     dsimp only
     obtain ⟨tb, qb, eb⟩ := Z27 hb (i := j' - 1) (by omega)
     refine Z09 (fun g1 => ?_) (fun g1 => ?_)
     ·skip
      refine wpS_bind (wpS_modify ?_)
      refine wpS_bind (Z08 eb ?_)
      obtain ⟨p, hp, p1, p2⟩ := Z1t false (K b (j' - 1)) sa (i := 0) (n := i') (by omega)
      refine wpS_bind (Z1k ha (sm3.1.trans hk) (by omega) (by omega) hp p1 p2 ?_)
      dsimp only
      refine Z09 (fun k0 => ?_) (fun k0 => ?_)
      ·have hi2 := hi'.ba' sa hp (by omega) fun t t1 t2 y hy => by
        have z := Z35.2 (p2 t t1 t2)
        have z2 := sb.upto (lst.trans eb) y (by rw [Nat.sub_add_cancel (by omega)]; exact hy)
        rw [Nat.zero_add] at z
        exact Int.le_trans z2 (Int.le_of_lt z)
       refine Z09 (fun e1 => ?_) (fun e1 => ?_)
       ·exact wpS_pure ⟨sm3, _, _, _, _, _, _, _, rfl, .inl ⟨_, rfl, hi2.doneA sb (beq_iff_eq.mp e1)⟩⟩
       ·have n1 : ¬ p = 0 := fun z => e1 (beq_iff_eq.mpr z)
        refine wpS_bind (Z08 eb ?_)
        obtain ⟨ta, qa, ea⟩ := Z27 ha (i := p - 1) (by omega)
        have hi3 := hi2.pb' sb (by omega) eb fun y hy => by
         have z := Z35.1 (p1 (p - 1) (by omega))
         have z2 := sa.upto (lst.trans ea) y (by rw [Nat.sub_add_cancel (by omega)]; exact hy)
         rw [Nat.zero_add] at z
         exact Int.le_trans z2 z
        refine Z09 (fun e3 => ?_) (fun e3 => ?_)
        ·exact wpS_pure ⟨sm3, _, _, _, _, _, _, _, rfl, .inl ⟨_, rfl, hi3.first sa nb hf (beq_iff_eq.mp e3)⟩⟩
        ·have n3 : ¬ j' - 1 = 1 := fun z => e3 (beq_iff_eq.mpr z)
         refine wpS_bind (Z08 ea ?_)
         obtain ⟨r, hr, r1, r2⟩ := Z1t true (K a (p - 1)) sb (i := 0) (n := j' - 1) (by omega)
         refine wpS_bind (Z1k hb (sm3.1.trans hk) (by omega) (by omega) hr r1 r2 ?_)
         dsimp only
         refine Z09 (fun k1 => ?_) (fun k1 => ?_)
         ·have hi4 := hi3.bb' sb hr (by omega) fun t t1 t2 y hy => by
           have z := Z1l.2 (r2 t t1 t2)
           have z2 := sa.upto (lst.trans ea) y (by rw [Nat.sub_add_cancel (by omega)]; exact hy)
           rw [Nat.zero_add] at z
           exact Int.le_trans z2 z
          refine Z09 (fun e4 => ?_) (fun e4 => ?_)
          ·exact wpS_pure ⟨sm3, _, _, _, _, _, _, _, rfl, .inl ⟨_, rfl, hi4.first sa nb hf (beq_iff_eq.mp e4)⟩⟩
          ·have n4 : ¬ r = 1 := fun z => e4 (beq_iff_eq.mpr z)
           refine Z09 (fun e5 => ?_) (fun e5 => ?_)
           ·exact wpS_pure ⟨sm3, _, _, _, _, _, _, _, rfl, .inl ⟨_, rfl, hi4.doneB sa (beq_iff_eq.mp e5)⟩⟩
           ·have n5 : ¬ r = 0 := fun z => e5 (beq_iff_eq.mpr z)
            refine wpS_bind (Z08 ea ?_)
            have ej : b[r - 1]? = some b[r - 1] := getElem?_pos _ _ (by omega)
            have hi5 := hi4.pa' sa (by omega) ea fun y hy => by
             have z := Z1l.1 (r1 (r - 1) (by omega))
             have z2 := sb.upto (lst.trans ej) y (by rw [Nat.sub_add_cancel (by omega)]; exact hy)
             rw [<- Z1g ej] at z2
             rw [Nat.zero_add] at z
             exact Int.le_trans z2 (Int.le_of_lt z)
            refine Z09 (fun e6 => ?_) (fun e6 => ?_)
            ·exact wpS_pure ⟨sm3, _, _, _, _, _, _, _, rfl, .inl ⟨_, rfl, hi5.doneA sb (beq_iff_eq.mp e6)⟩⟩
            ·have n6 : ¬ p - 1 = 0 := fun z => e6 (beq_iff_eq.mpr z)
             refine Z09 (fun e7 => ?_) (fun e7 => ?_)
             ·exact wpS_pure ⟨sm3, _, _, _, _, _, _, _, rfl, .inr ⟨rfl, hi5, by omega, by omega, by omega⟩⟩
             ·exact wpS_pure ⟨sm3, _, _, _, _, _, _, rfl, hi5, by omega, by omega, by omega⟩
         ·obtain rfl : r = j' - 1 := by omega
          refine wpS_bind (Z08 ea ?_)
          have ej : b[(j' - 1) - 1]? = some b[(j' - 1) - 1] := getElem?_pos _ _ (by omega)
          have hi5 := hi3.pa' sa (by omega) ea fun y hy => by
           have z := Z1l.1 (r1 ((j' - 1) - 1) (by omega))
           have z2 := sb.upto (lst.trans ej) y (by rw [Nat.sub_add_cancel (by omega)]; exact hy)
           rw [<- Z1g ej] at z2
           rw [Nat.zero_add] at z
           exact Int.le_trans z2 (Int.le_of_lt z)
          refine Z09 (fun e6 => ?_) (fun e6 => ?_)
          ·exact wpS_pure ⟨sm3, _, _, _, _, _, _, _, rfl, .inl ⟨_, rfl, hi5.doneA sb (beq_iff_eq.mp e6)⟩⟩
          ·have n6 : ¬ p - 1 = 0 := fun z => e6 (beq_iff_eq.mpr z)
           refine Z09 (fun e7 => ?_) (fun e7 => ?_)
           ·exact wpS_pure ⟨sm3, _, _, _, _, _, _, _, rfl, .inr ⟨rfl, hi5, by omega, by omega, by omega⟩⟩
           ·exact wpS_pure ⟨sm3, _, _, _, _, _, _, rfl, hi5, by omega, by omega, by omega⟩
      ·obtain rfl : i' = p := by omega
       refine wpS_bind (Z08 eb ?_)
       obtain ⟨ta, qa, ea⟩ := Z27 ha (i := i' - 1) (by omega)
       have hi3 := hi'.pb' sb (by omega) eb fun y hy => by
        have z := Z35.1 (p1 (i' - 1) (by omega))
        have z2 := sa.upto (lst.trans ea) y (by rw [Nat.sub_add_cancel (by omega)]; exact hy)
        rw [Nat.zero_add] at z
        exact Int.le_trans z2 z
       refine Z09 (fun e3 => ?_) (fun e3 => ?_)
       ·exact wpS_pure ⟨sm3, _, _, _, _, _, _, _, rfl, .inl ⟨_, rfl, hi3.first sa nb hf (beq_iff_eq.mp e3)⟩⟩
       ·have n3 : ¬ j' - 1 = 1 := fun z => e3 (beq_iff_eq.mpr z)
        refine wpS_bind (Z08 ea ?_)
        obtain ⟨r, hr, r1, r2⟩ := Z1t true (K a (i' - 1)) sb (i := 0) (n := j' - 1) (by omega)
        refine wpS_bind (Z1k hb (sm3.1.trans hk) (by omega) (by omega) hr r1 r2 ?_)
        dsimp only
        refine Z09 (fun k1 => ?_) (fun k1 => ?_)
        ·have hi4 := hi3.bb' sb hr (by omega) fun t t1 t2 y hy => by
          have z := Z1l.2 (r2 t t1 t2)
          have z2 := sa.upto (lst.trans ea) y (by rw [Nat.sub_add_cancel (by omega)]; exact hy)
          rw [Nat.zero_add] at z
          exact Int.le_trans z2 z
         refine Z09 (fun e4 => ?_) (fun e4 => ?_)
         ·exact wpS_pure ⟨sm3, _, _, _, _, _, _, _, rfl, .inl ⟨_, rfl, hi4.first sa nb hf (beq_iff_eq.mp e4)⟩⟩
         ·have n4 : ¬ r = 1 := fun z => e4 (beq_iff_eq.mpr z)
          refine Z09 (fun e5 => ?_) (fun e5 => ?_)
          ·exact wpS_pure ⟨sm3, _, _, _, _, _, _, _, rfl, .inl ⟨_, rfl, hi4.doneB sa (beq_iff_eq.mp e5)⟩⟩
          ·have n5 : ¬ r = 0 := fun z => e5 (beq_iff_eq.mpr z)
           refine wpS_bind (Z08 ea ?_)
           have ej : b[r - 1]? = some b[r - 1] := getElem?_pos _ _ (by omega)
           have hi5 := hi4.pa' sa (by omega) ea fun y hy => by
            have z := Z1l.1 (r1 (r - 1) (by omega))
            have z2 := sb.upto (lst.trans ej) y (by rw [Nat.sub_add_cancel (by omega)]; exact hy)
            rw [<- Z1g ej] at z2
            rw [Nat.zero_add] at z
            exact Int.le_trans z2 (Int.le_of_lt z)
           refine Z09 (fun e6 => ?_) (fun e6 => ?_)
           ·exact wpS_pure ⟨sm3, _, _, _, _, _, _, _, rfl, .inl ⟨_, rfl, hi5.doneA sb (beq_iff_eq.mp e6)⟩⟩
           ·have n6 : ¬ i' - 1 = 0 := fun z => e6 (beq_iff_eq.mpr z)
            refine Z09 (fun e7 => ?_) (fun e7 => ?_)
            ·exact wpS_pure ⟨sm3, _, _, _, _, _, _, _, rfl, .inr ⟨rfl, hi5, by omega, by omega, by omega⟩⟩
            ·exact wpS_pure ⟨sm3, _, _, _, _, _, _, rfl, hi5, by omega, by omega, by omega⟩
        ·obtain rfl : r = j' - 1 := by omega
         refine wpS_bind (Z08 ea ?_)
         have ej : b[(j' - 1) - 1]? = some b[(j' - 1) - 1] := getElem?_pos _ _ (by omega)
         have hi5 := hi3.pa' sa (by omega) ea fun y hy => by
          have z := Z1l.1 (r1 ((j' - 1) - 1) (by omega))
          have z2 := sb.upto (lst.trans ej) y (by rw [Nat.sub_add_cancel (by omega)]; exact hy)
          rw [<- Z1g ej] at z2
          rw [Nat.zero_add] at z
          exact Int.le_trans z2 (Int.le_of_lt z)
         refine Z09 (fun e6 => ?_) (fun e6 => ?_)
         ·exact wpS_pure ⟨sm3, _, _, _, _, _, _, _, rfl, .inl ⟨_, rfl, hi5.doneA sb (beq_iff_eq.mp e6)⟩⟩
         ·have n6 : ¬ i' - 1 = 0 := fun z => e6 (beq_iff_eq.mpr z)
          refine Z09 (fun e7 => ?_) (fun e7 => ?_)
          ·exact wpS_pure ⟨sm3, _, _, _, _, _, _, _, rfl, .inr ⟨rfl, hi5, by omega, by omega, by omega⟩⟩
          ·exact wpS_pure ⟨sm3, _, _, _, _, _, _, rfl, hi5, by omega, by omega, by omega⟩
     ·skip
      refine wpS_bind (wpS_modify ?_)
      refine wpS_bind (Z08 eb ?_)
      obtain ⟨p, hp, p1, p2⟩ := Z1t false (K b (j' - 1)) sa (i := 0) (n := i') (by omega)
      refine wpS_bind (Z1k ha (sm3.1.trans hk) (by omega) (by omega) hp p1 p2 ?_)
      dsimp only
      refine Z09 (fun k0 => ?_) (fun k0 => ?_)
      ·have hi2 := hi'.ba' sa hp (by omega) fun t t1 t2 y hy => by
        have z := Z35.2 (p2 t t1 t2)
        have z2 := sb.upto (lst.trans eb) y (by rw [Nat.sub_add_cancel (by omega)]; exact hy)
        rw [Nat.zero_add] at z
        exact Int.le_trans z2 (Int.le_of_lt z)
       refine Z09 (fun e1 => ?_) (fun e1 => ?_)
       ·exact wpS_pure ⟨sm3, _, _, _, _, _, _, _, rfl, .inl ⟨_, rfl, hi2.doneA sb (beq_iff_eq.mp e1)⟩⟩
       ·have n1 : ¬ p = 0 := fun z => e1 (beq_iff_eq.mpr z)
        refine wpS_bind (Z08 eb ?_)
        obtain ⟨ta, qa, ea⟩ := Z27 ha (i := p - 1) (by omega)
        have hi3 := hi2.pb' sb (by omega) eb fun y hy => by
         have z := Z35.1 (p1 (p - 1) (by omega))
         have z2 := sa.upto (lst.trans ea) y (by rw [Nat.sub_add_cancel (by omega)]; exact hy)
         rw [Nat.zero_add] at z
         exact Int.le_trans z2 z
        refine Z09 (fun e3 => ?_) (fun e3 => ?_)
        ·exact wpS_pure ⟨sm3, _, _, _, _, _, _, _, rfl, .inl ⟨_, rfl, hi3.first sa nb hf (beq_iff_eq.mp e3)⟩⟩
        ·have n3 : ¬ j' - 1 = 1 := fun z => e3 (beq_iff_eq.mpr z)
         refine wpS_bind (Z08 ea ?_)
         obtain ⟨r, hr, r1, r2⟩ := Z1t true (K a (p - 1)) sb (i := 0) (n := j' - 1) (by omega)
         refine wpS_bind (Z1k hb (sm3.1.trans hk) (by omega) (by omega) hr r1 r2 ?_)
         dsimp only
         refine Z09 (fun k1 => ?_) (fun k1 => ?_)
         ·have hi4 := hi3.bb' sb hr (by omega) fun t t1 t2 y hy => by
           have z := Z1l.2 (r2 t t1 t2)
           have z2 := sa.upto (lst.trans ea) y (by rw [Nat.sub_add_cancel (by omega)]; exact hy)
           rw [Nat.zero_add] at z
           exact Int.le_trans z2 z
          refine Z09 (fun e4 => ?_) (fun e4 => ?_)
          ·exact wpS_pure ⟨sm3, _, _, _, _, _, _, _, rfl, .inl ⟨_, rfl, hi4.first sa nb hf (beq_iff_eq.mp e4)⟩⟩
          ·have n4 : ¬ r = 1 := fun z => e4 (beq_iff_eq.mpr z)
           refine Z09 (fun e5 => ?_) (fun e5 => ?_)
           ·exact wpS_pure ⟨sm3, _, _, _, _, _, _, _, rfl, .inl ⟨_, rfl, hi4.doneB sa (beq_iff_eq.mp e5)⟩⟩
           ·have n5 : ¬ r = 0 := fun z => e5 (beq_iff_eq.mpr z)
            refine wpS_bind (Z08 ea ?_)
            have ej : b[r - 1]? = some b[r - 1] := getElem?_pos _ _ (by omega)
            have hi5 := hi4.pa' sa (by omega) ea fun y hy => by
             have z := Z1l.1 (r1 (r - 1) (by omega))
             have z2 := sb.upto (lst.trans ej) y (by rw [Nat.sub_add_cancel (by omega)]; exact hy)
             rw [<- Z1g ej] at z2
             rw [Nat.zero_add] at z
             exact Int.le_trans z2 (Int.le_of_lt z)
            refine Z09 (fun e6 => ?_) (fun e6 => ?_)
            ·exact wpS_pure ⟨sm3, _, _, _, _, _, _, _, rfl, .inl ⟨_, rfl, hi5.doneA sb (beq_iff_eq.mp e6)⟩⟩
            ·have n6 : ¬ p - 1 = 0 := fun z => e6 (beq_iff_eq.mpr z)
             refine Z09 (fun e7 => ?_) (fun e7 => ?_)
             ·exact wpS_pure ⟨sm3, _, _, _, _, _, _, _, rfl, .inr ⟨rfl, hi5, by omega, by omega, by omega⟩⟩
             ·exact wpS_pure ⟨sm3, _, _, _, _, _, _, rfl, hi5, by omega, by omega, by omega⟩
         ·obtain rfl : r = j' - 1 := by omega
          refine wpS_bind (Z08 ea ?_)
          have ej : b[(j' - 1) - 1]? = some b[(j' - 1) - 1] := getElem?_pos _ _ (by omega)
          have hi5 := hi3.pa' sa (by omega) ea fun y hy => by
           have z := Z1l.1 (r1 ((j' - 1) - 1) (by omega))
           have z2 := sb.upto (lst.trans ej) y (by rw [Nat.sub_add_cancel (by omega)]; exact hy)
           rw [<- Z1g ej] at z2
           rw [Nat.zero_add] at z
           exact Int.le_trans z2 (Int.le_of_lt z)
          refine Z09 (fun e6 => ?_) (fun e6 => ?_)
          ·exact wpS_pure ⟨sm3, _, _, _, _, _, _, _, rfl, .inl ⟨_, rfl, hi5.doneA sb (beq_iff_eq.mp e6)⟩⟩
          ·have n6 : ¬ p - 1 = 0 := fun z => e6 (beq_iff_eq.mpr z)
           refine Z09 (fun e7 => ?_) (fun e7 => ?_)
           ·exact wpS_pure ⟨sm3, _, _, _, _, _, _, _, rfl, .inr ⟨rfl, hi5, by omega, by omega, by omega⟩⟩
           ·exact wpS_pure ⟨sm3, _, _, _, _, _, _, rfl, hi5, by omega, by omega, by omega⟩
      ·obtain rfl : i' = p := by omega
       refine wpS_bind (Z08 eb ?_)
       obtain ⟨ta, qa, ea⟩ := Z27 ha (i := i' - 1) (by omega)
       have hi3 := hi'.pb' sb (by omega) eb fun y hy => by
        have z := Z35.1 (p1 (i' - 1) (by omega))
        have z2 := sa.upto (lst.trans ea) y (by rw [Nat.sub_add_cancel (by omega)]; exact hy)
        rw [Nat.zero_add] at z
        exact Int.le_trans z2 z
       refine Z09 (fun e3 => ?_) (fun e3 => ?_)
       ·exact wpS_pure ⟨sm3, _, _, _, _, _, _, _, rfl, .inl ⟨_, rfl, hi3.first sa nb hf (beq_iff_eq.mp e3)⟩⟩
       ·have n3 : ¬ j' - 1 = 1 := fun z => e3 (beq_iff_eq.mpr z)
        refine wpS_bind (Z08 ea ?_)
        obtain ⟨r, hr, r1, r2⟩ := Z1t true (K a (i' - 1)) sb (i := 0) (n := j' - 1) (by omega)
        refine wpS_bind (Z1k hb (sm3.1.trans hk) (by omega) (by omega) hr r1 r2 ?_)
        dsimp only
        refine Z09 (fun k1 => ?_) (fun k1 => ?_)
        ·have hi4 := hi3.bb' sb hr (by omega) fun t t1 t2 y hy => by
          have z := Z1l.2 (r2 t t1 t2)
          have z2 := sa.upto (lst.trans ea) y (by rw [Nat.sub_add_cancel (by omega)]; exact hy)
          rw [Nat.zero_add] at z
          exact Int.le_trans z2 z
         refine Z09 (fun e4 => ?_) (fun e4 => ?_)
         ·exact wpS_pure ⟨sm3, _, _, _, _, _, _, _, rfl, .inl ⟨_, rfl, hi4.first sa nb hf (beq_iff_eq.mp e4)⟩⟩
         ·have n4 : ¬ r = 1 := fun z => e4 (beq_iff_eq.mpr z)
          refine Z09 (fun e5 => ?_) (fun e5 => ?_)
          ·exact wpS_pure ⟨sm3, _, _, _, _, _, _, _, rfl, .inl ⟨_, rfl, hi4.doneB sa (beq_iff_eq.mp e5)⟩⟩
          ·have n5 : ¬ r = 0 := fun z => e5 (beq_iff_eq.mpr z)
           refine wpS_bind (Z08 ea ?_)
           have ej : b[r - 1]? = some b[r - 1] := getElem?_pos _ _ (by omega)
           have hi5 := hi4.pa' sa (by omega) ea fun y hy => by
            have z := Z1l.1 (r1 (r - 1) (by omega))
            have z2 := sb.upto (lst.trans ej) y (by rw [Nat.sub_add_cancel (by omega)]; exact hy)
            rw [<- Z1g ej] at z2
            rw [Nat.zero_add] at z
            exact Int.le_trans z2 (Int.le_of_lt z)
           refine Z09 (fun e6 => ?_) (fun e6 => ?_)
           ·exact wpS_pure ⟨sm3, _, _, _, _, _, _, _, rfl, .inl ⟨_, rfl, hi5.doneA sb (beq_iff_eq.mp e6)⟩⟩
           ·have n6 : ¬ i' - 1 = 0 := fun z => e6 (beq_iff_eq.mpr z)
            refine Z09 (fun e7 => ?_) (fun e7 => ?_)
            ·exact wpS_pure ⟨sm3, _, _, _, _, _, _, _, rfl, .inr ⟨rfl, hi5, by omega, by omega, by omega⟩⟩
            ·exact wpS_pure ⟨sm3, _, _, _, _, _, _, rfl, hi5, by omega, by omega, by omega⟩
        ·obtain rfl : r = j' - 1 := by omega
         refine wpS_bind (Z08 ea ?_)
         have ej : b[(j' - 1) - 1]? = some b[(j' - 1) - 1] := getElem?_pos _ _ (by omega)
         have hi5 := hi3.pa' sa (by omega) ea fun y hy => by
          have z := Z1l.1 (r1 ((j' - 1) - 1) (by omega))
          have z2 := sb.upto (lst.trans ej) y (by rw [Nat.sub_add_cancel (by omega)]; exact hy)
          rw [<- Z1g ej] at z2
          rw [Nat.zero_add] at z
          exact Int.le_trans z2 (Int.le_of_lt z)
         refine Z09 (fun e6 => ?_) (fun e6 => ?_)
         ·exact wpS_pure ⟨sm3, _, _, _, _, _, _, _, rfl, .inl ⟨_, rfl, hi5.doneA sb (beq_iff_eq.mp e6)⟩⟩
         ·have n6 : ¬ i' - 1 = 0 := fun z => e6 (beq_iff_eq.mpr z)
          refine Z09 (fun e7 => ?_) (fun e7 => ?_)
          ·exact wpS_pure ⟨sm3, _, _, _, _, _, _, _, rfl, .inr ⟨rfl, hi5, by omega, by omega, by omega⟩⟩
          ·exact wpS_pure ⟨sm3, _, _, _, _, _, _, rfl, hi5, by omega, by omega, by omega⟩
end
structure Bs (a₀ : Array Keyed) (P : Array (Nat × Nat × Nat)) (st : SortSt) : Prop where
 perm : (arrOf st).Perm a₀
 kind : kindOf st = oneType'
 failed : failedOf st = none
 pend : pendingOf st = P
def Ds (a₀ : Array Keyed) : Prop := (a₀.toList.map key).Nodup
def SIn (xs : Array Keyed) (lo hi : Nat) : Prop := ∀ i j, lo <= i -> i <= j -> j < hi -> K xs i <= K xs j
def Pre (lo : Nat) (xs ys : Array Keyed) : Prop := ∀ i : Nat, i < lo -> ys[i]? = xs[i]?
theorem Bs.size {a₀ : Array Keyed} {P : Array (Nat × Nat × Nat)} {st : SortSt} (h : Bs a₀ P st) : (arrOf st).size = a₀.size := h.perm.size_eq
theorem Bs.keys {a₀ : Array Keyed} {P : Array (Nat × Nat × Nat)} {st : SortSt} (h : Bs a₀ P st) (h0 : IntKeys a₀) : IntKeys (arrOf st) := fun p hp => h0 p ((Array.perm_iff_toList_perm.mp h.perm).mem_iff.mp hp)
theorem Bs.arr {a₀ : Array Keyed} {P : Array (Nat × Nat × Nat)} {st : SortSt} (h : Bs a₀ P st) {xs : Array Keyed} (hp : xs.Perm (arrOf st)) : Bs a₀ P (setArr st xs) := ⟨hp.trans h.perm, h.kind, h.failed, h.pend⟩
theorem Bs.ne {a₀ : Array Keyed} {P : Array (Nat × Nat × Nat)} {st : SortSt} (h : Bs a₀ P st) (hd : Ds a₀) {i j : Nat} (hi : i < a₀.size) (hj : j < a₀.size) (hij : i ≠ j) : K (arrOf st) i ≠ K (arrOf st) j := by
 have hi' : i < (arrOf st).size := by rw [h.size]; exact hi
 have hj' : j < (arrOf st).size := by rw [h.size]; exact hj
 have nd : ((arrOf st).toList.map key).Nodup := ((Array.perm_iff_toList_perm.mp h.perm).map key).nodup_iff.mpr hd
 intro e
 rw [Z1g (getElem?_pos _ i hi'), Z1g (getElem?_pos _ j hj')] at e
 have l : ((arrOf st).toList.map key).length = (arrOf st).size := by simp
 have pw := List.pairwise_iff_getElem.mp nd
 rcases Nat.lt_or_gt_of_ne hij with z | z
 ·exact pw i j (by rw [l]; exact hi') (by rw [l]; exact hj') z (by simpa using e)
 ·exact pw j i (by rw [l]; exact hj') (by rw [l]; exact hi') z (by simpa using e.symm)
theorem SIn.more {xs : Array Keyed} {lo x : Nat} (h : SIn xs lo (lo + x)) (hx : 1 <= x) (e : ¬ K xs (lo + x) < K xs (lo + x - 1)) : SIn xs lo (lo + (x + 1)) := by
 intro i j a b c
 by_cases hj : j < lo + x
 ·exact h i j a b hj
 ·obtain rfl : j = lo + x := by omega
  by_cases hi : i = lo + x
  ·subst hi
   exact Int.le_refl _
  ·have z := h i (lo + x - 1) a (by omega) (by omega)
   omega
section
variable {prog : Program} {w : World} {A : Around} {E : Value -> Shared -> Prop} {s : Shared} {a₀ : Array Keyed} {P : Array (Nat × Nat × Nat)}
theorem Z4f {st : SortSt} {i j : Nat} {Q : Option Bool -> SortSt -> Prop} (hB : Bs a₀ P st) (h0 : IntKeys a₀) (hi : i < a₀.size) (hj : j < a₀.size)
  (h : Q (some (decide (K (arrOf st) i < K (arrOf st) j))) st) : wpS (model prog w) A E s (ltAt' i j) Q st := by
 obtain ⟨t, p, e1⟩ := Z27 (hB.keys h0) (i := i) (by rw [hB.size]; exact hi)
 obtain ⟨u, q, e2⟩ := Z27 (hB.keys h0) (i := j) (by rw [hB.size]; exact hj)
 exact wpS_ltAt hB.kind e1 e2 h
theorem Zcu {st : SortSt} {lo nrem : Nat} {Q : Option Nat -> SortSt -> Prop} (h0 : IntKeys a₀) (hd : Ds a₀) (hn : lo + nrem <= a₀.size) (h1 : 1 <= nrem) (hB : Bs a₀ P st)
  (h : ∀ m st', Bs a₀ P st' -> Pre lo (arrOf st) (arrOf st') -> 1 <= m -> m <= nrem -> SIn (arrOf st') lo (lo + m) -> Q (some m) st') : wpS (model prog w) A E s (countRun' lo nrem) Q st := by
 refine wpS_bind (wpS_mono (wpS_forRange (I := fun x c st' => st' = st /\ c = (none, x) /\ SIn (arrOf st) lo (lo + x))
  (Q := fun c st' => st' = st /\ ∃ n, c = (none, n) /\ 1 <= n /\ n <= nrem /\ SIn (arrOf st) lo (lo + n) /\ (n = nrem ∨ K (arrOf st) (lo + n) < K (arrOf st) (lo + n - 1))) ?step ?fin ⟨rfl, rfl, ?init⟩) ?post)
 case init =>
  intro i j a b c
  obtain rfl : i = j := by omega
  exact Int.le_refl _
 case fin =>
  rintro c st' ⟨rfl, rfl, q⟩
  rw [(by omega : max 1 nrem = nrem)] at q ⊢
  exact ⟨rfl, nrem, rfl, h1, Nat.le_refl _, q, .inl rfl⟩
 case step =>
  rintro x c st' hx hxn ⟨rfl, rfl, q⟩
  dsimp only
  refine wpS_bind (Z4f hB h0 (by omega) (by omega) ?_)
  dsimp only
  refine Z09 (fun e => ?_) (fun e => ?_)
  ·exact wpS_pure ⟨rfl, x, rfl, hx, by omega, q, .inr (of_decide_eq_true e)⟩
  ·exact wpS_pure ⟨rfl, rfl, q.more (by omega) (fun z => e (decide_eq_true z))⟩
 case post =>
  rintro c st' ⟨rfl, n, rfl, n1, n2, n3, n4⟩
  dsimp only
  refine Z09 (fun e1 => ?_) (fun e1 => ?_)
  ·exact wpS_pure (h n _ hB (fun _ _ => rfl) n1 n2 n3)
  have m1 : ¬ n = nrem := fun z => e1 (beq_iff_eq.mpr z)
  refine Z09 (fun e2 => ?_) (fun e2 => ?_)
  ·refine wpS_bind (Z4f hB h0 (by omega) (by omega) ?_)
   dsimp only
   have lt : K (arrOf st') lo < K (arrOf st') (lo + n - 1) := by
    have z1 := n3 lo (lo + n - 1) (by omega) (by omega) (by omega)
    have z2 := hB.ne hd (i := lo) (j := lo + n - 1) (by omega) (by omega) (by omega)
    omega
   rw [if_pos (decide_eq_true lt)]
   exact wpS_pure (h n _ hB (fun _ _ => rfl) n1 n2 n3)
  obtain rfl : n = 1 := by omega
  have dn : K (arrOf st') (lo + 1) < K (arrOf st') lo := n4.resolve_left m1
  refine wpS_bind (wpS_lift (wpAny_rule ⟨rfl, ?_⟩))
  refine wpS_bind (wpS_mono (wpS_forRange (I := fun x c st'' => st'' = st' /\ c = (none, x, 0) /\ x <= nrem /\ ∀ i j, lo <= i -> i <= j -> j < lo + x -> K (arrOf st') j <= K (arrOf st') i)
   (Q := fun c st'' => st'' = st' /\ ∃ n, c = (none, n, 0) /\ 2 <= n /\ n <= nrem /\ ∀ i j, lo <= i -> i <= j -> j < lo + n -> K (arrOf st') j <= K (arrOf st') i) ?s2 ?f2 ⟨rfl, rfl, by omega, ?i2⟩) ?p2)
  case i2 =>
   intro i j a b c
   by_cases hij : i = j
   ·subst hij
    exact Int.le_refl _
   ·obtain rfl : i = lo := by omega
    obtain rfl : j = i + 1 := by omega
    exact Int.le_of_lt dn
  case f2 =>
   rintro c st'' ⟨rfl, rfl, q1, q2⟩
   have e : max (1 + 1) nrem = nrem := by omega
   rw [e] at q2 ⊢
   exact ⟨rfl, nrem, rfl, by omega, Nat.le_refl _, q2⟩
  case s2 =>
   rintro x c st'' hx hxn ⟨rfl, rfl, q1, q2⟩
   dsimp only
   refine wpS_bind (Z4f hB h0 (by omega) (by omega) ?_)
   dsimp only
   refine Z09 (fun e => ?_) (fun e => ?_)
   ·rw [if_neg (by omega)]
    refine wpS_pure ⟨rfl, rfl, by omega, fun i j a b c => ?_⟩
    have e := of_decide_eq_true e
    by_cases hj : j < lo + x
    ·exact q2 i j a b hj
    ·obtain rfl : j = lo + x := by omega
     by_cases hi : i = lo + x
     ·subst hi
      exact Int.le_refl _
     ·have z := q2 i (lo + x - 1) a (by omega) (by omega)
      omega
   ·refine wpS_bind (Z4f hB h0 (by omega) (by omega) ?_)
    dsimp only
    have lt : K (arrOf st'') (lo + x - 1) < K (arrOf st'') (lo + x) := by
     have z2 := hB.ne hd (i := lo + x) (j := lo + x - 1) (by omega) (by omega) (by omega)
     have z1 : ¬ K (arrOf st'') (lo + x) < K (arrOf st'') (lo + x - 1) := fun z => e (decide_eq_true z)
     omega
    rw [if_pos (decide_eq_true lt)]
    exact wpS_pure ⟨rfl, x, rfl, by omega, by omega, q2⟩
  case p2 =>
   rintro c st'' ⟨rfl, n, rfl, k1, k2, k3⟩
   dsimp only
   rw [if_neg (by omega)]
   refine wpS_bind (wpS_reverse ?_)
   have hB2 := hB.arr (mirror_perm (arrOf st'') lo (lo + n) ((lo + n - lo) / 2))
   have hz : lo + n <= (arrOf st'').size := by rw [hB.size]; omega
   have pr : Pre lo (arrOf st'') (mirror (arrOf st'') lo (lo + n) ((lo + n - lo) / 2)) := fun i hi => by
    rw [getElem?_mirror_all hz, if_neg (by omega)]
   have sn : SIn (mirror (arrOf st'') lo (lo + n) ((lo + n - lo) / 2)) lo (lo + n) := fun i j a b c => by
    rw [K_mirror hz, K_mirror hz, if_pos (by omega), if_pos (by omega)]
    exact k3 _ _ (by omega) (by omega) (by omega)
   refine wpS_bind (wpS_mono (wpS_forRange (I := fun x c st' => st' = setArr st'' (mirror (arrOf st'') lo (lo + n) ((lo + n - lo) / 2)) /\ c = (none, x) /\ SIn (arrOf st') lo (lo + x))
    (Q := fun c st' => st' = setArr st'' (mirror (arrOf st'') lo (lo + n) ((lo + n - lo) / 2)) /\ ∃ m, c = (none, m) /\ 1 <= m /\ m <= nrem /\ SIn (arrOf st') lo (lo + m)) ?s3 ?f3 ⟨rfl, rfl, sn⟩) ?p3)
   case f3 =>
    rintro c st' ⟨rfl, rfl, q⟩
    rw [(by omega : max n nrem = nrem)] at q ⊢
    exact ⟨rfl, nrem, rfl, h1, Nat.le_refl _, q⟩
   case s3 =>
    rintro x c st' hx hxn ⟨rfl, rfl, q⟩
    dsimp only
    refine wpS_bind (Z4f hB2 h0 (by omega) (by omega) ?_)
    dsimp only
    refine Z09 (fun e => ?_) (fun e => ?_)
    ·exact wpS_pure ⟨rfl, x, rfl, by omega, by omega, q⟩
    ·exact wpS_pure ⟨rfl, rfl, q.more (by omega) (fun z => e (decide_eq_true z))⟩
   case p3 =>
    rintro c st' ⟨rfl, m, rfl, m2, m3, m4⟩
    exact wpS_pure (h m _ hB2 pr m2 m3 m4)
theorem Zcv {st : SortSt} {lo n ok : Nat} {Q : Bool -> SortSt -> Prop} (h0 : IntKeys a₀) (hn : lo + n <= a₀.size) (hok : ok <= n) (hB : Bs a₀ P st) (hs : SIn (arrOf st) lo (lo + ok))
  (h : ∀ st', Bs a₀ P st' -> Pre lo (arrOf st) (arrOf st') -> SIn (arrOf st') lo (lo + n) -> Q true st') : wpS (model prog w) A E s (binarySort' lo n ok) Q st := by
 refine wpS_bind (wpS_mono (wpS_forRange (I := fun k c st' => c = (none, ()) /\ Bs a₀ P st' /\ Pre lo (arrOf st) (arrOf st') /\ SIn (arrOf st') lo (lo + min k n))
  (Q := fun c st' => c = (none, ()) /\ Bs a₀ P st' /\ Pre lo (arrOf st) (arrOf st') /\ SIn (arrOf st') lo (lo + n)) ?step ?fin ⟨rfl, hB, fun _ _ => rfl, ?init⟩) ?post)
 case post =>
  rintro c st' ⟨rfl, b1, b2, b3⟩
  exact wpS_pure (h st' b1 b2 b3)
 case init =>
  intro i j a b c
  by_cases z : ok = 0
  ·obtain rfl : i = j := by omega
   exact Int.le_refl _
  ·exact hs i j a b (by omega)
 case fin =>
  rintro c st' ⟨rfl, b1, b2, b3⟩
  rw [(by omega : min (max (max ok 1) n) n = n)] at b3
  exact ⟨rfl, b1, b2, b3⟩
 case step =>
  rintro k c st' hak hkn ⟨rfl, b1, b2, b3⟩
  rw [(by omega : min k n = k)] at b3
  refine wpS_bind (wpS_mono (wpS_forRange (I := fun x c st'' => st'' = st' /\ ∃ l r, c = (none, l, r) /\ l <= r /\ r <= k /\ r - l <= k - x /\ (∀ i, lo <= i -> i < lo + l -> K (arrOf st') i <= K (arrOf st') (lo + k)) /\ (∀ i, lo + r <= i -> i < lo + k -> K (arrOf st') (lo + k) < K (arrOf st') i))
   (Q := fun c st'' => st'' = st' /\ ∃ l r, c = (none, l, r) /\ l <= k /\ (∀ i, lo <= i -> i < lo + l -> K (arrOf st') i <= K (arrOf st') (lo + k)) /\ (∀ i, lo + l <= i -> i < lo + k -> K (arrOf st') (lo + k) < K (arrOf st') i)) ?s2 ?f2 ⟨rfl, 0, k, rfl, by omega, by omega, by omega, fun i a b => by omega, fun i a b => by omega⟩) ?p2)
  case f2 =>
   rintro c st'' ⟨rfl, l, r, rfl, c1, c2, c3, c4, c5⟩
   obtain rfl : l = r := by omega
   exact ⟨rfl, l, l, rfl, c2, c4, c5⟩
  case s2 =>
   rintro x c st'' _ hx ⟨rfl, l, r, rfl, c1, c2, c3, c4, c5⟩
   dsimp only
   refine Z09 (fun e => ?_) (fun e => ?_)
   ·obtain rfl : l = r := by omega
    exact wpS_pure ⟨rfl, l, l, rfl, c2, c4, c5⟩
   ·refine wpS_bind (Z4f b1 h0 (by omega) (by omega) ?_)
    dsimp only
    refine Z09 (fun e1 => ?_) (fun e1 => ?_)
    ·have e1 := of_decide_eq_true e1
     refine wpS_pure ⟨rfl, l, (l + r) / 2, rfl, by omega, by omega, by omega, c4, fun i a b => ?_⟩
     exact Int.lt_of_lt_of_le e1 (b3 _ _ (by omega) a b)
    ·have e1 : ¬ K (arrOf st'') (lo + k) < K (arrOf st'') (lo + (l + r) / 2) := fun z => e1 (decide_eq_true z)
     refine wpS_pure ⟨rfl, (l + r) / 2 + 1, r, rfl, by omega, by omega, by omega, fun i a b => ?_, c5⟩
     exact Int.le_trans (b3 i (lo + (l + r) / 2) a (by omega) (by omega)) (Int.not_lt.mp e1)
  case p2 =>
   rintro c st'' ⟨rfl, l, r, rfl, c2, c4, c5⟩
   dsimp only
   refine wpS_bind (wpS_modify ?_)
   have hz : lo + k < (arrOf st'').size := by rw [b1.size]; omega
   refine wpS_pure ⟨rfl, b1.arr (bubble_perm _ _ _), fun i hi => ?_, ?_⟩
   ·refine Eq.trans ?_ (b2 i hi)
    show (bubble (arrOf st'') (lo + k) (lo + k - (lo + l)))[i]? = _
    rw [getElem?_bubble hz _ (by omega), if_neg (by omega), if_neg (by omega)]
   ·rw [(by omega : min (k + 1) n = k + 1)]
    intro i j a b c
    show K (bubble (arrOf st'') (lo + k) (lo + k - (lo + l))) i <= K (bubble (arrOf st'') (lo + k) (lo + k - (lo + l))) j
    rw [K_bubble hz (by omega), K_bubble hz (by omega), (by omega : lo + k - (lo + k - (lo + l)) = lo + l)]
    repeat' split
    all_goals first
     | (exfalso; omega)
     | exact Int.le_refl _
     | exact c4 _ (by omega) (by omega)
     | exact Int.le_of_lt (c5 _ (by omega) (by omega))
     | exact b3 _ _ (by omega) (by omega) (by omega)
end
theorem Zcw (c : Nat) : ∀ (l : List Keyed) (o : Nat) (xs : Array Keyed), c + o + l.length <= xs.size →
  ((l.zipIdx o).foldl (fun a x => a.setIfInBounds (c + x.2) x.1) xs).toList = xs.toList.take (c + o) ++ (l ++ xs.toList.drop (c + o + l.length))
 | [], o, xs, _ => by
  show xs.toList = xs.toList.take (c + o) ++ ([] ++ xs.toList.drop (c + o + 0))
  rw [List.nil_append, Nat.add_zero, List.take_append_drop]
 | p :: l, o, xs, h => by
  rw [List.length_cons] at h
  rw [List.zipIdx_cons, List.foldl_cons]
  refine (Zcw c l (o + 1) (xs.setIfInBounds (c + o) p) (by rw [Array.size_setIfInBounds]; omega)).trans ?_
  have hl : c + o < xs.toList.length := by rw [Array.length_toList]; omega
  have e : (xs.setIfInBounds (c + o) p).toList = xs.toList.take (c + o) ++ p :: xs.toList.drop (c + o + 1) := by
   rw [Array.toList_setIfInBounds, List.set_eq_take_append_cons_drop, if_pos hl]
  have lt : (xs.toList.take (c + o)).length = c + o := by rw [List.length_take]; omega
  have e1 : (xs.setIfInBounds (c + o) p).toList.take (c + (o + 1)) = xs.toList.take (c + o) ++ [p] := by
   rw [e, List.take_append, lt, List.take_of_length_le (by omega), (by omega : c + (o + 1) - (c + o) = 1)]
   rfl
  have e2 : (xs.setIfInBounds (c + o) p).toList.drop (c + (o + 1) + l.length) = xs.toList.drop (c + o + (l.length + 1)) := by
   rw [e, List.drop_append, lt, List.drop_eq_nil_of_le (by omega), List.nil_append, (by omega : c + (o + 1) + l.length - (c + o) = l.length + 1), List.drop_succ_cons, List.drop_drop]
   congr 1
   omega
  rw [e1, e2, List.append_assoc]
  rfl
theorem Zjd {xs : Array Keyed} {lo m : Nat} (h : SIn xs lo (lo + m)) (hs : lo + m <= xs.size) : Sd ((xs.toList.drop lo).take m) := by
 refine List.pairwise_iff_getElem.mpr fun i j hi hj hij => ?_
 have li : i < m := by rw [List.length_take] at hi; omega
 have lj : j < m := by rw [List.length_take] at hj; omega
 have z := h (lo + i) (lo + j) (by omega) (by omega) (by omega)
 rw [Z1g (getElem?_pos xs (lo + i) (by omega)), Z1g (getElem?_pos xs (lo + j) (by omega))] at z
 simpa [List.getElem_take, List.getElem_drop] using z
theorem Z9w (left : Bool) {x u v : Int} (h : u <= v) (e : byd left x v = true) : byd left x u = true := by
 cases left with
 | true =>
  have e := Z1l.1 e
  exact decide_eq_true (by omega)
 | false =>
  have e := Z35.1 e
  show (!decide (x < u)) = true
  rw [decide_eq_false (by omega)]
  rfl
theorem Zhf {M : Model} {A : Around} {E : Value -> Shared -> Prop} {s : Shared} {st st' : SortSt} {Q : PUnit -> SortSt -> Prop} (h : Q ⟨⟩ st') : wpS M A E s (set st' : StateT SortSt Sem PUnit) Q st := by
 unfold wpS
 rw [StateT.run_set]
 exact wpAny_pure ⟨rfl, h⟩
theorem SIn.of {xs : Array Keyed} (h : Sd xs.toList) {n : Nat} (e : n = xs.size) : SIn xs 0 n := fun i j _ b c => h.K_le b (by omega)
theorem Z9x {a b : Array Keyed} (h : IntKeys a) (hs : ∀ p ∈ b.toList, p ∈ a.toList) : IntKeys b := fun p hp => h p (hs p hp)
section
variable {prog : Program} {w : World} {A : Around} {E : Value -> Shared -> Prop} {s : Shared} {a₀ : Array Keyed} {P : Array (Nat × Nat × Nat)}
theorem Z92 {st : SortSt} {n1 n2 pw p0 : Nat} {Q : Bool -> SortSt -> Prop} (h0 : IntKeys a₀) (hn : n1 + n2 = a₀.size) (g1 : 1 <= n1) (g2 : 1 <= n2) (hB : Bs a₀ #[(0, n1, pw), (n1, n2, p0)] st)
  (s1 : SIn (arrOf st) 0 n1) (s2 : SIn (arrOf st) n1 (n1 + n2)) (h : ∀ st', Bs a₀ #[(0, n1 + n2, pw)] st' -> SIn (arrOf st') 0 a₀.size -> Q true st') : wpS (model prog w) A E s (mergeAt' 0) Q st := by
 refine wpS_bind (wpS_get ?_)
 have e1 : (pendingOf st)[0]? = some (0, n1, pw) := by rw [hB.pend]; rfl
 have e2 : (pendingOf st)[0 + 1]? = some (n1, n2, p0) := by rw [hB.pend]; rfl
 have e3 : ((pendingOf st).setIfInBounds 0 (0, n1 + n2, pw)).eraseIdxIfInBounds (0 + 1) = #[(0, n1 + n2, pw)] := by
  rw [hB.pend]
  refine Array.toList_inj.mp ?_
  rw [Array.toList_eraseIdxIfInBounds]
  rfl
 dsimp only
 rw [e1, e2]
 dsimp only
 rw [e3]
 have hz : (arrOf st).size = n1 + n2 := by rw [hB.size]; omega
 have hK := hB.keys h0
 have sA : Sd ((arrOf st).toList.take n1) := by
  have z := Zjd (lo := 0) (m := n1) (by rw [Nat.zero_add]; exact s1) (by omega)
  exact z
 have lB : ((arrOf st).toList.drop n1).length = n2 := by rw [List.length_drop, Array.length_toList]; omega
 have sB : Sd ((arrOf st).toList.drop n1) := by
  have z := Zjd (lo := n1) (m := n2) s2 (by omega)
  rw [List.take_of_length_le (by omega)] at z
  exact z
 refine wpS_bind (Zhf ?_)
 have hB2 : Bs a₀ #[(0, n1 + n2, pw)] (setPending st #[(0, n1 + n2, pw)]) := ⟨hB.perm, hB.kind, hB.failed, rfl⟩
 have fin : ∀ c : K (arrOf st) (n1 - 1) <= K (arrOf st) n1, Q true (setPending st #[(0, n1 + n2, pw)]) := fun c => by
  refine h _ hB2 fun i j a b d => ?_
  by_cases hj : j < n1
  ·exact s1 i j a b hj
  ·by_cases hi : n1 <= i
   ·exact s2 i j hi b (by omega)
   ·have z1 := s1 i (n1 - 1) a (by omega) (by omega)
    have z2 := s2 n1 j (Nat.le_refl _) (by omega) (by omega)
    exact Int.le_trans z1 (Int.le_trans c z2)
 obtain ⟨t0, q0, f0⟩ := Z27 hK (i := n1) (by omega)
 refine wpS_bind (Z08 f0 ?_)
 obtain ⟨k, hk, k1, k2⟩ : ∃ p, p <= n1 /\ (∀ t, t < p -> byd false (K (arrOf st) n1) (K (arrOf st) (0 + t)) = true) /\ ∀ t, p <= t -> t < n1 -> byd false (K (arrOf st) n1) (K (arrOf st) (0 + t)) = false := by
  refine Z9v n1 (fun t => byd false (K (arrOf st) n1) (K (arrOf st) (0 + t))) fun u v a b c => Z9w _ (s1 (0 + u) (0 + v) (by omega) (by omega) (by omega)) c
 refine wpS_bind (Z1k hK hB.kind (show 0 + n1 <= (arrOf st).size by omega) (by omega) hk k1 k2 ?_)
 dsimp only
 refine Z09 (fun c1 => ?_) (fun c1 => ?_)
 ·have c1 := beq_iff_eq.mp c1
  have z := Z35.1 (k1 (n1 - 1) (by omega))
  rw [Nat.zero_add] at z
  exact wpS_pure (fin z)
 have c1 : ¬ n1 - k = 0 := fun z => c1 (beq_iff_eq.mpr z)
 rw [(by omega : 0 + k + (n1 - k) - 1 = n1 - 1)]
 obtain ⟨t1, q1, f1⟩ := Z27 hK (i := n1 - 1) (by omega)
 refine wpS_bind (Z08 f1 ?_)
 obtain ⟨nb, hnb, b1, b2⟩ : ∃ p, p <= n2 /\ (∀ t, t < p -> byd true (K (arrOf st) (n1 - 1)) (K (arrOf st) (n1 + t)) = true) /\ ∀ t, p <= t -> t < n2 -> byd true (K (arrOf st) (n1 - 1)) (K (arrOf st) (n1 + t)) = false := by
  refine Z9v n2 (fun t => byd true (K (arrOf st) (n1 - 1)) (K (arrOf st) (n1 + t))) fun u v a b c => Z9w _ (s2 (n1 + u) (n1 + v) (by omega) (by omega) (by omega)) c
 refine wpS_bind (Z1k hK hB.kind (show n1 + n2 <= (arrOf st).size by omega) (by omega) hnb b1 b2 ?_)
 dsimp only
 refine Z09 (fun c2 => ?_) (fun c2 => ?_)
 ·have c2 := beq_iff_eq.mp c2
  have z := Z1l.2 (b2 0 (by omega) (by omega))
  exact wpS_pure (fin z)
 have c2 : ¬ nb = 0 := fun z => c2 (beq_iff_eq.mpr z)
 rw [Nat.zero_add]
 have eA : ((arrOf st).extract k n1).toList = ((arrOf st).toList.drop k).take (n1 - k) := by
  rw [Array.toList_extract, List.extract_eq_take_drop]
 have eB : ((arrOf st).extract n1 (n1 + nb)).toList = ((arrOf st).toList.drop n1).take nb := Z26 _ _ _
 have zA : ((arrOf st).extract k n1).size = n1 - k := by rw [Array.size_extract]; omega
 have zB : ((arrOf st).extract n1 (n1 + nb)).size = nb := by rw [Array.size_extract]; omega
 have eA' : ((arrOf st).extract k n1).toList = ((arrOf st).toList.take n1).drop k := by rw [eA, List.drop_take]
 have sdA : Sd ((arrOf st).extract k n1).toList := by rw [eA']; exact sA.sublist (List.drop_sublist _ _)
 have sdB : Sd ((arrOf st).extract n1 (n1 + nb)).toList := by rw [eB]; exact sB.sublist (List.take_sublist _ _)
 have kA : IntKeys ((arrOf st).extract k n1) := Z9x hK fun p hp => by rw [eA] at hp; exact List.mem_of_mem_drop (List.mem_of_mem_take hp)
 have kB : IntKeys ((arrOf st).extract n1 (n1 + nb)) := Z9x hK fun p hp => by rw [eB] at hp; exact List.mem_of_mem_drop (List.mem_of_mem_take hp)
 have KA : ∀ t, t < n1 - k -> K ((arrOf st).extract k n1) t = K (arrOf st) (k + t) := fun t ht => by
  unfold K
  rw [Array.getElem?_extract, if_pos (by omega)]
 have KB : ∀ t, t < nb -> K ((arrOf st).extract n1 (n1 + nb)) t = K (arrOf st) (n1 + t) := fun t ht => by
  unfold K
  rw [Array.getElem?_extract, if_pos (by omega)]
 have atA : ∀ y ∈ ((arrOf st).extract k n1).toList, ∃ t, k <= t /\ t < n1 /\ key y = K (arrOf st) t := fun y hy => by
  obtain ⟨t, ht⟩ := List.mem_iff_getElem?.mp hy
  have l : t < n1 - k := by
   obtain ⟨q, _⟩ := List.getElem?_eq_some_iff.mp ht
   rw [Array.length_toList, zA] at q
   exact q
  rw [lst] at ht
  exact ⟨k + t, by omega, by omega, by rw [<- KA t l, Z1g ht]⟩
 have atB : ∀ y ∈ ((arrOf st).extract n1 (n1 + nb)).toList, ∃ t, t < nb /\ key y = K (arrOf st) (n1 + t) := fun y hy => by
  obtain ⟨t, ht⟩ := List.mem_iff_getElem?.mp hy
  have l : t < nb := by
   obtain ⟨q, _⟩ := List.getElem?_eq_some_iff.mp ht
   rw [Array.length_toList, zB] at q
   exact q
  rw [lst] at ht
  exact ⟨t, l, by rw [<- KB t l, Z1g ht]⟩
 have hf : ∀ y ∈ ((arrOf st).extract k n1).toList, K ((arrOf st).extract n1 (n1 + nb)) 0 <= key y := fun y hy => by
  obtain ⟨t, a, b, e⟩ := atA y hy
  rw [e, KB 0 (by omega)]
  have z := Z35.2 (k2 t a b)
  rw [Nat.zero_add] at z
  exact Int.le_of_lt z
 have hl : ∀ y ∈ ((arrOf st).extract n1 (n1 + nb)).toList, key y <= K ((arrOf st).extract k n1) (((arrOf st).extract k n1).size - 1) := fun y hy => by
  obtain ⟨t, a, e⟩ := atB y hy
  rw [e, zA, KA _ (by omega), (by omega : k + (n1 - k - 1) = n1 - 1)]
  exact Int.le_of_lt (Z1l.1 (b1 t a))
 have last : ∀ (r : Array Keyed) (st' : SortSt), Sm (setPending st #[(0, n1 + n2, pw)]) st' -> Mgd ((arrOf st).extract k n1) ((arrOf st).extract n1 (n1 + nb)) r →
   Q ((failedOf st').isNone) (setArr st' (r.toList.zipIdx.foldl (fun a x => a.setIfInBounds (k + x.2) x.1) (arrOf st'))) := fun r st' sm mg => by
  have ea : arrOf st' = arrOf st := sm.2.1
  have ef : failedOf st' = none := sm.2.2.2.trans hB.failed
  rw [ef, ea]
  have lr : r.toList.length = (n1 - k) + nb := by
   rw [mg.1.length_eq, List.length_append, Array.length_toList, Array.length_toList, zA, zB]
  have ep := Zcw k r.toList 0 (arrOf st) (by omega)
  rw [lr, Nat.add_zero, (by omega : k + (n1 - k + nb) = n1 + nb)] at ep
  have eL : (arrOf st).toList = (arrOf st).toList.take k ++ ((((arrOf st).extract k n1).toList ++ ((arrOf st).extract n1 (n1 + nb)).toList) ++ (arrOf st).toList.drop (n1 + nb)) := by
   have u1 : (arrOf st).toList.drop n1 = ((arrOf st).toList.drop n1).take nb ++ (arrOf st).toList.drop (n1 + nb) := by
    rw [<- List.drop_drop]
    exact (List.take_append_drop _ _).symm
   have u2 : (arrOf st).toList.drop k = ((arrOf st).toList.drop k).take (n1 - k) ++ (arrOf st).toList.drop n1 := by
    have z := List.drop_drop (i := n1 - k) (j := k) (l := (arrOf st).toList)
    rw [(by omega : k + (n1 - k) = n1)] at z
    rw [<- z]
    exact (List.take_append_drop _ _).symm
   rw [eA, eB, List.append_assoc, <- u1, <- u2]
   exact (List.take_append_drop _ _).symm
  have pm : (r.toList.zipIdx.foldl (fun a x => a.setIfInBounds (k + x.2) x.1) (arrOf st)).Perm (arrOf st) := by
   refine Array.perm_iff_toList_perm.mpr ?_
   rw [ep]
   refine List.Perm.trans ?_ (List.Perm.of_eq eL.symm)
   exact List.Perm.append_left _ (List.Perm.append_right _ mg.1)
  have hk1 : ∀ x ∈ (arrOf st).toList.take k, ∃ t, t < k /\ key x = K (arrOf st) t := fun x hx => by
   obtain ⟨t, ht⟩ := List.mem_iff_getElem?.mp hx
   rw [List.getElem?_take] at ht
   by_cases l : t < k
   ·rw [if_pos l, lst] at ht
    exact ⟨t, l, (Z1g ht).symm⟩
   ·rw [if_neg l] at ht
    cases ht
  have hk2 : ∀ y ∈ (arrOf st).toList.drop (n1 + nb), ∃ t, nb <= t /\ t < n2 /\ key y = K (arrOf st) (n1 + t) := fun y hy => by
   obtain ⟨t, ht⟩ := List.mem_iff_getElem?.mp hy
   rw [List.getElem?_drop, lst] at ht
   obtain ⟨q, _⟩ := Array.getElem?_eq_some_iff.mp ht
   refine ⟨nb + t, by omega, by omega, ?_⟩
   rw [<- Z1g ht]
   congr 1
   omega
  have bt : ∀ y ∈ r.toList, (∃ t, k <= t /\ t < n1 /\ key y = K (arrOf st) t) ∨ ∃ t, t < nb /\ key y = K (arrOf st) (n1 + t) := fun y hy => by
   rcases List.mem_append.mp (mg.1.mem_iff.mp hy) with z | z
   ·exact .inl (atA y z)
   ·exact .inr (atB y z)
  have sd : Sd (r.toList.zipIdx.foldl (fun a x => a.setIfInBounds (k + x.2) x.1) (arrOf st)).toList := by
   rw [ep]
   have low : ∀ t, t < k -> K (arrOf st) t <= K (arrOf st) n1 := fun t ht => by
    have z := Z35.1 (k1 t ht)
    rw [Nat.zero_add] at z
    exact z
   have high : ∀ t, nb <= t -> t < n2 -> K (arrOf st) (n1 - 1) <= K (arrOf st) (n1 + t) := fun t a b => Z1l.2 (b2 t a b)
   refine List.pairwise_append.mpr ⟨?_, List.pairwise_append.mpr ⟨mg.2, ?_, fun x hx y hy => ?_⟩, fun x hx y hy => ?_⟩
   ·have q : Sd (((arrOf st).toList.take n1).take k) := sA.sublist (List.take_sublist _ _)
    rw [List.take_take, Nat.min_eq_left hk] at q
    exact q
   ·have q : Sd (((arrOf st).toList.drop n1).drop nb) := sB.sublist (List.drop_sublist _ _)
    rw [List.drop_drop] at q
    exact q
   ·obtain ⟨v, v1, v2, ey⟩ := hk2 y hy
    rw [ey]
    rcases bt x hx with ⟨t, a, b, e⟩ | ⟨t, a, e⟩
    ·rw [e]
     exact Int.le_trans (s1 t (n1 - 1) (by omega) (by omega) (by omega)) (high v v1 v2)
    ·rw [e]
     exact s2 _ _ (by omega) (by omega) (by omega)
   ·obtain ⟨u, u1, ex⟩ := hk1 x hx
    rw [ex]
    rcases List.mem_append.mp hy with hy | hy
    ·rcases bt y hy with ⟨t, a, b, e⟩ | ⟨t, a, e⟩
     ·rw [e]
      exact s1 u t (by omega) (by omega) b
     ·rw [e]
      exact Int.le_trans (low u u1) (s2 n1 (n1 + t) (by omega) (by omega) (by omega))
    ·obtain ⟨v, v1, v2, ey⟩ := hk2 y hy
     rw [ey]
     exact Int.le_trans (low u u1) (s2 n1 (n1 + v) (by omega) (by omega) (by omega))
  refine h _ ⟨pm.trans hB.perm, sm.1.trans hB.kind, ef, sm.2.2.1⟩ (SIn.of sd ?_)
  rw [pm.size_eq, hB.size]
 refine Z09 (fun c3 => ?_) (fun c3 => ?_)
 ·refine wpS_bind (Zhd kA kB sdA sdB hB.kind (show 1 <= ((arrOf st).extract k n1).size by omega) (show 1 <= ((arrOf st).extract n1 (n1 + nb)).size by omega) hf hl fun r st' sm mg => ?_)
  refine wpS_bind (wpS_modify ?_)
  refine wpS_bind (wpS_get ?_)
  exact wpS_pure (last r st' sm mg)
 ·refine wpS_bind (Zhe kA kB sdA sdB hB.kind (show 1 <= ((arrOf st).extract k n1).size by omega) (show 1 <= ((arrOf st).extract n1 (n1 + nb)).size by omega) hf hl fun r st' sm mg => ?_)
  refine wpS_bind (wpS_modify ?_)
  refine wpS_bind (wpS_get ?_)
  exact wpS_pure (last r st' sm mg)
end
section
variable {prog : Program} {w : World} {A : Around} {E : Value -> Shared -> Prop} {s : Shared} {a₀ : Array Keyed} {P : Array (Nat × Nat × Nat)}
theorem Zhg {n : Nat} (h1 : 64 <= n) (h2 : n < 128) : minRun' n n 0 = n / 2 + n % 2 := by
 obtain ⟨f, hf⟩ : ∃ f, n = f + 1 + 1 := ⟨n - 2, by omega⟩
 have e : minRun' (f + 1 + 1) n 0 = n / 2 + n % 2 := by
  rw [minRun'_succ, if_neg (by omega), minRun'_succ, if_pos (by omega), Nat.max_eq_right (Nat.zero_le _)]
 rwa [<- hf] at e
def One (a₀ : Array Keyed) (st : SortSt) : Prop := ∃ pr, Bs a₀ #[pr] st /\ SIn (arrOf st) 0 a₀.size
def Two (a₀ : Array Keyed) (st : SortSt) : Prop := ∃ n1 n2 pw, Bs a₀ #[(0, n1, pw), (n1, n2, 0)] st /\ n1 + n2 = a₀.size /\ 1 <= n1 /\ 1 <= n2 /\ SIn (arrOf st) 0 n1 /\ SIn (arrOf st) n1 (n1 + n2)
theorem Zf6 {st : SortSt} {Q : Unit -> SortSt -> Prop} (h0 : IntKeys a₀) (hd : Ds a₀) (hB : Bs a₀ #[] st) (h64 : 64 <= a₀.size) (h128 : a₀.size < 128)
  (h : ∀ st', (arrOf st').Perm a₀ -> failedOf st' = none -> SortedTo (arrOf st') a₀.size -> Q () st') : wpS (model prog w) A E s sortRuns' Q st := by
 refine wpS_bind (wpS_get ?_)
 dsimp only
 rw [hB.size]
 have hmr : (sortPriv% PySem.Builtin.minRun) a₀.size a₀.size 0 = a₀.size / 2 + a₀.size % 2 := Zhg h64 h128
 rw [hmr]
 refine wpS_bind (wpS_mono (wpS_forRange (I := fun x c st' => (x = 0 /\ c = (none, 0) /\ Bs a₀ #[] st') ∨
   (∃ n1, c = (none, n1) /\ (x = 1 ∨ n1 = a₀.size) /\ Bs a₀ #[(0, n1, 0)] st' /\ SIn (arrOf st') 0 n1 /\ a₀.size / 2 + a₀.size % 2 <= n1 /\ n1 <= a₀.size) ∨ (c = (none, a₀.size) /\ Two a₀ st'))
  (Q := fun c st' => c = (none, a₀.size) /\ (One a₀ st' ∨ Two a₀ st')) ?step ?fin (.inl ⟨rfl, rfl, hB⟩)) ?post)
 case fin =>
  rintro c st' (⟨z, _, _⟩ | ⟨n1, rfl, z, b, sn, _, _⟩ | ⟨rfl, t⟩)
  ·omega
  ·obtain rfl : n1 = a₀.size := by omega
   exact ⟨rfl, .inl ⟨_, b, sn⟩⟩
  ·exact ⟨rfl, .inr t⟩
 case step =>
  rintro x c st' _ hx (⟨rfl, rfl, b⟩ | ⟨n1, rfl, hx1, b, sn, m1, m2⟩ | ⟨rfl, t⟩)
  ·dsimp only
   rw [if_neg (by omega)]
   refine wpS_bind (Zcu h0 hd (by omega) (by omega) b fun m st2 b2 _ g1 g2 g3 => ?_)
   dsimp only
   refine Z09 (fun e => ?_) (fun e => ?_)
   ·refine wpS_bind (wpS_lift (wpAny_rule ⟨rfl, ?_⟩))
    refine wpS_bind (Zcv h0 (by omega) (by omega) b2 g3 fun st3 b3 _ s3 => ?_)
    refine wpS_bind (wpS_get ?_)
    have hb : (pendingOf st3).back? = none := by rw [b3.pend]; rfl
    rw [hb]
    dsimp only
    refine wpS_bind (wpS_modify (wpS_pure (.inr (.inl ⟨_, rfl, .inl rfl, ⟨b3.perm, b3.kind, b3.failed, ?_⟩, s3, by omega, by omega⟩))))
    show (pendingOf st3).push (0, min (a₀.size - 0) (a₀.size / 2 + a₀.size % 2), 0) = _
    rw [b3.pend, Nat.zero_add]
    rfl
   ·refine wpS_bind (wpS_get ?_)
    have hb : (pendingOf st2).back? = none := by rw [b2.pend]; rfl
    rw [hb]
    dsimp only
    refine wpS_bind (wpS_modify (wpS_pure (.inr (.inl ⟨_, rfl, .inl rfl, ⟨b2.perm, b2.kind, b2.failed, ?_⟩, g3, by omega, by omega⟩))))
    show (pendingOf st2).push (0, m, 0) = _
    rw [b2.pend, Nat.zero_add]
    rfl
  ·dsimp only
   refine Z09 (fun e => ?_) (fun e => ?_)
   ·obtain rfl : n1 = a₀.size := by omega
    exact wpS_pure ⟨rfl, .inl ⟨_, b, sn⟩⟩
   ·obtain rfl : x = 1 := by omega
    have keep : ∀ {st3 : SortSt}, Pre n1 (arrOf st') (arrOf st3) -> SIn (arrOf st3) 0 n1 := fun pr i j u v y => by
     rw [K_congr (pr i (by omega)), K_congr (pr j y)]
     exact sn i j u v y
    refine wpS_bind (Zcu h0 hd (by omega) (by omega) b fun m st2 b2 pr2 g1 g2 g3 => ?_)
    dsimp only
    refine Z09 (fun e => ?_) (fun e => ?_)
    ·refine wpS_bind (wpS_lift (wpAny_rule ⟨rfl, ?_⟩))
     rw [(by omega : min (a₀.size - n1) (a₀.size / 2 + a₀.size % 2) = a₀.size - n1)]
     refine wpS_bind (Zcv h0 (by omega) (by omega) b2 g3 fun st3 b3 pr3 s3 => ?_)
     have pr : Pre n1 (arrOf st') (arrOf st3) := fun i hi => (pr3 i hi).trans (pr2 i hi)
     refine wpS_bind (wpS_get ?_)
     have hb : (pendingOf st3).back? = some (0, n1, 0) := by rw [b3.pend]; rfl
     rw [hb]
     dsimp only
     refine wpS_bind (wpS_mono (wpS_forRange (I := fun _ c st'' => st'' = st3 /\ c = (none, ())) (Q := fun c st'' => st'' = st3 /\ c = (none, ())) ?s4 (fun _ _ z => z) ⟨rfl, rfl⟩) ?p4)
     case s4 =>
      rintro y c st'' _ _ ⟨rfl, rfl⟩
      refine wpS_bind (wpS_get ?_)
      have hp : (sortPriv% PySem.Builtin.SortState.pending) st'' = #[(0, n1, 0)] := b3.pend
      rw [hp]
      exact wpS_pure ⟨rfl, rfl⟩
     case p4 =>
      rintro c st'' ⟨rfl, rfl⟩
      dsimp only
      refine wpS_bind (wpS_modify (wpS_bind (wpS_modify (wpS_pure (.inr (.inr ⟨?_, n1, a₀.size - n1, power' a₀.size (2 * 0 + n1) (2 * 0 + n1 + n1 + (a₀.size - n1)) a₀.size, ⟨b3.perm, b3.kind, b3.failed, ?_⟩, by omega, by omega, by omega, (keep pr), s3⟩))))))
      ·rw [(by omega : n1 + (a₀.size - n1) = a₀.size)]
      ·show ((pendingOf _).modify ((pendingOf _).size - 1) _).push _ = _
       rw [b3.pend]
       rfl
    ·obtain rfl : m = a₀.size - n1 := by omega
     refine wpS_bind (wpS_get ?_)
     have hb : (pendingOf st2).back? = some (0, n1, 0) := by rw [b2.pend]; rfl
     rw [hb]
     dsimp only
     refine wpS_bind (wpS_mono (wpS_forRange (I := fun _ c st'' => st'' = st2 /\ c = (none, ())) (Q := fun c st'' => st'' = st2 /\ c = (none, ())) ?s4 (fun _ _ z => z) ⟨rfl, rfl⟩) ?p4)
     case s4 =>
      rintro y c st'' _ _ ⟨rfl, rfl⟩
      refine wpS_bind (wpS_get ?_)
      have hp : (sortPriv% PySem.Builtin.SortState.pending) st'' = #[(0, n1, 0)] := b2.pend
      rw [hp]
      exact wpS_pure ⟨rfl, rfl⟩
     case p4 =>
      rintro c st'' ⟨rfl, rfl⟩
      dsimp only
      refine wpS_bind (wpS_modify (wpS_bind (wpS_modify (wpS_pure (.inr (.inr ⟨?_, n1, a₀.size - n1, power' a₀.size (2 * 0 + n1) (2 * 0 + n1 + n1 + (a₀.size - n1)) a₀.size, ⟨b2.perm, b2.kind, b2.failed, ?_⟩, by omega, by omega, by omega, (keep pr2), g3⟩))))))
      ·rw [(by omega : n1 + (a₀.size - n1) = a₀.size)]
      ·show ((pendingOf _).modify ((pendingOf _).size - 1) _).push _ = _
       rw [b2.pend]
       rfl
  ·dsimp only
   rw [if_pos (Nat.le_refl _)]
   exact wpS_pure ⟨rfl, .inr t⟩
 case post =>
  rintro c st' ⟨rfl, hc⟩
  dsimp only
  refine wpS_bind (wpS_mono (wpS_forRange (I := fun x c st'' => c = (none, ()) /\ (One a₀ st'' ∨ (x = 0 /\ Two a₀ st''))) (Q := fun c st'' => c = (none, ()) /\ One a₀ st'') ?s2 ?f2 ⟨rfl, hc.imp id fun z => ⟨rfl, z⟩⟩) ?p2)
  case f2 =>
   rintro c st'' ⟨rfl, z | ⟨z, _⟩⟩
   ·exact ⟨rfl, z⟩
   ·omega
  case s2 =>
   rintro x c st'' _ hx ⟨rfl, ⟨pr, b, sn⟩ | ⟨rfl, n1, n2, pw, b, e, g1, g2, s1, s2⟩⟩
   ·refine wpS_bind (wpS_get ?_)
    have hp : (sortPriv% PySem.Builtin.SortState.pending) st'' = #[pr] := b.pend
    rw [hp, if_pos (show #[pr].size <= 1 from Nat.le_refl 1)]
    exact wpS_pure ⟨rfl, pr, b, sn⟩
   ·refine wpS_bind (wpS_get ?_)
    have hp : (sortPriv% PySem.Builtin.SortState.pending) st'' = #[(0, n1, pw), (n1, n2, 0)] := b.pend
    rw [hp, if_neg (show ¬ #[(0, n1, pw), (n1, n2, 0)].size <= 1 from (by decide : ¬ 2 <= 1))]
    refine wpS_bind (Z92 h0 e g1 g2 b s1 s2 fun st3 b3 s3 => ?_)
    exact wpS_pure ⟨rfl, .inl ⟨_, b3, s3⟩⟩
  case p2 =>
   rintro c st'' ⟨rfl, pr, b, sn⟩
   exact wpS_pure (h st'' b.perm b.failed fun i j u v => sn i j (Nat.zero_le _) u v)
end
def Rs (p : Array Nat) : Prop := p.toList.Pairwise (· < ·)
theorem Rs.lt {p : Array Nat} (h : Rs p) {i j : Nat} (hij : i < j) (hj : j < p.size) : p[i]'(by omega) < p[j] := by
 have q := List.pairwise_iff_getElem.mp h i j (by simpa using Nat.lt_trans hij hj) (by simpa using hj) hij
 simpa using q
theorem Rs.le {p : Array Nat} (h : Rs p) {i j : Nat} (hij : i <= j) (hj : j < p.size) : p[i]'(by omega) <= p[j] := by
 rcases Nat.lt_or_eq_of_le hij with z | z
 ·exact Nat.le_of_lt (h.lt z hj)
 ·subst z
  exact Nat.le_refl _
theorem Z6t {p : Array Nat} (h : Rs p) (x : Nat) : ∀ (f lo hi : Nat), hi <= p.size -> hi - lo <= f -> lo <= hi -> (∀ i (q : i < p.size), i < lo -> p[i] < x) -> (∀ i (q : i < p.size), hi <= i -> x <= p[i]) →
  SetTable.below.go p x f lo hi <= p.size /\ (∀ i (q : i < p.size), i < SetTable.below.go p x f lo hi -> p[i] < x) /\ ∀ i (q : i < p.size), SetTable.below.go p x f lo hi <= i -> x <= p[i]
 | 0, lo, hi, a, b, c, d, e => by
  obtain rfl : lo = hi := by omega
  exact ⟨a, d, e⟩
 | f + 1, lo, hi, a, b, c, d, e => by
  unfold SetTable.below.go
  by_cases z : lo < hi
  ·rw [if_pos z]
   have hm : (lo + hi) / 2 < p.size := by omega
   have g : p.getD ((lo + hi) / 2) x = p[(lo + hi) / 2] := by rw [Array.getD_eq_getD_getElem?, getElem?_pos p _ hm]; rfl
   dsimp only
   rw [g]
   by_cases y : p[(lo + hi) / 2] < x
   ·rw [if_pos y]
    exact Z6t h x f _ hi a (by omega) (by omega) (fun i q r => Nat.lt_of_le_of_lt (h.le (by omega) hm) y) e
   ·rw [if_neg y]
    exact Z6t h x f lo _ (by omega) (by omega) (by omega) d fun i q r => Nat.le_trans (Nat.le_of_not_lt y) (h.le r q)
  ·rw [if_neg z]
   obtain rfl : lo = hi := by omega
   exact ⟨a, d, e⟩
theorem Z9y {p : Array Nat} (h : Rs p) (x : Nat) : SetTable.below p x <= p.size /\ (∀ i (q : i < p.size), i < SetTable.below p x -> p[i] < x) /\ ∀ i (q : i < p.size), SetTable.below p x <= i -> x <= p[i] :=
 Z6t h x p.size 0 p.size (Nat.le_refl _) (by omega) (Nat.zero_le _) (fun i q r => absurd r (by omega)) fun i q r => absurd r (by omega)
theorem Z9z {p : Array Nat} (h : Rs p) {x n : Nat} (hn : n <= p.size) (h1 : ∀ i (q : i < p.size), i < n -> p[i] < x) (h2 : ∀ i (q : i < p.size), n <= i -> x <= p[i]) : SetTable.below p x = n := by
 obtain ⟨a, b, c⟩ := Z9y h x
 rcases Nat.lt_trichotomy (SetTable.below p x) n with z | z | z
 ·have u := h1 _ (by omega) z
  have v := c (SetTable.below p x) (by omega) (Nat.le_refl _)
  omega
 ·exact z
 ·have u := b n (by omega) z
  have v := h2 n (by omega) (Nat.le_refl _)
  omega
theorem Rs.put {p : Array Nat} (h : Rs p) {x : Nat} (hx : p[SetTable.below p x]? ≠ some x) : Rs (SetTable.insertAt p (SetTable.below p x) x) := by
 obtain ⟨a, b, c⟩ := Z9y h x
 unfold Rs
 rw [SetTable.toList_insertAt]
 refine List.pairwise_append.mpr ⟨h.sublist (List.take_sublist _ _), List.pairwise_cons.mpr ⟨fun y hy => ?_, h.sublist (List.drop_sublist _ _)⟩, fun u hu y hy => ?_⟩
 ·obtain ⟨i, hi⟩ := List.mem_iff_getElem?.mp hy
  rw [List.getElem?_drop, Array.getElem?_toList] at hi
  obtain ⟨q, rfl⟩ := Array.getElem?_eq_some_iff.mp hi
  have z := c _ q (by omega)
  rcases Nat.lt_or_eq_of_le z with z | z
  ·exact z
  ·exfalso
   rcases Nat.eq_zero_or_pos i with e | e
   ·subst e
    refine hx ?_
    rw [Array.getElem?_eq_some_iff]
    exact ⟨q, z.symm⟩
   ·have w := c (SetTable.below p x) (by omega) (Nat.le_refl _)
    have v := h.lt (i := SetTable.below p x) (j := SetTable.below p x + i) (by omega) q
    omega
 ·obtain ⟨i, hi⟩ := List.mem_iff_getElem?.mp hu
  rw [List.getElem?_take] at hi
  have ux : u < x := by
   by_cases l : i < SetTable.below p x
   ·rw [if_pos l, Array.getElem?_toList] at hi
    obtain ⟨q, rfl⟩ := Array.getElem?_eq_some_iff.mp hi
    exact b i q l
   ·rw [if_neg l] at hi
    cases hi
  rcases List.mem_cons.mp hy with rfl | hy
  ·exact ux
  ·obtain ⟨k, hk⟩ := List.mem_iff_getElem?.mp hy
   rw [List.getElem?_drop, Array.getElem?_toList] at hk
   obtain ⟨q, rfl⟩ := Array.getElem?_eq_some_iff.mp hk
   exact Nat.lt_of_lt_of_le ux (c _ q (by omega))
def Zje (t : SetTable) (j : Nat) : Prop := t.place[SetTable.below t.place j]? ≠ some j
theorem Z80 {t : SetTable} {j : Nat} (h : ∀ i, t.slot j ≠ .live i) : Zje t j := by
 intro e
 refine h (SetTable.below t.place j) ?_
 unfold SetTable.slot
 dsimp only
 rw [if_pos (by rw [e]; exact beq_self_eq_true _)]
theorem Z3t (t : SetTable) (p : SetTable.Probe) : (t.advance p).dummy = p.dummy := by
 unfold SetTable.advance
 split <;> rfl
theorem Z4g {t : SetTable} {ha : Nat -> Int} {h : Int} {j : Nat} {d : Option Nat} : ∀ (f : Nat) (p : SetTable.Probe), (∀ x, p.dummy = some x -> Zje t x) -> SetTable.probe.go t ha h f p = some (.empty j d) -> Zje t j /\ ∀ x, d = some x -> Zje t x
 | 0, p, _, e => by
  unfold SetTable.probe.go at e
  cases e
 | f + 1, p, hp, e => by
  unfold SetTable.probe.go at e
  cases hs : t.slot p.j with
  | empty =>
   rw [hs] at e
   dsimp only at e
   cases e
   exact ⟨Z80 fun i z => (by rw [hs] at z; cases z), hp⟩
  | dummy =>
   rw [hs] at e
   dsimp only at e
   refine Z4g f _ (fun x hx => ?_) e
   rw [Z3t] at hx
   cases hx
   exact Z80 fun i z => by rw [hs] at z; cases z
  | live i =>
   rw [hs] at e
   dsimp only at e
   split at e
   ·cases e
   ·exact Z4g f _ (fun x hx => hp x (by rw [Z3t] at hx; exact hx)) e
theorem Zcx {t : SetTable} {h : Int} {j : Nat} {b : Bool} (e : t.freeSlot h = some (j, b)) : Zje t j := by
 unfold SetTable.freeSlot at e
 split at e
 ·next k d q =>
  obtain ⟨a, c⟩ := Z4g _ _ (fun x z => by cases z) q
  cases d with
  | none =>
   cases e
   exact a
  | some x =>
   cases e
   exact c _ rfl
 ·cases e
theorem Z33 (t : SetTable) (n : Nat) : Rs (t.standIn n).place := by
 show (Array.range n).toList.Pairwise (· < ·)
 rw [Array.toList_range]
 exact List.pairwise_lt_range
theorem Zcy {t : SetTable} (hr : Rs t.place) (es : Array (Int × Value)) (h : Int) (x : Value) : Rs (layNew t es h x).2.1.place /\ (layNew t es h x).2.1.led = t.led := by
 unfold layNew
 split
 ·next j b e =>
  show Rs ((t.put j).1.orStandIn _).place /\ ((t.put j).1.orStandIn _).led = t.led
  unfold SetTable.orStandIn
  split
  ·exact ⟨hr.put (Zcx e), rfl⟩
  ·exact ⟨Z33 _ _, rfl⟩
 ·exact ⟨Z33 _ _, rfl⟩
theorem Zhh (f : Nat -> Option (Nat × Nat)) (hf : ∀ j p, f j = some p -> p.1 = j) (n : Nat) : (((List.range n).filterMap f).map (·.1)).Pairwise (· < ·) := by
 rw [List.pairwise_map, List.pairwise_filterMap]
 refine List.Pairwise.imp ?_ (List.pairwise_lt_range (n := n))
 intro a b hab p hp q hq
 rw [hf a p hp, hf b q hq]
 exact hab
theorem Z93 {t : SetTable} (es : Array (Int × Value)) (n : Nat) : Rs (relayAll t es n).2.1.place /\ (relayAll t es n).2.1.led = t.led := by
 unfold relayAll
 split
 ·next t' order e =>
  dsimp only
  split
  ·unfold SetTable.relaid SetTable.laid at e
   cases q : SetTable.layClean (SetTable.sizeAbove n - 1) (es.map (·.1)) with
   | none =>
    rw [q] at e
    cases e
   | some owner =>
    rw [q] at e
    cases e
    refine ⟨?_, rfl⟩
    refine Zhh (fun j => (owner.getD j none).map fun x => (j, x)) (fun j p hp => ?_) _
    cases z : owner.getD j none with
    | none =>
     rw [z] at hp
     cases hp
    | some y =>
     rw [z] at hp
     cases hp
     rfl
  ·exact ⟨Z33 _ _, rfl⟩
 ·exact ⟨Z33 _ _, rfl⟩
theorem Z6a {α : Type} {l : List α} {i : Nat} (hi : i < l.length) : (l[i] :: l.eraseIdx i).Perm l := by
 rw [List.eraseIdx_eq_take_drop_succ]
 refine List.perm_middle.symm.trans (List.Perm.of_eq ?_)
 rw [<- List.drop_eq_getElem_cons hi, List.take_append_drop]
theorem Zcz {α : Type} (f : Nat -> Nat) : ∀ (n k : Nat) (l : List α) (out : Array α), l.length <= n -> (pickOrder.go f n k l out).toList.Perm (out.toList ++ l)
 | 0, k, l, out, h => by
  obtain rfl : l = [] := List.length_eq_zero_iff.mp (by omega)
  unfold pickOrder.go
  rw [List.append_nil]
 | n + 1, k, l, out, h => by
  unfold pickOrder.go
  cases q : l[f k % l.length]? with
  | none =>
   dsimp only
   have : l = [] := by
    cases l with
    | nil => rfl
    | cons a t =>
     have z := List.getElem?_eq_none_iff.mp q
     have w := Nat.mod_lt (f k) (show 0 < (a :: t).length from Nat.succ_pos _)
     omega
   subst this
   rw [List.append_nil]
  | some x =>
   dsimp only
   obtain ⟨hi, hx⟩ := List.getElem?_eq_some_iff.mp q
   refine (Zcz f n (k + 1) _ _ (by rw [List.length_eraseIdx_of_lt hi]; omega)).trans ?_
   rw [Array.toList_push, List.append_assoc]
   refine List.Perm.append_left _ ?_
   subst hx
   exact Z6a hi
theorem Z59 {α : Type} (f : Nat -> Nat) (xs : Array α) : (pickOrder f xs).toList.Perm xs.toList := by
 refine (Zcz f xs.size 0 xs.toList #[] (by simp)).trans ?_
 exact List.Perm.of_eq (List.nil_append _)
section
variable {M : Model} {A : Around} {E : Value -> Shared -> Prop}
theorem Z81 {src : Source} {n : Nat} {s : Shared} {Q : Nat -> Shared -> Prop} (hn : n ≠ 0) (h : ∀ i d, i < n -> Q i { s with drawn := d }) : wpAny M A (choose src n) Q E s :=
 fun _ _ _ => ⟨hn, h _ _ (Nat.mod_lt _ (Nat.pos_of_ne_zero hn))⟩
theorem Z82 {α : Type} : ∀ (n : Nat) (l : List α) (s : Shared) (Q : List α -> Shared -> Prop), l.length <= n -> (∀ m d, m.Perm l -> Q m { s with drawn := d }) -> wpAny M A (drawOrder n l) Q E s
 | 0, l, s, Q, h, q => by
  obtain rfl : l = [] := List.length_eq_zero_iff.mp (by omega)
  unfold drawOrder
  exact wpAny_pure (q [] s.drawn (List.Perm.refl _))
 | n + 1, [], s, Q, h, q => by
  unfold drawOrder
  exact wpAny_pure (q [] s.drawn (List.Perm.refl _))
 | n + 1, a :: t, s, Q, h, q => by
  unfold drawOrder
  refine wpAny_bind (Z81 (by simp) fun i d hi => ?_)
  have e : (a :: t)[i]? = some (a :: t)[i] := getElem?_pos _ i hi
  rw [e]
  dsimp only
  refine wpAny_bind (Z82 n _ _ _ (by rw [List.length_eraseIdx_of_lt hi]; omega) fun m d' hm => ?_)
  exact wpAny_pure (q _ d' ((List.Perm.cons _ hm).trans (Z6a hi)))
end
def byT (w : World) : Bool := w.params.followText "set-order"
def IS (P : Program) (w : World) (h : Heap) (a : Addr) (l : List Int) : Prop :=
 ∃ o es ep t, h.get? a = some o /\ o.ExactSet /\ o.data = .set es ep t /\ ElemsOf (intKind P w) es.toList /\ (es.toList.map fun e => numOf e.2).Perm l /\ l.Nodup /\ es.size < scanBound /\ t.fits es.size = true /\ Rs t.place /\ t.led = !byT w
theorem IS.keep {P : Program} {w : World} {h h' : Heap} {a : Addr} {l : List Int} (x : IS P w h a l) (k : ∀ o, h.get? a = some o -> h'.get? a = some o) : IS P w h' a l := by
 obtain ⟨o, es, ep, t, ho, r⟩ := x
 exact ⟨o, es, ep, t, k o ho, r⟩
theorem IS.type {P : Program} {w : World} {s : Shared} {a : Addr} {l : List Int} (x : IS P w s.heap a l) : s.TypeIs (.ref a) "set" := by
 obtain ⟨o, es, ep, t, ho, hx, _⟩ := x
 exact ⟨o, ho, hx.1⟩
theorem IS.nd {P : Program} {w : World} {h : Heap} {a : Addr} {l : List Int} (x : IS P w h a l) : l.Nodup := by
 obtain ⟨o, es, ep, t, _, _, _, _, _, nd, _⟩ := x
 exact nd
def Z94 (l : List Int) (k : Int) : List Int := if k ∈ l then l else l ++ [k]
theorem Zhi {l : List Int} {k : Int} (h : l.Nodup) : (Z94 l k).Nodup := by
 unfold Z94
 by_cases e : k ∈ l
 ·rw [if_pos e]
  exact h
 ·rw [if_neg e]
  exact List.nodup_append.mpr ⟨h, List.nodup_cons.mpr ⟨List.not_mem_nil, List.nodup_nil⟩, fun a ha b hb => by rw [List.mem_singleton.mp hb]; exact fun z => e (z ▸ ha)⟩
section
variable {P : Program} {w : World} {A : Around} {E : Value -> Shared -> Prop} {s : Shared}
theorem IS.store {h : Heap} {a : Addr} {o : Obj} {es : Array (Int × Value)} {ep : Nat} {t : SetTable} (ho : h.get? a = some o) (hx : o.ExactSet) (hd : o.data = .set es ep t) {es' : Array (Int × Value)} {t' : SetTable} {l : List Int}
  (h1 : ElemsOf (intKind P w) es'.toList) (h2 : (es'.toList.map fun e => numOf e.2).Perm l) (h3 : l.Nodup) (h4 : es'.size < scanBound) (h5 : t'.fits es'.size = true) (h6 : Rs t'.place) (h7 : t'.led = !byT w) :
  (h.update a (Obj.putSet es' t')).get? a = some { o with data := .set es' (ep + 1) t' } /\ IS P w (h.update a (Obj.putSet es' t')) a l := by
 have g : (h.update a (Obj.putSet es' t')).get? a = some { o with data := .set es' (ep + 1) t' } := by
  have q := Heap.get?_update_self (Obj.putSet es' t') ho (by rw [putSet_of es' t' hd]; rfl)
  rw [putSet_of es' t' hd] at q
  exact q
 exact ⟨g, _, es', ep + 1, t', g, hx, rfl, h1, h2, h3, h4, h5, h6, h7⟩
theorem Zgi (b : Bool) {s₁ : Shared} {Q' : Unit -> Shared -> Prop} (q : Q' () s₁) : wpAny (model P w) A (match b with | true => rule "set.scan.the-table-gave-way" | false => pure ()) Q' E s₁ := by
 cases b
 ·exact wpAny_pure q
 ·exact wpAny_rule q
theorem Zb2 {a : Addr} {l : List Int} {k : Int} {tk : Tok} {Q : Bool -> Shared -> Prop} (hS : IS P w s.heap a l) (room : l.length + 1 < scanBound)
  (h : ∀ h' b, Heap.SameBut a s.heap h' -> IS P w h' a (Z94 l k) -> Q b { s with heap := h' }) : wpAny (model P w) A (setAddHashed a (.int k tk) ((intKind P w).hash k)) Q E s := by
 obtain ⟨o, es, ep, t, ho, hx, hd, hel, hpm, hnd, hb, hf, hr, hled⟩ := hS
 have hlen : es.size = l.length := by rw [<- hpm.length_eq, List.length_map, Array.length_toList]
 have hkey : (intKind P w).is k (.int k tk) = true := intKind_is _ _ _ _
 have memk : k ∈ l ↔ ∃ e ∈ es.toList, (intKind P w).is k e.2 = true := by
  rw [<- hpm.mem_iff, List.mem_map]
  constructor
  ·rintro ⟨e, he, q⟩
   obtain ⟨⟨k', hk', _⟩, _⟩ := hel e he
   obtain ⟨t', e'⟩ := Value.isInt_shape hk'
   refine ⟨e, he, ?_⟩
   rw [e'] at q ⊢
   rw [<- q]
   exact intKind_is _ _ _ _
  ·rintro ⟨e, he, q⟩
   obtain ⟨t', e'⟩ := Value.isInt_shape q
   exact ⟨e, he, by rw [e']; rfl⟩
 unfold setAddHashed setAddHashedIn
 refine wpAny_holding (wpAny_bind (wpAny_setState_of ho hd hf ?_))
 dsimp only
 rw [byScan_of (x := .int k tk) rfl hb hel]
 simp only [↓reduceIte]
 unfold setAddByScan
 refine wpAny_bind (wpAny_bind (wpAny_rule (wpAny_bind (wpAny_setScan_of hkey ho hd hf hel ?_))))
 cases hq : List.findIdx? (fun e => (intKind P w).is k e.2) es.toList with
 | some j =>
  dsimp only
  obtain ⟨hj, hpj, _⟩ := List.findIdx?_eq_some_iff_getElem.mp hq
  have hk : k ∈ l := memk.mpr ⟨es.toList[j], List.getElem_mem hj, hpj⟩
  refine wpAny_pure (wpAny_pure ?_)
  refine h s.heap _ (Heap.SameBut.refl a s.heap) ?_
  rw [Z94, if_pos hk]
  exact ⟨o, es, ep, t, ho, hx, hd, hel, hpm, hnd, hb, hf, hr, hled⟩
 | none =>
  dsimp only
  have hk : ¬ k ∈ l := fun z => by
   obtain ⟨e, he, q⟩ := memk.mp z
   have := List.findIdx?_eq_none_iff.mp hq e he
   rw [q] at this
   cases this
  have e1 := layNew_perm t es ((intKind P w).hash k) (.int k tk)
  have e2 := layNew_fits t es ((intKind P w).hash k) (.int k tk)
  have e3 := Zcy hr es ((intKind P w).hash k) (.int k tk)
  generalize layNew t es ((intKind P w).hash k) (.int k tk) = L at e1 e2 e3 ⊢
  obtain ⟨es1, t1, wd, gave⟩ := L
  dsimp only at e1 e2 e3 ⊢
  rw [Array.toList_push] at e1
  have el1 : ElemsOf (intKind P w) es1.toList := (hel.push hkey rfl).perm e1
  have pm1 : (es1.toList.map fun e => numOf e.2).Perm (Z94 l k) := by
   refine (e1.map _).trans ?_
   rw [List.map_append, Z94, if_neg hk]
   exact List.Perm.append_right _ hpm
  have nd1 : (Z94 l k).Nodup := Zhi hnd
  have b1 : es1.size < scanBound := by
   rw [<- Array.length_toList, e1.length_eq, List.length_append, Array.length_toList, hlen]
   exact room
  refine wpAny_bind (Zgi gave ?_)
  have e4 : hashByValue 8 (.int k tk) = pure true := rfl
  rw [e4, ite_self]
  refine wpAny_bind (wpAny_pure ?_)
  simp only [↓reduceIte]
  refine wpAny_bind (wpAny_storeSet_of ho hd ?_ (fits_of_scanBound b1))
  obtain ⟨g1, i1⟩ := IS.store (P := P) (w := w) ho hx hd el1 pm1 nd1 b1 e2 e3.1 (e3.2.trans hled)
  have sb1 := Heap.SameBut.update s.heap a (Obj.putSet es1 t1)
  split
  ·have f1 := relayAll_perm t1 es1 (SetTable.grown es1.size)
   have f2 := relayAll_fits t1 es1 (SetTable.grown es1.size)
   have f3 := Z93 (t := t1) es1 (SetTable.grown es1.size)
   generalize relayAll t1 es1 (SetTable.grown es1.size) = R at f1 f2 f3 ⊢
   obtain ⟨es2, t2, gave2⟩ := R
   dsimp only at f1 f2 f3 ⊢
   have sz : es2.size = es1.size := by rw [<- Array.length_toList, f1.length_eq, Array.length_toList]
   refine wpAny_bind (Zgi gave2 ?_)
   refine wpAny_bind (wpAny_storeSet_of g1 rfl ?_ (fits_of_scanBound (by omega)))
   obtain ⟨g2, i2⟩ := IS.store (P := P) (w := w) g1 hx rfl (el1.perm f1) ((f1.map _).trans pm1) nd1 (by omega) f2 f3.1 (f3.2.trans (e3.2.trans hled))
   exact wpAny_pure (wpAny_pure (h _ _ (sb1.trans (Heap.SameBut.update _ a _)) i2))
  ·exact wpAny_pure (wpAny_pure (h _ _ sb1 i1))
theorem Zf7 {a : Addr} {l : List Int} {k : Int} {tk : Tok} {Q : Value -> Shared -> Prop} (hS : IS P w s.heap a l) (room : l.length + 1 < scanBound)
  (h : ∀ h', Heap.SameBut a s.heap h' -> IS P w h' a (Z94 l k) -> Q .none { s with heap := h', toks := s.toks + 1 }) : wpAny (model P w) A (call (.builtin "set.add") [.ref a, .int k tk]) Q E s := by
 refine wpAny_call_entry F.slot_set_add hS.type F.entry_set_add ?_ (F.args_set_add_2 _ _)
 unfold Builtin.«set.add» Builtin.Frozenset.oneOther
 simp only [List.isEmpty_nil, bind_assoc]
 unfold Builtin.Frozenset.addrOf setAdd
 refine wpAny_bind (wpAny_pure ?_)
 refine wpAny_bind (wpAny_pure ?_)
 refine wpAny_bind (wpAny_holding (wpAny_bind ((intKind P w).pyHash (k := k) (intKind_is _ _ _ _) ?_)))
 refine Zb2 (s := { s with toks := s.toks + 1 }) hS room fun h' b hs hS' => ?_
 show wpAny _ _ (ret Value.none) _ _ _
 exact wpAny_pure ⟨_, rfl, h h' hs hS'⟩
end
end Srt
namespace Srt
open PySem PyProof.Rows PySem.Spec
abbrev Zkv (w : World) : Obj := { cls := .type "set", dict := none, data := .set #[] 0 (.fresh 0 0 (!byT w)) }
section
variable {P : Program} {w : World} {A : Around} {E : Value -> Shared -> Prop} {s : Shared}
theorem IS.new {h : Heap} {a : Addr} (e : h.get? a = some (Zkv w)) : IS P w h a [] :=
 ⟨_, #[], 0, _, e, ⟨rfl, rfl, rfl⟩, rfl, fun e he => absurd he (by simp), List.Perm.refl _, List.nodup_nil, by decide, by rfl, List.Pairwise.nil, rfl⟩
end
section
variable {P : Program} {w : World} {A : Around} {R : Result -> Shared -> Prop} {I : Addr} {fp wr : List Addr} {G : Array GenState -> Array GenState -> Prop} {n : Nat} {Pv : Nat -> Value -> Prop} {St : Nat -> Shared -> Prop}
end
section
variable {P : Program} {w : World} {A : Around} {E : Value -> Shared -> Prop} {s : Shared}
end
theorem sl_next : Slot "set_iterator" "__next__" "set_iterator.__next__" := by
 refine .of (owner := "set_iterator") (n := "__next__") ?_ ?_ ?_ ?_ ?_ ?_
 ·rw [typeLookup_type, builtinLookup_eq_fast]
  kernel_rfl
 ·decide +kernel
 ·decide +kernel
 ·decide +kernel
 ·first | exact .inl (by decide +kernel) | exact .inr (by decide +kernel)
 ·rw [isSubtype_type]
  kernel_rfl
theorem Zd0 : Slot "set_iterator" "__iter__" "set_iterator.__iter__" := by
 refine .of (owner := "set_iterator") (n := "__iter__") ?_ ?_ ?_ ?_ ?_ ?_
 ·rw [typeLookup_type, builtinLookup_eq_fast]
  kernel_rfl
 ·decide +kernel
 ·decide +kernel
 ·decide +kernel
 ·first | exact .inl (by decide +kernel) | exact .inr (by decide +kernel)
 ·rw [isSubtype_type]
  kernel_rfl
theorem Z6u : entryFor table "set_iterator.__next__" = some Builtin.«set_iterator.__next__» := entryFor_of_tree (by kernel_rfl)
theorem Zhj : entryFor table "set.__iter__" = some Builtin.«frozenset.__iter__» := entryFor_alias (id' := "frozenset.__iter__") (by kernel_rfl) rfl (by decide +kernel) (by kernel_rfl)
theorem Zhk : entryFor table "set_iterator.__iter__" = some Builtin.«dict_keyiterator.__iter__» := entryFor_alias (id' := "dict_keyiterator.__iter__") (by kernel_rfl) rfl (by decide +kernel) (by kernel_rfl)
theorem Z6v (a : Value) : argsOk "set_iterator.__next__" ⟨[a], []⟩ := by
 unfold argsOk
 kernel_rfl
theorem Zhl (a : Value) : argsOk "set_iterator.__iter__" ⟨[a], []⟩ := by
 unfold argsOk
 kernel_rfl
def SA (h : Heap) (a : Addr) (es : Array (Int × Value)) (ep : Nat) (t : SetTable) : Prop := ∃ o, h.get? a = some o /\ o.ExactSet /\ o.data = .set es ep t /\ t.fits es.size = true
def SI (h : Heap) (it : Addr) (first : Value) (i : Nat) (a : Addr) (n ep : Nat) : Prop := h.get? it = some { cls := .type "set_iterator", data := .fields #[first, .int i 0, .ref a, .int n 0, .int ep 0] }
section
variable {P : Program} {w : World} {A : Around} {E : Value -> Shared -> Prop} {s : Shared}
theorem Z6w {Q : Bool -> Shared -> Prop} (h : Q (byT w) s) : wpAny (model P w) A setsByText Q E s := by
 unfold setsByText
 exact wpAny_bind (wpAny_askSetting (wpAny_pure h))
theorem SI.type {it a : Addr} {first : Value} {i n ep : Nat} (x : SI s.heap it first i a n ep) : s.TypeIs (.ref it) "set_iterator" := ⟨_, x, rfl⟩
theorem SI.set {it a : Addr} {f f' : Value} {i n ep : Nat} {h : Heap} (x : SI h it f i a n ep) : SI ((h.update it (Obj.mapFields (·.setIfInBounds 0 f'))).update it (Obj.mapFields (·.setIfInBounds 1 (rawInt ((i : Int) + 1))))) it f' (i + 1) a n ep := by
 have g1 : (h.update it (Obj.mapFields (·.setIfInBounds 0 f'))).get? it = some { cls := .type "set_iterator", data := .fields #[f', .int i 0, .ref a, .int n 0, .int ep 0] } := Heap.get?_update_self _ x rfl
 exact Heap.get?_update_self _ g1 rfl
theorem SI.set1 {it a : Addr} {f : Value} {i n ep : Nat} {h : Heap} (x : SI h it f i a n ep) : SI (h.update it (Obj.mapFields (·.setIfInBounds 1 (rawInt ((i : Int) + 1))))) it f (i + 1) a n ep := Heap.get?_update_self _ x rfl
theorem Z83 {it a : Addr} {i slot ep nx : Nat} {x : Value} {es : Array (Int × Value)} {t : SetTable} {Q : Option Value -> Shared -> Prop} (hit : SI s.heap it (.int slot 0) i a es.size ep) (hs : SA s.heap a es ep t)
  (hn : ∀ (Q' : Option (Value × Nat) -> Shared -> Prop) E', Q' (some (x, nx)) s -> wpAny (model P w) A.in1 (setNext a slot i ep) Q' E' s)
  (q : ∀ h', SI h' it (.int nx 0) (i + 1) a es.size ep -> Heap.SameBut it s.heap h' -> Q (some x) { s with heap := h' }) : wpAny (model P w) A (pyNext (.ref it)) Q E s := by
 obtain ⟨o, ho, hx, hdat, hf⟩ := hs
 unfold pyNext
 refine wpAny_bind (wpAny_attempt (wpAny_callSpecial?_slot (name := Str.ofString "__next__") hit.type sl_next (wpAny_call_entry sl_next hit.type Z6u ?_ (Z6v _))))
 unfold Builtin.«set_iterator.__next__»
 refine wpAny_bind (wpAny_pure (wpAny_bind (wpAny_fieldsOf hit rfl ?_)))
 dsimp only
 refine wpAny_bind (wpAny_setEntries_of ho hdat hf ?_)
 rw [if_neg (by simp)]
 refine wpAny_bind (hn _ _ ?_)
 dsimp only
 refine wpAny_bind (wpAny_setField hit rfl (by simp) ?_)
 have g1 : (s.heap.update it (Obj.mapFields (·.setIfInBounds 0 (rawInt nx)))).get? it = some { cls := .type "set_iterator", data := .fields #[.int nx 0, .int i 0, .ref a, .int es.size 0, .int ep 0] } := Heap.get?_update_self _ hit rfl
 refine wpAny_bind (wpAny_setField g1 rfl (by simp) ?_)
 exact wpAny_pure ⟨_, rfl, wpAny_pure (q _ hit.set ((Heap.SameBut.update ..).trans (Heap.SameBut.update ..)))⟩
theorem Z84 {it a : Addr} {i slot ep : Nat} {es : Array (Int × Value)} {t : SetTable} {Q : Option Value -> Shared -> Prop} (hh : A.handled = none) (hit : SI s.heap it (.int slot 0) i a es.size ep) (hs : SA s.heap a es ep t)
  (hn : ∀ (Q' : Option (Value × Nat) -> Shared -> Prop) E', Q' none s -> wpAny (model P w) A.in1 (setNext a slot i ep) Q' E' s)
  (q : ∀ h', Heap.ExtBut it s.heap h' -> Q none { s with heap := h' }) : wpAny (model P w) A (pyNext (.ref it)) Q E s := by
 obtain ⟨o, ho, hx, hdat, hf⟩ := hs
 unfold pyNext
 refine wpAny_bind (wpAny_attempt (wpAny_callSpecial?_slot (name := Str.ofString "__next__") hit.type sl_next (wpAny_call_entry sl_next hit.type Z6u ?_ (Z6v _))))
 unfold Builtin.«set_iterator.__next__»
 refine wpAny_bind (wpAny_pure (wpAny_bind (wpAny_fieldsOf hit rfl ?_)))
 dsimp only
 refine wpAny_bind (wpAny_setEntries_of ho hdat hf ?_)
 rw [if_neg (by simp)]
 refine wpAny_bind (hn _ _ ?_)
 dsimp only
 refine wpAny_bind (wpAny_setField hit rfl (by simp) ?_)
 refine wpAny_bind ?_
 simp only [newExc, newTuple]
 refine wpAny_bind (wpAny_newObj_type ?_ (by size_fits))
 refine wpAny_bind (m := firstArgMember _ _) (wpAny_of_eq (a := Value.none) rfl ?_)
 refine wpAny_newObj_type ?_ (by size_fits)
 simp only [raiseNew]
 refine wpAny_bind (wpAny_handled ?_)
 rw [(show A.in1.handled = none from hh)]
 refine wpAny_bind (wpAny_pure (wpAny_throw ?_))
 refine wpAny_bind (wpAny_isInstance (T := "StopIteration") (b := true) ⟨_, Heap.get?_push_size _ rfl, rfl⟩ isSubtype_stop ?_)
 exact wpAny_pure (q _ (((Heap.SameBut.update ..).extBut.push _).push _))
theorem Zb3 {it a tp : Addr} {i ep : Nat} {es : Array (Int × Value)} {t : SetTable} {ps : List Nat} {p : Nat} {e : Int × Value} {Q : Option Value -> Shared -> Prop} (hit : SI s.heap it (.ref tp) i a es.size ep) (hs : SA s.heap a es ep t)
  (ht : s.heap.get? tp = some { cls := .type "tuple", data := .seq (ps.map fun (k : Nat) => Value.int k 0).toArray 0 }) (hp : ps[i]? = some p) (he : es[p]? = some e)
  (q : ∀ h', SI h' it (.ref tp) (i + 1) a es.size ep -> Heap.SameBut it s.heap h' -> Q (some e.2) { s with heap := h' }) : wpAny (model P w) A (pyNext (.ref it)) Q E s := by
 obtain ⟨o, ho, hx, hdat, hf⟩ := hs
 unfold pyNext
 refine wpAny_bind (wpAny_attempt (wpAny_callSpecial?_slot (name := Str.ofString "__next__") hit.type sl_next (wpAny_call_entry sl_next hit.type Z6u ?_ (Z6v _))))
 unfold Builtin.«set_iterator.__next__»
 refine wpAny_bind (wpAny_pure (wpAny_bind (wpAny_fieldsOf hit rfl ?_)))
 dsimp only
 refine wpAny_bind (wpAny_setEntries_of ho hdat hf ?_)
 rw [if_neg (by simp)]
 refine wpAny_bind (wpAny_seqItems ht rfl ?_)
 have e1 : (ps.map fun (k : Nat) => Value.int k 0).toArray[(i : Int).toNat]? = some (.int p 0) := by
  rw [Int.toNat_natCast, List.getElem?_toArray, List.getElem?_map, hp]
  rfl
 dsimp only
 rw [e1]
 dsimp only
 rw [Int.toNat_natCast, Int.toNat_natCast]
 unfold setNextDrawn
 refine wpAny_bind (wpAny_bind (wpAny_setState_of ho hdat hf ?_))
 dsimp only
 rw [if_neg (by simp), he]
 refine wpAny_pure ?_
 refine wpAny_bind (wpAny_setField hit rfl (by simp) ?_)
 exact wpAny_pure ⟨_, rfl, wpAny_pure (q _ hit.set1 (Heap.SameBut.update ..))⟩
theorem Z5s {it a tp : Addr} {i ep : Nat} {es : Array (Int × Value)} {t : SetTable} {ps : List Nat} {Q : Option Value -> Shared -> Prop} (hh : A.handled = none) (hit : SI s.heap it (.ref tp) i a es.size ep) (hs : SA s.heap a es ep t)
  (ht : s.heap.get? tp = some { cls := .type "tuple", data := .seq (ps.map fun (k : Nat) => Value.int k 0).toArray 0 }) (hp : ps[i]? = none)
  (q : ∀ h', Heap.ExtBut it s.heap h' -> Q none { s with heap := h' }) : wpAny (model P w) A (pyNext (.ref it)) Q E s := by
 obtain ⟨o, ho, hx, hdat, hf⟩ := hs
 unfold pyNext
 refine wpAny_bind (wpAny_attempt (wpAny_callSpecial?_slot (name := Str.ofString "__next__") hit.type sl_next (wpAny_call_entry sl_next hit.type Z6u ?_ (Z6v _))))
 unfold Builtin.«set_iterator.__next__»
 refine wpAny_bind (wpAny_pure (wpAny_bind (wpAny_fieldsOf hit rfl ?_)))
 dsimp only
 refine wpAny_bind (wpAny_setEntries_of ho hdat hf ?_)
 rw [if_neg (by simp)]
 refine wpAny_bind (wpAny_seqItems ht rfl ?_)
 have e1 : (ps.map fun (k : Nat) => Value.int k 0).toArray[(i : Int).toNat]? = none := by
  rw [Int.toNat_natCast, List.getElem?_toArray, List.getElem?_map, hp]
  rfl
 dsimp only
 rw [e1]
 dsimp only
 refine wpAny_bind (wpAny_setField hit rfl (by simp) ?_)
 have g1 : (s.heap.update it (Obj.mapFields (·.setIfInBounds 0 (rawInt 0)))).get? it = some { cls := .type "set_iterator", data := .fields #[.int 0 0, .int i 0, .ref a, .int es.size 0, .int ep 0] } := Heap.get?_update_self _ hit rfl
 refine wpAny_bind (wpAny_setField g1 rfl (by simp) ?_)
 refine wpAny_bind ?_
 simp only [newExc, newTuple]
 refine wpAny_bind (wpAny_newObj_type ?_ (by size_fits))
 refine wpAny_bind (m := firstArgMember _ _) (wpAny_of_eq (a := Value.none) rfl ?_)
 refine wpAny_newObj_type ?_ (by size_fits)
 simp only [raiseNew]
 refine wpAny_bind (wpAny_handled ?_)
 rw [(show A.in1.handled = none from hh)]
 refine wpAny_bind (wpAny_pure (wpAny_throw ?_))
 refine wpAny_bind (wpAny_isInstance (T := "StopIteration") (b := true) ⟨_, Heap.get?_push_size _ rfl, rfl⟩ isSubtype_stop ?_)
 exact wpAny_pure (q _ ((((Heap.SameBut.update ..).trans (Heap.SameBut.update ..)).extBut.push _).push _))
theorem Za0 {a : Addr} {i slot ep : Nat} {es : Array (Int × Value)} {t : SetTable} {Q : Option (Value × Nat) -> Shared -> Prop} (hs : SA s.heap a es ep t) (hb : byT w = false) (hd : (!t.plain && decide (es.size > 1)) = false) (hl : t.led = true)
  (q : Q (match es[SetTable.below t.place slot]?, t.place[SetTable.below t.place slot]? with | some (_, x), some j => some (x, j + 1) | _, _ => none) s) : wpAny (model P w) A (setNext a slot i ep) Q E s := by
 obtain ⟨o, ho, hx, hdat, hf⟩ := hs
 unfold setNext
 refine wpAny_bind (wpAny_setState_of ho hdat hf ?_)
 dsimp only
 refine wpAny_bind (Z6w ?_)
 rw [hb, if_neg Bool.false_ne_true]
 split
 ·next z =>
  have z : (!t.plain && decide (es.size > 1)) = true := z
  rw [hd] at z
  cases z
 ·refine wpAny_bind ?_
  show wpAny (model P w) A (if (!t.led && !es.isEmpty) = true then unsupported "set:maker-not-led" else pure PUnit.unit) _ _ _
  rw [hl, if_neg (by simp)]
  exact wpAny_pure (wpAny_pure q)
theorem Z3u {a : Addr} {i slot ep : Nat} {es : Array (Int × Value)} {t : SetTable} {Q : Option (Value × Nat) -> Shared -> Prop} (hs : SA s.heap a es ep t) (hb : byT w = true)
  (q : Q (((pickOrder (w.params.setOrder a ep) es)[i]?).map fun e => (e.2, slot)) s) : wpAny (model P w) A (setNext a slot i ep) Q E s := by
 obtain ⟨o, ho, hx, hdat, hf⟩ := hs
 unfold setNext
 refine wpAny_bind (wpAny_setState_of ho hdat hf ?_)
 dsimp only
 refine wpAny_bind (Z6w ?_)
 rw [hb, if_pos rfl, if_neg (by simp)]
 unfold setWalk
 refine wpAny_bind (wpAny_bind (wpAny_setState_of ho hdat hf ?_))
 dsimp only
 refine wpAny_bind (Z6w ?_)
 rw [hb, if_pos rfl]
 refine wpAny_bind (wpAny_askSetting (wpAny_pure (wpAny_pure q)))
end
section
variable {P : Program} {w : World} {A : Around}
theorem SI.at {h h' : Heap} {it a : Addr} {f : Value} {i n ep : Nat} (x : SI h it f i a n ep) (k : ∀ o, h.get? it = some o -> h'.get? it = some o) : SI h' it f i a n ep := k _ x
theorem SA.at {h h' : Heap} {a : Addr} {es : Array (Int × Value)} {ep : Nat} {t : SetTable} (x : SA h a es ep t) (k : ∀ o, h.get? a = some o -> h'.get? a = some o) : SA h' a es ep t := by
 obtain ⟨o, ho, r⟩ := x
 exact ⟨o, k o ho, r⟩
theorem Z5a {it a : Addr} {f : Value} {i n ep : Nat} {s : Shared} {Q : Value -> Shared -> Prop} {E : Value -> Shared -> Prop} (hit : SI s.heap it f i a n ep) (h : Q (.ref it) s) : wpAny (model P w) A (pyIter (.ref it)) Q E s := by
 refine wpAny_pyIter_slot hit.type Zd0 (wpAny_call_entry Zd0 hit.type Zhk ?_ (Zhl _))
 show wpAny _ _ (ret (.ref it)) _ _ s
 exact wpAny_pure ⟨_, rfl, "set_iterator", _, hit.type, sl_next.lookup, h⟩
def at0 (t : SetTable) (i : Nat) : Nat := if i = 0 then 0 else t.place.getD (i - 1) 0 + 1
theorem Z85 {t : SetTable} (hr : Rs t.place) {i : Nat} (hi : i <= t.place.size) : SetTable.below t.place (at0 t i) = i := by
 unfold at0
 by_cases e : i = 0
 ·subst e
  rw [if_pos rfl]
  exact Z9z hr (Nat.zero_le _) (fun i q r => absurd r (by omega)) fun i q r => Nat.zero_le _
 ·rw [if_neg e]
  have g : t.place.getD (i - 1) 0 = t.place[i - 1] := by rw [Array.getD_eq_getD_getElem?, getElem?_pos t.place _ (by omega)]; rfl
  rw [g]
  refine Z9z hr hi (fun k q r => ?_) fun k q r => ?_
  ·exact Nat.lt_succ_of_le (hr.le (by omega) (by omega))
  ·exact hr.lt (by omega) q
theorem Zb4 (hh : A.handled = none) (it a : Addr) (hne : a ≠ it) (es : Array (Int × Value)) (ep : Nat) (t : SetTable) (hb : byT w = false) (hd : (!t.plain && decide (es.size > 1)) = false) (hl : t.led = true) (hr : Rs t.place) (hz : t.place.size = es.size) :
  Walks P w A it [it, a] [it] es.size (fun i v => (es.toList.map (·.2))[i]? = some v) (fun i h => SI h it (.int (at0 t i : Nat) 0) i a es.size ep /\ SA h a es ep t) where
 sub := fun b h => by simp at h; simp [h]
 frame := fun _ _ _ st hk => ⟨st.1.at fun o e => hk it (by simp) o e, st.2.at fun o e => hk a (by simp) o e⟩
 item := fun i s Q E hi st q => by
  have hj : t.place[i]? = some t.place[i] := getElem?_pos _ _ (by omega)
  have he : es[i]? = some es[i] := getElem?_pos es i hi
  refine Z83 (x := es[i].2) (nx := t.place[i] + 1) st.1 st.2 (fun Q' E' q' => Za0 st.2 hb hd hl ?_) fun h' si sb => ?_
  ·rw [Z85 hr (by omega), hj, he]
   exact q'
  ·have e1 : at0 t (i + 1) = t.place[i] + 1 := by
    unfold at0
    rw [if_neg (by omega), Nat.add_sub_cancel, Array.getD_eq_getD_getElem?, hj]
    rfl
   refine q _ h' s.toks (by rw [List.getElem?_map, Array.getElem?_toList, he]; rfl) ⟨by rw [e1]; exact si, st.2.at fun o e => sb.extBut a o hne e⟩ fun b o hb' e => sb.extBut b o (fun z => hb' (by simp [z])) e
 done := fun s Q E st q => by
  refine Z84 hh st.1 st.2 (fun Q' E' q' => Za0 st.2 hb hd hl ?_) fun h' he => q h' s.toks fun b o hb' e => he b o (fun z => hb' (by simp [z])) e
  rw [Z85 hr (by omega), getElem?_neg es _ (by omega)]
  exact q'
 self := fun _ _ _ _ st q => Z5a st.1 q
theorem Zd1 (hh : A.handled = none) (it a : Addr) (hne : a ≠ it) (es : Array (Int × Value)) (ep : Nat) (t : SetTable) (hb : byT w = true) :
  Walks P w A it [it, a] [it] es.size (fun i v => ((pickOrder (w.params.setOrder a ep) es).toList.map (·.2))[i]? = some v) (fun i h => SI h it (.int (0 : Nat) 0) i a es.size ep /\ SA h a es ep t) where
 sub := fun b h => by simp at h; simp [h]
 frame := fun _ _ _ st hk => ⟨st.1.at fun o e => hk it (by simp) o e, st.2.at fun o e => hk a (by simp) o e⟩
 item := fun i s Q E hi st q => by
  have sz : (pickOrder (w.params.setOrder a ep) es).size = es.size := by
   have z := (Z59 (w.params.setOrder a ep) es).length_eq
   simpa using z
  have he : (pickOrder (w.params.setOrder a ep) es)[i]? = some (pickOrder (w.params.setOrder a ep) es)[i] := getElem?_pos _ _ (by omega)
  refine Z83 (x := (pickOrder (w.params.setOrder a ep) es)[i].2) (nx := 0) st.1 st.2 (fun Q' E' q' => Z3u st.2 hb ?_) fun h' si sb => ?_
  ·rw [he]
   exact q'
  ·refine q _ h' s.toks (by rw [List.getElem?_map, Array.getElem?_toList, he]; rfl) ⟨si, st.2.at fun o e => sb.extBut a o hne e⟩ fun b o hb' e => sb.extBut b o (fun z => hb' (by simp [z])) e
 done := fun s Q E st q => by
  have sz : (pickOrder (w.params.setOrder a ep) es).size = es.size := by
   have z := (Z59 (w.params.setOrder a ep) es).length_eq
   simpa using z
  refine Z84 hh st.1 st.2 (fun Q' E' q' => Z3u st.2 hb ?_) fun h' he => q h' s.toks fun b o hb' e => he b o (fun z => hb' (by simp [z])) e
  rw [getElem?_neg _ _ (by omega)]
  exact q'
 self := fun _ _ _ _ st q => Z5a st.1 q
theorem Zb5 (hh : A.handled = none) (it a tp : Addr) (hne : a ≠ it) (hne2 : tp ≠ it) (es : Array (Int × Value)) (ep : Nat) (t : SetTable) (ps : List Nat) (hps : ps.Perm (List.range es.size)) :
  Walks P w A it [it, a, tp] [it] es.size (fun i v => (ps.map fun p => (es.getD p (0, .none)).2)[i]? = some v)
   (fun i h => SI h it (.ref tp) i a es.size ep /\ SA h a es ep t /\ h.get? tp = some { cls := .type "tuple", data := .seq (ps.map fun (k : Nat) => Value.int k 0).toArray 0 }) where
 sub := fun b h => by simp at h; simp [h]
 frame := fun _ _ _ st hk => ⟨st.1.at fun o e => hk it (by simp) o e, st.2.1.at fun o e => hk a (by simp) o e, hk tp (by simp) _ st.2.2⟩
 item := fun i s Q E hi st q => by
  have lp : ps.length = es.size := by rw [hps.length_eq, List.length_range]
  have hp : ps[i]? = some ps[i] := getElem?_pos _ _ (by omega)
  have lt : ps[i] < es.size := List.mem_range.mp (hps.mem_iff.mp (List.getElem_mem ..))
  have he : es[ps[i]]? = some es[ps[i]] := getElem?_pos es ps[i] lt
  refine Zb3 st.1 st.2.1 st.2.2 hp he fun h' si sb => ?_
  refine q _ h' s.toks ?_ ⟨si, st.2.1.at fun o e => sb.extBut a o hne e, sb.extBut tp _ hne2 st.2.2⟩ fun b o hb' e => sb.extBut b o (fun z => hb' (by simp [z])) e
  rw [List.getElem?_map, hp, Option.map_some, Array.getD_eq_getD_getElem?, he]
  rfl
 done := fun s Q E st q => by
  have lp : ps.length = es.size := by rw [hps.length_eq, List.length_range]
  refine Z5s hh st.1 st.2.1 st.2.2 (getElem?_neg _ _ (by omega)) fun h' he => q h' s.toks fun b o hb' e => he b o (fun z => hb' (by simp [z])) e
 self := fun _ _ _ _ st q => Z5a st.1 q
end
theorem Z6x {P : Program} {w : World} : ∀ {l : List (Int × Value)}, ElemsOf (intKind P w) l -> IntsAre (l.map (·.2)) (l.map fun e => numOf e.2)
 | [], _ => .nil
 | e :: r, h => by
  obtain ⟨⟨k, hk, _⟩, _⟩ := h.head
  obtain ⟨t, e'⟩ := Value.isInt_shape hk
  have q := Z6x h.tail
  rw [List.map_cons, List.map_cons, e']
  exact .cons k t q
theorem Zd2 (es : Array (Int × Value)) : ((List.range es.size).map fun p => (es.getD p (0, .none)).2) = es.toList.map (·.2) := by
 refine List.ext_getElem? fun i => ?_
 rw [List.getElem?_map, List.getElem?_map]
 have e : es.toList[i]? = es[i]? := Array.getElem?_toList
 rw [e]
 by_cases hi : i < es.size
 ·rw [List.getElem?_range hi, getElem?_pos es i hi, Option.map_some, Option.map_some, Array.getD_eq_getD_getElem?, getElem?_pos es i hi]
  rfl
 ·rw [getElem?_neg es i hi, List.getElem?_eq_none (by simpa using hi)]
  rfl
section
variable {P : Program} {w : World} {A : Around} {E : Value -> Shared -> Prop} {s : Shared}
theorem Zf8 {a : Addr} {l : List Int} {Q : Value -> Shared -> Prop} (hS : IS P w s.heap a l)
  (q : ∀ (it : Addr) (h' : Heap) (d : Drawn) (fp : List Addr) (seq : List Value) (ns : List Int) (St : Nat -> Heap -> Prop), (∀ A' : Around, A'.handled = none -> Walks P w A' it fp [it] seq.length (fun i v => seq[i]? = some v) St) -> St 0 h' -> IntsAre seq ns -> ns.Perm l →
   s.heap.objs.size <= it -> (∀ b ∈ fp, b = a ∨ s.heap.objs.size <= b) -> (∀ b o, s.heap.get? b = some o -> h'.get? b = some o) -> Q (.ref it) { s with heap := h', drawn := d }) : wpAny (model P w) A (pyIter (.ref a)) Q E s := by
 have hT := hS.type
 obtain ⟨o, es, ep, t, ho, hx, hdat, hel, hpm, hnd, hb, hf, hr, hled⟩ := hS
 have hz : t.place.size = es.size := by
  unfold SetTable.fits at hf
  rw [Bool.and_eq_true] at hf
  exact beq_iff_eq.mp hf.1
 have alt : a < s.heap.objs.size := Heap.lt_size ho
 refine wpAny_pyIter_slot hT F.slot_set_iter (wpAny_call_entry F.slot_set_iter hT Zhj ?_ (F.args_set_iter_1 _))
 unfold Builtin.«frozenset.__iter__»
 refine wpAny_bind (wpAny_pure ?_)
 unfold Builtin.Frozenset.sizeOf
 refine wpAny_bind (wpAny_bind (wpAny_setEntries_of ho hdat hf (wpAny_pure ?_)))
 unfold setDrawn
 refine wpAny_bind (wpAny_bind (wpAny_setState_of ho hdat hf ?_))
 dsimp only
 refine wpAny_bind (Z6w (wpAny_pure ?_))
 have em : (es.toList.map fun e => numOf e.2) = (es.toList.map (·.2)).map numOf := by
  rw [List.map_map]
  rfl
 have lt1 : ∀ o', (s.heap.push o').objs.size = s.heap.objs.size + 1 := fun o' => Heap.size_push _ _
 split
 ·refine wpAny_bind (Z82 es.size (List.range es.size) s _ (by simp) fun ps d hps => ?_)
  have lp : ps.length = es.size := by rw [hps.length_eq, List.length_range]
  refine wpAny_bind (wpAny_newTuple ?_ (by rw [List.length_map, lp]; exact fits_of_scanBound hb))
  refine wpAny_bind (wpAny_setEpoch_of (Heap.get?_push_of_some _ ho) hdat hf ?_)
  refine wpAny_bind (wpAny_newObj_type (wpAny_pure ⟨_, rfl, "set_iterator", _, ⟨_, Heap.get?_push_size _ rfl, rfl⟩, sl_next.lookup, ?_⟩))
  have sl : (ps.map fun p => (es.getD p (0, .none)).2).length = es.size := by rw [List.length_map, lp]
  have e1 := Zd2 es
  have pm := hps.map fun p => (es.getD p (0, .none)).2
  rw [e1] at pm
  have hI : ∀ v ∈ ps.map (fun p => (es.getD p (0, .none)).2), ∃ n t, v = .int n t := fun v hv => (Z6x hel).all v (pm.mem_iff.mp hv)
  show Q (.ref (s.heap.push { cls := .type "tuple", data := .seq (ps.map fun (k : Nat) => Value.int k 0).toArray 0 }).objs.size) { s with heap := _, drawn := d }
  rw [lt1]
  refine q _ _ d [s.heap.objs.size + 1, a, s.heap.objs.size] (ps.map fun p => (es.getD p (0, .none)).2) _ (fun i h => SI h (s.heap.objs.size + 1) (.ref s.heap.objs.size) i a es.size ep /\ SA h a es ep t /\ h.get? s.heap.objs.size = some { cls := .type "tuple", data := .seq (ps.map fun (k : Nat) => Value.int k 0).toArray 0 })
   (fun A' hh => ?_) ?_ (intsAre_map _ hI) ?_ ?_ ?_ ?_
  ·rw [sl]
   exact Zb5 hh _ a _ (Nat.ne_of_lt (Nat.lt_succ_of_lt alt)) (Nat.ne_of_lt (Nat.lt_succ_self _)) es ep t ps hps
  ·refine ⟨?_, ⟨o, Heap.get?_push_of_some _ (Heap.get?_push_of_some _ ho), hx, hdat, hf⟩, Heap.get?_push_of_some _ (Heap.get?_push_size _ rfl)⟩
   have g := Heap.get?_push_size (s.heap.push { cls := .type "tuple", data := .seq (ps.map fun (k : Nat) => Value.int k 0).toArray 0 }) (o := { cls := .type "set_iterator", data := .fields #[.ref s.heap.objs.size, .int (0 : Nat) 0, .ref a, .int es.size 0, .int ep 0] }) rfl
   rw [lt1] at g
   exact g
  ·refine List.Perm.trans ?_ hpm
   rw [em]
   exact pm.map numOf
  ·exact Nat.le_succ _
  ·intro b hb'
   simp only [List.mem_cons, List.not_mem_nil, or_false] at hb'
   rcases hb' with rfl | rfl | rfl
   ·exact .inr (Nat.le_succ _)
   ·exact .inl rfl
   ·exact .inr (Nat.le_refl _)
  ·exact fun b o' e => Heap.get?_push_of_some _ (Heap.get?_push_of_some _ e)
 ·next z =>
  refine wpAny_bind (wpAny_pure ?_)
  refine wpAny_bind (wpAny_setEpoch_of ho hdat hf ?_)
  refine wpAny_bind (wpAny_newObj_type (wpAny_pure ⟨_, rfl, "set_iterator", _, ⟨_, Heap.get?_push_size _ rfl, rfl⟩, sl_next.lookup, ?_⟩))
  have sa : SA (s.heap.push { cls := .type "set_iterator", data := .fields #[.int (0 : Nat) 0, .int (0 : Nat) 0, .ref a, .int es.size 0, .int ep 0] }) a es ep t := ⟨o, Heap.get?_push_of_some _ ho, hx, hdat, hf⟩
  have fpl : ∀ b ∈ [s.heap.objs.size, a], b = a ∨ s.heap.objs.size <= b := fun b hb' => by
   simp only [List.mem_cons, List.not_mem_nil, or_false] at hb'
   rcases hb' with rfl | rfl
   ·exact .inr (Nat.le_refl _)
   ·exact .inl rfl
  by_cases ht : byT w = true
  ·have pm := (Z59 (w.params.setOrder a ep) es).map (·.2)
   have sl : ((pickOrder (w.params.setOrder a ep) es).toList.map (·.2)).length = es.size := by rw [pm.length_eq, List.length_map, Array.length_toList]
   have hI : ∀ v ∈ (pickOrder (w.params.setOrder a ep) es).toList.map (·.2), ∃ n t, v = .int n t := fun v hv => (Z6x hel).all v (pm.mem_iff.mp hv)
   refine q _ _ s.drawn [s.heap.objs.size, a] ((pickOrder (w.params.setOrder a ep) es).toList.map (·.2)) _ (fun i h => SI h s.heap.objs.size (.int (0 : Nat) 0) i a es.size ep /\ SA h a es ep t) (fun A' hh => ?_) ⟨Heap.get?_push_size _ rfl, sa⟩ (intsAre_map _ hI) ?_ (Nat.le_refl _) fpl fun b o' e => Heap.get?_push_of_some _ e
   ·rw [sl]
    exact Zd1 hh _ a (Nat.ne_of_lt alt) es ep t ht
   ·refine List.Perm.trans ?_ hpm
    rw [em]
    exact pm.map numOf
  ·have hf0 : byT w = false := Bool.not_eq_true _ ▸ ht
   have hd : (!t.plain && decide (es.size > 1)) = false := by
    have z : ¬ ((!byT w && (!t.plain && decide (es.size > 1))) = true) := z
    rw [hf0] at z
    simpa using z
   have sl : (es.toList.map (·.2)).length = es.size := by rw [List.length_map, Array.length_toList]
   refine q _ _ s.drawn [s.heap.objs.size, a] (es.toList.map (·.2)) _ (fun i h => SI h s.heap.objs.size (.int (at0 t i : Nat) 0) i a es.size ep /\ SA h a es ep t) (fun A' hh => ?_) ⟨Heap.get?_push_size _ rfl, sa⟩ (Z6x hel) hpm (Nat.le_refl _) fpl fun b o' e => Heap.get?_push_of_some _ e
   rw [sl]
   exact Zb4 hh _ a (Nat.ne_of_lt alt) es ep t hf0 hd (by rw [hled, hf0]; rfl) hr hz
end
theorem Zkw {vs : List Value} {ns : List Int} (hI : IntsAre vs ns) (nd : ns.Nodup) : Ds (pairsOf vs) := by
 unfold Ds
 rw [pairsOf_toList]
 have e : (vs.zip vs).map key = ns := by
  have q : (vs.zip vs).map key = ((vs.zip vs).map Prod.fst).map numOf := by
   rw [List.map_map]
   rfl
  rw [q, List.map_fst_zip (Nat.le_refl _), hI.nums]
 rw [e]
 exact nd
section
variable {P : Program} {w : World} {A : Around} {E : Value -> Shared -> Prop} {s : Shared}
theorem Zd3 {a : Addr} {vs : List Value} {ns : List Int} {n : Nat} {Pq : Fin -> Shared -> Prop} (ho : s.heap.get? a = some (seqObj "list" vs.toArray n)) (hI : IntsAre vs ns) (nd : ns.Nodup) (h128 : vs.length < 128)
  (h : ∀ (out : Array Value) (ns' : List Int), IntsAre out.toList ns' -> ns'.Perm ns -> ns'.Pairwise (· <= ·) -> Pq (.done (.ret .none)) { s with heap := sortedHeap s.heap a vs out }) : wpAny (model P w) A (Builtin.«list.sort» ⟨[.ref a], []⟩) Pq E s := by
 by_cases h64 : vs.length < 64
 ·exact list_sort_tree ho hI h64 h
 have alt : a < s.heap.objs.size := Heap.lt_size ho
 rw [list_sort_plain]
 refine wpAny_bind (listItems_at ho rfl (wpAny_bind (listUpdate_at ho rfl ?_)))
 obtain ⟨e1, ho1⟩ : ∃ e1, (s.heap.update a (Obj.mapSeq fun _ => #[])).get? a = some (seqObj "list" #[] e1) := ⟨_, get?_update_seq ho (fun _ => #[])⟩
 refine wpAny_bind (seqEpoch_at ho1 rfl (wpAny_bind (wpAny_newTuple (wpAny_bind (wpAny_newList (wpAny_holding ?_))))))
 have ho6 : (((s.heap.update a (Obj.mapSeq fun _ => #[])).push (seqObj "tuple" vs.toArray 0)).push (seqObj "list" #[] 0)).get? a = some (seqObj "list" #[] e1) := Heap.get?_push_of_some _ (Heap.get?_push_of_some _ ho1)
 show wpAny (model P w) A _ Pq E { s with heap := ((s.heap.update a (Obj.mapSeq fun _ => #[])).push (seqObj "tuple" vs.toArray 0)).push (seqObj "list" #[] 0) }
 dsimp only
 have hsz : vs.toArray.size = vs.length := by simp
 rw [if_neg (by omega), if_neg (by omega)]
 obtain ⟨v₁, v₂, rest, rfl⟩ : ∃ v₁ v₂ rest, vs = v₁ :: v₂ :: rest := by
  match vs, h64 with
  | [], z => exact absurd (by decide) z
  | [x], z => exact absurd (show 1 < 64 by decide) z
  | a :: b :: r, _ => exact ⟨a, b, r, rfl⟩
 rw [keyKind_ints hI]
 refine wpAny_bind (wpAny_pure ?_)
 refine wpAny_bind (wpAny_mono (Zf6 (a₀ := pairsOf (v₁ :: v₂ :: rest)) (st := SortSt.mk' oneType' ((v₁ :: v₂ :: rest).toArray.zip (v₁ :: v₂ :: rest).toArray) #[] 7 none)
  (Q := fun _ st' => (arrOf st').Perm (pairsOf (v₁ :: v₂ :: rest)) /\ failedOf st' = none /\ SortedTo (arrOf st') (pairsOf (v₁ :: v₂ :: rest)).size)
  hI.intKeys (Zkw hI nd) ⟨Array.Perm.refl _, rfl, rfl, rfl⟩ (by rw [pairsOf_size]; omega) (by rw [pairsOf_size]; exact h128) fun st' a1 a2 a3 => ⟨a1, a2, a3⟩) ?_ fun _ _ e => e)
 rintro ⟨⟨⟩, st'⟩ s' ⟨rfl, hp, hf, hs⟩
 dsimp only
 refine wpAny_bind (seqEpoch_at ho6 rfl ?_)
 have zz : ((arrOf st').map (·.2)).size <= sizeLine + 1 := by
  rw [Array.size_map, hp.size_eq, pairsOf_size, sizeLine_eq]
  omega
 refine wpAny_bind (listUpdate_at ho6 rfl ?_ (hsz2 := zz))
 rw [hf]
 simp only [bne_self_eq_false, Bool.false_eq_true, if_false]
 obtain ⟨ns', b1, b2, b3⟩ := sorted_out hI hp hs
 exact wpAny_pure (h _ ns' b1 b2 b3)
theorem Zgj {α : Type} {M : Model} {c : Prop} [Decidable c] {t e : Sem α} {Q : α -> Shared -> Prop} (hc : c) (h : wpAny M A t Q E s) : wpAny M A (if c then t else e) Q E s := by
 rw [if_pos hc]
 exact h
theorem Zjf : splitId "set.__len__" = some ("set", "__len__") := by decide +kernel
theorem Zf9 {a : Addr} {Q : Bool -> Shared -> Prop} (hT : s.TypeIs (.ref a) "set") (h : Q false s) : wpAny (model P w) A (Builtin.List.listLengthHint (.ref a)) Q E s := by
 unfold Builtin.List.listLengthHint
 refine wpAny_bind (wpAny_specialOf hT F.slot_set_len.lookup ?_)
 dsimp only
 rw [Zjf]
 dsimp only
 refine wpAny_bind (wpAny_isInstance (b := true) hT sub_set_self ?_)
 rw [if_neg (by decide)]
 refine Zgj (by decide +kernel) ?_
 refine wpAny_bind (wpAny_typeOf hT ?_)
 exact wpAny_pure h
theorem Zhm {a b : Addr} (h : a ≠ b) : Builtin.List.listSameRef (.ref a) (.ref b) = false := by
 unfold Builtin.List.listSameRef
 simp [h]
theorem Z95 {a : Addr} {l : List Int} {Q : List Value -> Shared -> Prop} (hh : A.handled = none) (hS : IS P w s.heap a l)
  (q : ∀ (vs : List Value) (ns : List Int) (s' : Shared), IntsAre vs ns -> ns.Perm l -> s'.gens = s.gens -> s'.os = s.os -> (∀ b o, s.heap.get? b = some o -> s'.heap.get? b = some o) -> Q vs s') : wpAny (model P w) A (collect (.ref a)) Q E s := by
 have alt : a < s.heap.objs.size := by
  obtain ⟨o, es, ep, t, ho, _⟩ := hS
  exact Heap.lt_size ho
 have hl : l.length < scanBound := by
  obtain ⟨o, es, ep, t, ho, hx, hdat, hel, hpm, hnd, hb, hf, hr, hled⟩ := hS
  rw [<- hpm.length_eq, List.length_map, Array.length_toList]
  exact hb
 unfold collect
 refine wpAny_bind (wpAny_runValue (codeAny_builtin F.entry_proto_collect ?_))
 rw [Around.under_plainId F.plain_proto_collect _]
 show wpAny _ A.in1 (newList [] >>= fun z => again (.builtin "list.__iadd__" ⟨[z, .ref a], []⟩)) _ _ s
 refine wpAny_bind (wpAny_newObj_type (wpAny_pure ⟨plainId_quiet F.plain_list_iadd _, codeAny_builtin F.entry_list_iadd ?_⟩))
 rw [Around.under_plainId F.plain_list_iadd _]
 have g0 : (s.heap.push (seqObj "list" #[] 0)).get? s.heap.objs.size = some (seqObj "list" #[] 0) := Heap.get?_push_size _ rfl
 have hS1 : IS P w (s.heap.push (seqObj "list" #[] 0)) a l := hS.keep fun o e => Heap.get?_push_of_some _ e
 show wpAny _ A.in1 (Builtin.List.listExtendWith (.ref s.heap.objs.size) (.ref a) (.ref s.heap.objs.size)) _ _ { s with heap := s.heap.push (seqObj "list" #[] 0) }
 unfold Builtin.List.listExtendWith
 refine wpAny_bind (wpAny_typeOf (s := { s with heap := s.heap.push (seqObj "list" #[] 0) }) (T := "set") (IS.type (s := { s with heap := s.heap.push (seqObj "list" #[] 0) }) hS1) ?_)
 rw [if_neg (by rw [Zhm (Nat.ne_of_gt alt)]; decide)]
 refine wpAny_bind (Zf8 (s := { s with heap := s.heap.push (seqObj "list" #[] 0) }) hS1 fun it h' d fp seq ns St W st hi hp hit hfp hk => ?_)
 have hT' : Shared.TypeIs { s with heap := h', drawn := d } (.ref a) "set" := IS.type (s := { s with heap := h', drawn := d }) (hS1.keep fun o e => hk a o e)
 refine wpAny_bind (wpAny_holding (Zf9 hT' ?_))
 have g1 : h'.get? s.heap.objs.size = some (seqObj "list" #[] 0) := hk _ _ g0
 dsimp only
 refine Zgj (by decide +kernel) ?_
 refine wpAny_bind (wpAny_rule ?_)
 have lz : l.length <= sizeLine := fits_of_scanBound hl
 have ls : seq.length = l.length := by rw [IntsAre.length hi, hp.length_eq]
 have nS : s.heap.objs.size ∉ fp := fun z => by
  rcases hfp _ z with e | e
  ·exact absurd alt (e ▸ Nat.lt_irrefl _)
  ·have e : (s.heap.push (seqObj "list" #[] 0)).objs.size <= s.heap.objs.size := e
   rw [Heap.size_push] at e
   exact absurd e (Nat.not_succ_le_self _)
 unfold Builtin.List.listTouch
 refine wpAny_bind (wpAny_bind (listUpdate_at (s := { s with heap := h', drawn := d }) g1 rfl ?_))
 have g2 := get?_update_seq g1 (fun x => x.push .none)
 refine listUpdate_at (s := { s with heap := h'.update s.heap.objs.size (Obj.mapSeq fun x => x.push .none), drawn := d }) g2 rfl ?_
 have g3 := get?_update_seq g2 (fun x => x.pop)
 have oth : ∀ b o, b ≠ s.heap.objs.size -> h'.get? b = some o -> ((h'.update s.heap.objs.size (Obj.mapSeq fun x => x.push .none)).update s.heap.objs.size (Obj.mapSeq fun x => x.pop)).get? b = some o := fun b o hb e => by
  rw [Heap.get?_update_ne _ _ _ _ hb, Heap.get?_update_ne _ _ _ _ hb]
  exact e
 have WS := (W A.in1 hh).toS
 refine wpAny_pure ⟨plainId_quiet F.plain_extend_loop _, codeAny_extend_loopS WS (by omega) _ nS _ seq.length 0 _ _ _ rfl (Nat.zero_le _) (WS.frame 0 { s with heap := h', drawn := d } _ s.toks st (Nat.le_refl _) fun b hb o e => oth b o (fun z => nS (z ▸ hb)) e) g3 (ItemsOf.nil _) fun s' acc' c' hm g4 hacc => ?_⟩
 show wpAny _ A (load s.heap.objs.size >>= _) _ _ s'
 refine wpAny_bind (wpAny_load g4 ?_)
 have ev : acc'.toList = seq := by
  have lv : acc'.size = seq.length := hacc.1
  refine List.ext_getElem? fun j => ?_
  rw [Array.getElem?_toList]
  by_cases hj : j < acc'.size
  ·have e1 : acc'[j]? = some acc'[j] := getElem?_pos acc' j hj
   rw [e1]
   exact (hacc.2 j _ e1).symm
  ·rw [getElem?_neg acc' j hj, List.getElem?_eq_none (by omega)]
 refine wpAny_pure ?_
 rw [ev]
 refine q seq ns s' hi hp hm.gens hm.os fun b o e => ?_
 have bl : b < s.heap.objs.size := Heap.lt_size e
 refine hm.heap b o ?_ (oth b o (Nat.ne_of_lt bl) (hk b o (Heap.get?_push_of_some _ e)))
 have it1 : s.heap.objs.size + 1 <= it := by
  have z : (s.heap.push (seqObj "list" #[] 0)).objs.size <= it := hit
  rw [Heap.size_push] at z
  exact z
 simp only [List.mem_cons, List.not_mem_nil, or_false, not_or]
 exact And.intro (Nat.ne_of_lt bl) (Nat.ne_of_lt (Nat.lt_trans bl it1))
theorem Zb6 {a : Addr} {l : List Int} {Q : Value -> Shared -> Prop} (hh : A.handled = none) (hS : IS P w s.heap a l) (h128 : l.length < 128)
  (h : ∀ (s1 : Shared) (h' : Heap) (out : List Value) (ns : List Int) (e : Nat), IntsAre out ns -> ns.Perm l -> ns.Pairwise (· <= ·) -> h'.get? s1.heap.objs.size = some (seqObj "list" out.toArray e) -> s1.gens = s.gens -> s1.os = s.os →
   (∀ b o, s.heap.get? b = some o -> s1.heap.get? b = some o) -> (∀ b o, s1.heap.get? b = some o -> h'.get? b = some o) -> Q (.ref s1.heap.objs.size) { s1 with heap := h' }) : wpAny (model P w) A (call (.builtin "sorted") [.ref a]) Q E s := by
 refine Calls.call_function_entry kind_sorted plain_sorted entry_sorted (args_sorted1 _) ?_
 unfold Builtin.«sorted»
 refine wpAny_bind (m := checkCount "sorted" 1 1 _) (wpAny_pure ?_)
 refine wpAny_bind (Z95 hh hS fun vs ns s1 hi hp hg ho hk => ?_)
 have lv : vs.length = l.length := by rw [IntsAre.length hi, hp.length_eq]
 have lz : vs.length <= sizeLine := by
  rw [sizeLine_eq]
  omega
 refine wpAny_bind (wpAny_newList ?_)
 have g0 : (s1.heap.push (seqObj "list" vs.toArray 0)).get? s1.heap.objs.size = some (seqObj "list" vs.toArray 0) := Heap.get?_push_size _ rfl
 show wpAny _ _ _ _ _ { s1 with heap := s1.heap.push (seqObj "list" vs.toArray 0) }
 refine wpAny_bind (wpAny_holding (wpAny_call_entry slot_list_sort ⟨_, g0, rfl⟩ entry_list_sort (Zd3 (s := { s1 with heap := s1.heap.push (seqObj "list" vs.toArray 0) }) g0 hi (hp.nodup_iff.mpr hS.nd) (by omega) fun out ns' a1 a2 a3 => ⟨_, rfl, ?_⟩) (args_list_sort _)))
 obtain ⟨e, he⟩ := sortedHeap_at (out := out) g0
 refine wpAny_pure ⟨_, rfl, h s1 _ out.toList ns' e a1 (a2.trans hp) a3 he hg ho hk fun b o z => ?_⟩
 have z1 : (s1.heap.push (seqObj "list" vs.toArray 0)).get? b = some o := Heap.get?_push_of_some _ z
 rw [sortedHeap_old (Nat.ne_of_lt (Heap.lt_size z)) (Heap.lt_size z1)]
 exact z1
end
end Srt
namespace L2
open PySem PySem.Spec PyProof.Rows Srt
def Zhn (P : Program) (w : World) (a : Addr) (l : List Int) : HO := .ext fun h => IS P w h a l
section
variable {X : Cx} {pins : List (Addr × Obj)} {σ : St} {H : Hp} {s : Shared}
theorem Inv.iset {a : Addr} {l : List Int} (I : Inv X pins σ H s) (h : H a = some (Zhn X.prog X.w a l)) : IS X.prog X.w s.heap a l := (I.hok a _ h).1
theorem Zho {P : Program} {w : World} {H : Hp} {h : Heap} {a : Addr} {l : List Int} (x : IS P w h a l) : ObjOk P w H h a (Zhn P w a l) := by
 refine ⟨x, ?_, fun h1 h2 y k => y.keep k⟩
 obtain ⟨o, es, ep, t, ho, _⟩ := x
 exact ⟨o, ho⟩
theorem Za1 : ∀ {ns : List Int} {us : List Value}, Vals (ns.map V.int) us -> IntsAre us ns
 | [], _, .nil => .nil
 | n :: r, _, .cons ⟨t, e⟩ h => by
  subst e
  exact .cons n t (Za1 h)
theorem Za2 : ∀ {ns : List Int} {us : List Value}, IntsAre us ns -> Vals (ns.map V.int) us
 | _, _, .nil => .nil
 | _, _, .cons n t h => .cons ⟨t, rfl⟩ (Za2 h)
theorem Z5b (hc : X.calm = true) : Z34 X (.builtin "sorted") (fun xs H Q => ∃ (p : Addr) (l : List Int), xs = [.ref p] /\ H p = some (Zhn X.prog X.w p l) /\ l.length < 128 ∧
  ∀ (ns : List Int) a, ns.Perm l -> ns.Pairwise (· <= ·) -> H a = none -> Q (.ref a) (upd H a (.lst (ns.map V.int)))) := by
 intro pins s σ H xs us Q I r h
 obtain ⟨p, l, rfl, hp, hz, q⟩ := h
 obtain ⟨u, rfl, rx⟩ := Z8t r
 cases rx
 refine Zb6 (I.ok.hd hc) (I.iset hp) hz fun s1 h' out ns e hi pm srt g hg ho k1 k2 => ?_
 have I1 : Inv X pins σ H s1 := I.call' (ch := []) ho (Un.kept k1) (I.hok.kept k1) (by rw [hg]; exact I.bare) fun b z => absurd z (by simp)
 have ln : (ns.map V.int).length <= sizeLine := by
  rw [List.length_map, pm.length_eq, sizeLine_eq]
  omega
 exact ⟨.ref s1.heap.objs.size, _, I1.laid (t' := s1.toks) k2 (Nat.le_refl _) (show ObjOk X.prog X.w _ h' _ (.lst (ns.map V.int)) from ⟨ln, out, e, Za2 hi, g⟩), rfl, q ns _ pm srt (I1.hok.fresh (Nat.le_refl _))⟩
end
section
variable {X : Cx} {o e : Expr} {to : TE} {t : TA} {apos cpos : Pos}
end
end L2
namespace L2
open PySem PySem.Spec PyProof.Rows
mutual
def plT : Th -> Bool
 | .at (.int _) => true
 | .at (.str _) => true
 | .at _ => false
 | .tup xs => Z5t xs
 | .lst _ => false
def Z5t : List Th -> Bool
 | [] => true
 | x :: xs => plT x && Z5t xs
end
section
variable {X : Cx}
end
section
variable {X : Cx} {o e f : Expr} {apos cpos : Pos} {td ty tx : TE}
end
section
variable {P : Program} {w : World} {A : Around} {E : Value -> Shared -> Prop} {s : Shared}
end
section
variable {X : Cx}
end
end L2
namespace L2
open PySem PySem.Spec PyProof.Rows PySem.Builtin PySem.AutoSeq1
section
variable {prog : Program} {w : World} {A : Around} {E : Value -> Shared -> Prop} {s : Shared}
end
section
variable {prog : Program} {w : World} {A : Around} {E : Value -> Shared -> Prop} {s : Shared}
end
section
variable {X : Cx} {pins : List (Addr × Obj)} {σ : St}
end
section
variable {X : Cx}
def rIndex : V -> List V -> Hp -> VK -> Prop := fun x vs H Q => ∃ (l : Addr) (ns : List Int) (i : Int) (j : Nat), x = .ref l /\ vs = [.int i] /\ H l = some (.lst (ns.map V.int)) /\ ns[j]? = some i /\ (∀ m, m < j -> ns[m]? ≠ some i) /\ Q (.int (j : Nat)) H
theorem Zfa : MtR X "list.index" rIndex := by
 intro pins s σ H x vs v us Q I rx rv h
 obtain ⟨l, ns, i, j, rfl, rfl, hH, hj, hno, q⟩ := h
 cases rx
 obtain ⟨u, rfl, ru⟩ := rv.one
 obtain ⟨tk, rfl⟩ := ru
 obtain ⟨z, its, n, r, hl, e⟩ := I.lstM hH
 have hI := Za1 r
 have hlen : its.length = ns.length := IntsAre.length hI
 have at' : ∀ (m : Nat) (y : Value), its[m]? = some y -> ∃ k t, ns[m]? = some k /\ y = .int k t := by
  intro m y hy
  have hm : m < ns.length := by
   rw [<- hlen]
   exact (List.getElem?_eq_some_iff.mp hy).1
  obtain ⟨u2, f2, r2⟩ := r.get (i := m) (x := .int ns[m]) (by rw [List.getElem?_map, List.getElem?_eq_getElem hm]; rfl)
  rw [hy] at f2
  cases f2
  obtain ⟨t, rfl⟩ := r2
  exact ⟨_, t, List.getElem?_eq_getElem hm, rfl⟩
 have jl : j < its.length := by
  rw [hlen]
  exact (List.getElem?_eq_some_iff.mp hj).1
 have val : ∀ (m : Nat) (hm : m < its.toArray.size), ∃ k t, ns[m]? = some k /\ its.toArray[m] = .int k t := fun m hm => by
  simp only [List.size_toArray] at hm
  obtain ⟨k, t, a1, a2⟩ := at' m its[m] (List.getElem?_eq_getElem hm)
  exact ⟨k, t, a1, by simpa using a2⟩
 have hsz : sizeLine = 16777216 := sizeLine_eq
 refine call_meets F.slot_list_index ⟨_, e, rfl⟩ F.entry_list_index (F.args_list_index_2 _ _) (SeqAt.list_indexAt l its.toArray n none #[] (.int i tk) (fun y => match y with | .int k _ => k == i | _ => false) j (by simpa using jl) (by
  rw [List.length_map] at z
  omega) ?_ ?_) ⟨e, ?_, ?_⟩
 ·obtain ⟨k, t, a1, a2⟩ := val j (by simpa using jl)
  rw [a2]
  rw [hj] at a1
  cases a1
  exact beq_self_eq_true _
 ·intro m hm hmj
  obtain ⟨k, t, a1, a2⟩ := val m hm
  rw [a2]
  show (k == i) = false
  rw [beq_eq_false_iff_ne]
  intro w
  subst w
  exact hno m hmj a1
 ·intro y hy
  obtain ⟨m, hm, rfl⟩ := Array.mem_iff_getElem.mp hy
  obtain ⟨k, t, a1, a2⟩ := val m hm
  rw [a2]
  exact Zcc (y := .int k) (x := .int i) ⟨t, rfl⟩ ⟨tk, rfl⟩ rfl rfl
 ·exact ⟨.int (j : Nat), H, I.tok _, ⟨_, rfl⟩, q⟩
end
end L2
namespace K16
open PySem L2
abbrev Zb7 : Stmt := top 17
abbrev Z5c : Stmt := top 18
abbrev Z6b : Stmt := top 19
abbrev Zb8 : Stmt := top 20
abbrev Zd4 : Stmt := top 27
abbrev Zd5 : Stmt := top 28
abbrev Z2u : Stmt := top 29
abbrev Z3v : Stmt := top 30
abbrev Zd6 : Stmt := top 31
abbrev Z86 : Stmt := top 32
abbrev Z21 : Stmt := top 33
abbrev Zb9 : Stmt := top 34
abbrev Z6c : Stmt := top 35
abbrev Zba : Stmt := top 36
abbrev Z87 : Stmt := top 37
abbrev Zd7 : Stmt := top 38
abbrev Z96 : Stmt := top 39
abbrev Z6d : Stmt := top 40
abbrev Z4h : Stmt := top 41
abbrev Zbb : Stmt := top 42
abbrev Z88 : Stmt := top 21
abbrev Z1c : Stmt := top 23
abbrev Z2c : Stmt := top 24
abbrev Z4i : Stmt := top 25
abbrev Z3w : Stmt := top 43
abbrev Zgk : Stmt := top 44
structure TxtT (mg : Str -> Option Value) : Prop where
 isi : mg "isinstance" = none
 int : mg "int" = none
 bl : mg "bool" = none
 tup : mg "tuple" = none
 len : mg "len" = none
def spParts : Sp := fun vs H Q _ => ∃ (H0 : Hp) (v : V) (ts : List Th), vs = [v] /\ Same H0 H /\ IsTh H0 v (.tup ts) /\ ts.length <= 1000000 ∧
 ∀ (p : Addr) (ws : List V) H', Same H H' -> H' p = some (.tup ws) -> IsThs H0 ws (Z1b ts) -> Q (.ref p) H'
def Z1w (t : Th) : Bool := !isTup t
def Z6y (ts : List Th) : List Th := ts.filter Z1w
def spHead : Sp := fun vs H Q _ => ∃ (H0 : Hp) (v : V) (ts : List Th), vs = [v] /\ Same H0 H /\ IsTh H0 v (.tup ts) /\ ts.length <= 1000000 ∧
 ∀ (p : Addr) (ws : List V) H', Same H H' -> H' p = some (.tup ws) -> IsThs H0 ws (Z6y ts) -> Q (.ref p) H'
section
variable {P : Program} {w : World} {K : PySem.W.Frag} {mg : Str -> Option Value} {base : Heap}
theorem Zhp : FnScope ["e"] ["e"] (Z03 Z5c) := ⟨rfl, rfl, rfl, by decide +kernel, rfl, by decide +kernel, by decide +kernel⟩
theorem Za3 {f : Addr} {fd : FuncData} (F : Fun K "parts" "parts" Z5c f fd) (T : TxtT mg) (KI : Kits K) : FnOk P w K mg base CX0 1 f fd ["e"] spParts := by
 refine F.ok Zhp (fun vs H Q E h => ?_) (fun cdv A outer s H vs Q E hr h => ?_)
 ·obtain ⟨H0, v, ts, rfl, _⟩ := h
  rfl
 ·obtain ⟨H0, v, ts, rfl, s0, hv, hz, k⟩ := h
  refine ⟨_, Z07 (Z0m (Z19 Z0v (by rfl) T.tup (by decide +kernel) (Z0d (Z1z (N' := ["part"]) (src := [none]) rfl (Z0s (Z03 Z5c) rfl ["e"] rfl (by decide +kernel)) (Z7k (pv 0))
   (fun cl C ex s0' H0' => ⟨Z0x (i := 0) (nd1 _) rfl (Or.inl rfl), Z49 (Z1f (Z0b (id := "isinstance") (Z25 (K := K) rfl) (by rfl) T.isi (by decide +kernel) (Z0i (pv 0) (Z0i (Z1n (v := .ty "tuple") (by rfl) T.tup (by decide +kernel) rfl) Z00)))), pv 0⟩)) Z00))), ?_⟩
  obtain ⟨a, xs, rfl, ha0, hts⟩ := Z1q hv
  have ha := s0 _ _ ha0
  have hl := IsThs.len _ hts
  refine ⟨_, rfl, a, rfl, ⟨_, SqT.of ha⟩, Z3o (K := K) (a := a) (xs := xs) (fun i ys σc H' => ∃ o, σc = [o] /\ IsThs H0 ys ((ts.take i).filter isTup) /\ ys.length <= i /\ H' = H) ⟨none, rfl, by rw [List.take_zero]; exact .nil, Nat.le_refl _, rfl⟩ (fun i ys σc H' ⟨_, _, _, _, e⟩ => by rw [e]; exact SqT.of ha) ?_ ?_⟩
  ·rintro i x ys σc H' hx hi ⟨o, rfl, hys, hyl, rfl⟩
   obtain ⟨t, ht, h1⟩ := Z1i _ hts hx
   have hnext : (ts.take (i + 1)).filter isTup = (ts.take i).filter isTup ++ (if isTup t = true then [t] else []) := Z2z _ ht
   refine ⟨by have : sizeLine = 16777216 := sizeLine_eq; omega, ?_⟩
   refine ⟨_, rfl, _, _, _, _, rfl, Z4d (IsTh.kp (Kp.of s0) h1), KI.tup h1, _, rfl, Z1r (fun g => ?_) (fun g => ?_)⟩
   ·refine ⟨_, rfl, nx hi ⟨_, rfl, ?_, by rw [List.length_append]; show ys.length + 1 <= i + 1; omega, rfl⟩⟩
    rw [hnext, if_pos g]
    exact IsThs.app _ hys (.cons h1 .nil)
   ·refine nx hi ⟨_, rfl, ?_, by omega, rfl⟩
    rw [hnext, if_neg g, List.append_nil]
    exact hys
  ·rintro ys σc H' ⟨o, rfl, hys, hyl, rfl⟩ l hl'
   refine ⟨l, _, rfl, .inl ⟨SqL.of Z01, fun p hp => ?_⟩⟩
   rw [List.take_of_length_le (by omega)] at hys
   have s2 := (Z02 (o := .lst ys) hl').trans (Z02 (o := .tup ys) hp)
   exact k p ys _ s2 Z01 hys
theorem Zjg : FnScope ["node"] ["node"] (Z03 Zb7) := ⟨rfl, rfl, rfl, by decide +kernel, rfl, by decide +kernel, by decide +kernel⟩
theorem Zhq {f : Addr} {fd : FuncData} (F : Fun K "head" "head" Zb7 f fd) (T : TxtT mg) (KI : Kits K) : FnOk P w K mg base CX0 1 f fd ["node"] spHead := by
 refine F.ok Zjg (fun vs H Q E h => ?_) (fun cdv A outer s H vs Q E hr h => ?_)
 ·obtain ⟨H0, v, ts, rfl, _⟩ := h
  rfl
 ·obtain ⟨H0, v, ts, rfl, s0, hv, hz, k⟩ := h
  refine ⟨_, Z07 (Z0m (Z19 Z0v (by rfl) T.tup (by decide +kernel) (Z0d (Z1z (N' := ["field"]) (src := [none]) rfl (Z0s (Z03 Zb7) rfl ["node"] rfl (by decide +kernel)) (Z7k (pv 0))
   (fun cl C ex s0 H0 => ⟨Z0x (i := 0) (nd1 _) rfl (Or.inl rfl), Z49 (Z2n (Z1f (Z0b (id := "isinstance") (Z25 (K := K) rfl) (by rfl) T.isi (by decide +kernel) (Z0i (pv 0) (Z0i (Z1n (v := .ty "tuple") (by rfl) T.tup (by decide +kernel) rfl) Z00))))), pv 0⟩)) Z00))), ?_⟩
  obtain ⟨a, xs, rfl, ha0, hts⟩ := Z1q hv
  have ha := s0 _ _ ha0
  have hl := IsThs.len _ hts
  refine ⟨_, rfl, a, rfl, ⟨_, SqT.of ha⟩, Z3o (K := K) (a := a) (xs := xs) (fun i ys σc H' => ∃ o, σc = [o] /\ IsThs H0 ys ((ts.take i).filter Z1w) /\ ys.length <= i /\ H' = H) ⟨none, rfl, by rw [List.take_zero]; exact .nil, Nat.le_refl _, rfl⟩ (fun i ys σc H' ⟨_, _, _, _, e⟩ => by rw [e]; exact SqT.of ha) ?_ ?_⟩
  ·rintro i x ys σc H' hx hi ⟨o, rfl, hys, hyl, rfl⟩
   obtain ⟨t, ht, h1⟩ := Z1i _ hts hx
   have hnext : (ts.take (i + 1)).filter Z1w = (ts.take i).filter Z1w ++ (if Z1w t = true then [t] else []) := Z2z _ ht
   refine ⟨by have : sizeLine = 16777216 := sizeLine_eq; omega, ?_⟩
   refine ⟨_, rfl, _, _, _, _, rfl, Z4d (IsTh.kp (Kp.of s0) h1), KI.tup h1, _, rfl, Z1r (fun g => ?_) (fun g => ?_)⟩
   ·refine ⟨_, rfl, nx hi ⟨_, rfl, ?_, by rw [List.length_append]; show ys.length + 1 <= i + 1; omega, rfl⟩⟩
    rw [hnext, if_pos (show Z1w t = true from g)]
    exact IsThs.app _ hys (.cons h1 .nil)
   ·refine nx hi ⟨_, rfl, ?_, by omega, rfl⟩
    rw [hnext, if_neg (show ¬ Z1w t = true from g), List.append_nil]
    exact hys
  ·rintro ys σc H' ⟨o, rfl, hys, hyl, rfl⟩ l hl'
   refine ⟨l, _, rfl, .inl ⟨SqL.of Z01, fun p hp => ?_⟩⟩
   rw [List.take_of_length_le (by omega)] at hys
   have s2 := (Z02 (o := .lst ys) hl').trans (Z02 (o := .tup ys) hp)
   exact k p ys _ s2 Z01 hys
end
def off (a b : Addr) (H : Hp) : Hp := fun c => if c = a ∨ c = b then none else H c
theorem Z6z {a b : Addr} {H : Hp} : Same (off a b H) H := fun c o e => by
 unfold off at e
 split at e
 ·cases e
 ·exact e
theorem Z6e {a b c : Addr} {H : Hp} {o : HO} (h : H c = some o) (h1 : c ≠ a) (h2 : c ≠ b) : off a b H c = some o := by
 unfold off
 rw [if_neg (fun z => z.elim h1 h2)]
 exact h
theorem Zfb {a b : Addr} {H : Hp} {o : HO} : off a b (upd H a o) = off a b H := by
 funext c
 unfold off
 split
 ·rfl
 ·next h => rw [Z0c (fun z => h (.inl z))]
theorem Za4 {a b : Addr} {H : Hp} {o : HO} : off a b (upd H b o) = off a b H := by
 funext c
 unfold off
 split
 ·rfl
 ·next h => rw [Z0c (fun z => h (.inr z))]
theorem Z1x {a b : Addr} {H H' : Hp} (s : Same H H') : Same (off a b H) (off a b H') := fun c o e => by
 unfold off at e ⊢
 split at e
 ·cases e
 ·next h => rw [if_neg h]; exact s c o e
theorem Zjh {a b : Addr} {H0 H : Hp} (s : Same H0 H) (h1 : H0 a = none) (h2 : H0 b = none) : Same H0 (off a b H) := fun c o e => Z6e (s c o e) (fun z => by rw [z, h1] at e; cases e) (fun z => by rw [z, h2] at e; cases e)
structure TxtD (mg : Str -> Option Value) : Prop where
 node : ∃ tk, mg "NODE" = some (.str "node" tk)
 opened : ∃ tk, mg "OPENED" = some (.str "opened" tk)
 closed : ∃ tk, mg "CLOSED" = some (.str "closed" tk)
def Zd8 (N : Nat) : Sp := fun vs H Q _ => ∃ (v : V) (t : Th), vs = [v] /\ IsTh H v t /\ OkT N t /\ Th.sz t <= 100000 ∧
 ∀ (p : Addr) (ws : List V) H', Same H H' -> H p = none -> H' p = some (.lst ws) -> IsThs H' ws ((Z0u t).map pr) -> Q (.ref p) H'
mutual
theorem Z3x : ∀ t : Th, (Z0u t).length <= 3 * Th.sz t
 | .tup xs => by
  rw [Z0u, Th.sz, List.length_cons]
  have := Z5d (Z3p xs) (.tup xs) xs 0
  omega
 | .at _ => by simp [Z0u]
 | .lst _ => by simp [Z0u]
theorem Z5d (l : Bool) (me : Th) : ∀ (xs : List Th) (i : Nat), (Z20 l me i xs).length <= 3 * szs xs + (2 - i)
 | [], i => by simp [Z20, szs]
 | x :: xs, i => by
  rw [Z20, szs]
  have h1 := Z3x x
  have hm : (Z3q l me i).length <= (2 - i) - (2 - (i + 1)) := by
   match i with
   | 0 => cases l <;> simp [Z3q]
   | 1 => cases l <;> simp [Z3q]
   | _ + 2 => simp [Z3q]
  split
  ·have h2 := Z5d l me xs (i + 1)
   rw [List.length_append, List.length_append]
   omega
  ·have h2 := Z5d l me xs i
   omega
end
abbrev prs (l : List (Str × Th)) : List Th := l.map pr
theorem Zfc {H : Hp} {ws : List V} {st : List (Str × Th)} (h : IsThs H ws (prs st)) (hne : ws ≠ []) : ∃ ws' y st' d t a vn, ws = ws' ++ [y] /\ st = st' ++ [(d, t)] /\ IsThs H ws' (prs st') /\ y = .ref a /\ H a = some (.tup [.str d, vn]) /\ IsTh H vn t := by
 obtain ⟨ws', y, us', u, e1, e2, h1, h2⟩ := Zf4 ws h hne
 have hn : st ≠ [] := fun z => by
  subst z
  have := congrArg List.length e2
  simp [prs] at this
 obtain ⟨st', x, rfl⟩ : ∃ st' x, st = st' ++ [x] := ⟨st.dropLast, st.getLast hn, (List.dropLast_concat_getLast hn).symm⟩
 have e3 : prs (st' ++ [x]) = prs st' ++ [pr x] := by simp [prs]
 rw [e3] at e2
 have e4 := List.append_inj' e2 rfl
 obtain ⟨e5, e6⟩ := e4
 have e6' : pr x = u := by simpa using e6
 subst e6' e5
 obtain ⟨a, vs, rfl, ha, hvs⟩ := Z1q h2
 cases hvs with
 | cons c1 c2 =>
  cases c2 with
  | cons c3 c4 =>
   cases c4
   obtain ⟨rfl, _⟩ := Z3d c1
   exact ⟨ws', _, st', x.1, x.2, a, _, e1, rfl, h1, rfl, ha, c3⟩
theorem Z2d {d : Str} (h : d = "node" ∨ d = "opened" ∨ d = "closed") : Z54 (.str d) = true := by
 rcases h with rfl | rfl | rfl <;> decide +kernel
theorem Z2v (v : V) (vs : List V) : atI (v :: vs) 0 = some v := Z2h (j := 0) rfl
theorem Z2w (u v : V) (vs : List V) : atI (u :: v :: vs) 1 = some v := Z2h (j := 1) rfl
theorem Zd9 {n : Nat} {t : Th} (h : OkT n t) : 1 <= (Z0u t).length := by
 cases n with
 | zero => exact h.elim
 | succ n =>
  obtain ⟨w, ts, rfl, _⟩ := h
  rw [Z0u, List.length_cons]
  omega
def Zhr (N : Nat) (p : Str × Th) : Prop := (p.1 = "node" ∨ p.1 = "opened" ∨ p.1 = "closed") /\ OkT N p.2 /\ Th.sz p.2 <= 100000
theorem Za5 {N : Nat} : ∀ (st : List (Str × Th)), (∀ x ∈ st, Zhr N x) -> st.length <= (Z1s st).length := by
 intro st
 induction st with
 | nil => intro _; exact Nat.zero_le _
 | cons x st ih =>
  intro h
  have h1 := ih (fun y hy => h y (List.mem_cons_of_mem _ hy))
  have h2 : 1 <= (Z4e x).length := by
   unfold Z4e
   split
   ·exact Zd9 (h x (List.mem_cons_self ..)).2.1
   ·exact Nat.le_refl _
  have e : Z1s (x :: st) = Z1s st ++ Z4e x := by unfold Z1s; simp
  rw [e, List.length_append, List.length_cons]
  omega
theorem Z5e (w : Str) (ts : List Th) : Z1b (.at (.str w) :: ts) = Z1b ts := rfl
theorem Z89 {w : Str} {ts : List Th} : Z3p (.at (.str w) :: ts) = decide (w = "let") := rfl
section
variable {P : Program} {w : World} {K : PySem.W.Frag} {mg : Str -> Option Value} {base : Heap}
theorem scSteps : FnScope ["tree", "walk", "waiting", "deed", "node", "inner"] ["tree"] (Z03 Z6b) := ⟨rfl, rfl, rfl, by decide +kernel, rfl, by decide +kernel, by decide +kernel⟩
theorem Zfd {f fP : Addr} {fd dP : FuncData} (F : Fun K "steps" "steps" Z6b f fd) (T : TxtT mg) (TD : TxtD mg) (KI : Kits K)
  (FP : Fun K "parts" "parts" Z5c fP dP) (bP : Binds K dP ["e"] []) (mP : mg "parts" = some (.ref fP)) (N : Nat) : FnOk P w K mg base CX0 2 f fd ["tree"] (Zd8 N) := by
 have GP : FnOk P w K mg base CX0 1 fP dP ["e"] spParts := Za3 FP T KI
 obtain ⟨tn, hNode⟩ := TD.node
 obtain ⟨to, hOpen⟩ := TD.opened
 obtain ⟨tc, hClose⟩ := TD.closed
 refine F.ok scSteps (fun vs H Q E h => ?_) (fun cdv A outer s H vs Q E hr h => ?_)
 ·obtain ⟨v, t, rfl, _⟩ := h
  rfl
 ·obtain ⟨v, t, rfl, ht, hok, hz, k⟩ := h
  have hsz : sizeLine = 16777216 := sizeLine_eq
  have hr1 : Room 1 _ := hr.mono (by decide)
  refine' ⟨?tt, ?body, ?fin⟩
  case body =>
   refine' Z05 ?s1 (Z0r ?s2 (Z05 ?s3 (Z07 ?s4)))
   case s1 => exact Z0j (i := 1) scSteps.nd rfl (Or.inl rfl) (Z18 Z00)
   case s2 => exact Z0j (i := 2) scSteps.nd rfl (Or.inl rfl) (Z18 (Zbr (Z0z (Z0i (Z17 (v := .str "node") (by rfl) hNode ⟨tn, rfl⟩) (Z0i (pv 0) Z00))) Z00))
   case s3 =>
    refine' Z9j PassesOwn.never ?c (Z05 ?b1 (Z0r ?b2 (Z07 ?b3)))
    case c => exact Zes (pv 2) (fun _ => rfl)
    case b1 => exact Ziz (Zj5 PySem.F.plainAttrs_list PySem.F.slot_list_pop PySem.F.type_list_pop Zj6 (pv 2)) (Zbx rfl (Z2y (Z0x (i := 3) scSteps.nd rfl (Or.inl rfl)) (Z2y (Z0x (i := 4) scSteps.nd rfl (Or.inl rfl)) Z8s)))
    case b2 => exact Z2o (Z7s PySem.F.plainAttrs_list PySem.F.slot_list_append PySem.F.type_list_append Z2b (pv 1) (Zbr (Z0z (Z0i (pv 3) (Z0i (pv 4) Z00))) Z00))
    case b3 =>
     refine' Z10 ?d (Z0r ?c1 (Z0r ?c2 (Z07 ?c3))) Z0k
     case d => exact Z0f Z1j (pv 3) (Z17 (v := .str "node") (by rfl) hNode ⟨tn, rfl⟩) (Z0o _)
     case c1 =>
      refine' Zay (i := 5) (N' := ["part"]) (src := [none]) ?k1 ?k2 ?k3 ?k4 ?k5 ?k6 ?k7
      case k1 => rfl
      case k2 => exact scSteps.nd
      case k3 => rfl
      case k4 => exact Or.inl rfl
      case k5 => exact Z0s (Z03 Z6b) rfl ["tree", "walk", "waiting", "deed", "node", "inner"] rfl (by decide +kernel)
      case k6 => exact Z7k (Z06 GP hr1 (by rfl) mP FP.kp bP .nil Z0n (Z0i (pv 4) Z00))
      case k7 => exact fun cl C ex s0 H0 => ⟨Z0x (i := 0) (nd1 _) rfl (Or.inl rfl), Z3b, Z0z (Z0i (Z17 (v := .str "node") (by rfl) hNode ⟨tn, rfl⟩) (Z0i (pv 0) Z00))⟩
     case c2 =>
      refine' Z10 ?e (Z07 ?g) Z0k
      case e => exact Z0f Z1j (Z15 Z23 (pv 4) Z04 (fun _ _ => rfl)) Z0a (Z0o _)
      case g => exact Z0j (i := 5) scSteps.nd rfl (Or.inl rfl) (Z18 (Z0d (Z15 Z1a (pv 5) Z04 (fun _ _ => rfl)) (Zbr (Z0z (Z0i (Z17 (v := .str "opened") (by rfl) hOpen ⟨to, rfl⟩) (Z0i (pv 4) Z00))) (Z0d (Z15 Z1a (pv 5) Z04 (fun _ _ => rfl)) (Zbr (Z0z (Z0i (Z17 (v := .str "closed") (by rfl) hClose ⟨tc, rfl⟩) (Z0i (pv 4) Z00))) Z00)))))
     case c3 => exact Z2o (Z7s PySem.F.plainAttrs_list PySem.F.slot_list_extend PySem.F.type_list_extend Zcd (pv 2) (Z0d (Zgf (pv 5) (Zgz Zc1 Z04)) Z00))
   case s4 => exact Z0m (pv 1)
  case fin =>
   refine ⟨Nat.zero_le _, fun wk hwk => ?_⟩
   refine ⟨fun σ' H' => ∃ wt p0, σ' = [some v, some (.ref wk), some (.ref wt), none, none, none] /\ wk ≠ wt /\ H wt = none /\ Same H H' /\ H' wk = some (.lst []) /\ H' wt = some (.lst [.ref p0]) /\ H' p0 = some (.tup [.str "node", v]), ?_, ?_⟩
   ·refine ⟨_, rfl, (by show 2 <= sizeLine; decide), fun p0 hp0 => ⟨(by show 1 <= sizeLine; decide), fun wt hwt => ?_⟩⟩
    have s1 := Z02 (o := .lst []) hwk
    have s2 := s1.trans (Z02 (o := .tup [.str "node", v]) hp0)
    have e1 : upd (upd H wk (.lst [])) p0 (.tup [.str "node", v]) wk = some (.lst []) := Z02 hp0 _ _ Z01
    have s3 := Z02 (o := .lst [.ref p0]) hwt
    exact ⟨wt, p0, rfl, Z0h e1 hwt, Z2t s2 hwt, s2.trans s3, s3 _ _ e1, Z01, s3 _ _ Z01⟩
   rintro σ0 H1 ⟨wt, p0, rfl, hkt, hwt, s1, L1, W1, P1⟩
   refine Zha (fun m σ H' => ∃ (ws wl : List V) (st dn : List (Str × Th)) (o3 o4 o5 : Option V), σ = [some v, some (.ref wk), some (.ref wt), o3, o4, o5] /\ Same H H' /\ H' wt = some (.lst ws) /\ H' wk = some (.lst wl) ∧
     IsThs (off wk wt H') ws (prs st) /\ IsThs (off wk wt H') wl (prs dn) /\ dn ++ Z1s st = Z0u t /\ (∀ x ∈ st, Zhr N x) /\ m = (Z1s st).length)
    (Z1s [("node", t)]).length ⟨[.ref p0], [], [("node", t)], [], none, none, none, rfl, s1, W1, L1, ?_, .nil, ?_, ?_, rfl⟩ ?_ ?_
   ·refine .cons (.tup (Z6e P1 (Z44 P1 L1 (by intro q; cases q)) (Z44 P1 W1 (by intro q; cases q))) (.cons (.at (Z2d (.inl rfl))) (.cons (IsTh.kp (Kp.of (Zjh s1 hwk hwt)) ht) .nil))) .nil
   ·show Z1s ([] ++ [(("node" : Str), t)]) = _
    rw [Z3r, Z30]
    show Z0u t ++ [] = _
    rw [List.append_nil]
   ·intro x hx
    rw [List.mem_singleton] at hx
    subst hx
    exact ⟨.inl rfl, hok, hz⟩
   ·rintro m σ H2 ⟨ws, wl, st, dn, o3, o4, o5, rfl, s2, W2, L2, hst, hdn, heq, hall, rfl⟩
    have hlt := Z3x t
    have hlen : dn.length + (Z1s st).length = (Z0u t).length := by rw [<- heq, List.length_append]
    have hstl := Za5 st hall
    refine ⟨_, rfl, _, .inl ⟨ws, SqL.of W2, rfl⟩, ?_⟩
    cases hws : ws.isEmpty with
    | true =>
     have e : ws = [] := List.isEmpty_iff.mp hws
     subst e
     refine Z46 ?_
     have est : st = [] := by
      have := IsThs.len _ hst
      rw [List.length_map] at this
      exact List.eq_nil_of_length_eq_zero this.symm
     subst est
     have ed : dn = Z0u t := by rw [<- heq]; show dn = dn ++ []; rw [List.append_nil]
     subst ed
     exact ⟨_, rfl, k wk wl H2 s2 hwk L2 (IsThs.kp (Kp.of Z6z) hdn)⟩
    | false =>
     have hne : ws ≠ [] := fun z => by rw [z] at hws; cases hws
     obtain ⟨ws', y, st', d, n, a, vn, rfl, rfl, hst', rfl, ha, hvn⟩ := Zfc hst hne
     refine Zej ?_
     refine ⟨_, rfl, .inl ⟨rfl, _, SqL.of W2⟩, wt, _, .ref a, rfl, rfl, W2, (by rw [List.length_append]; simp), ?_⟩
     rw [List.dropLast_concat]
     have hx := hall (d, n) (List.mem_append_right _ (List.mem_singleton.mpr rfl))
     have hall' : ∀ x ∈ st', Zhr N x := fun x hx => hall x (List.mem_append_left _ hx)
     have hat : upd H2 wt (.lst ws') a = some (.tup [.str d, vn]) := by
      have h1 := Z6z _ _ ha
      rw [Z0c (Z44 h1 W2 (by intro q; cases q))]
      exact h1
     refine ⟨a, [.str d, vn], rfl, SqT.of hat, rfl, _, _, rfl, _, _, rfl, rfl, ?_⟩
     refine ⟨fun σ' H' => ∃ (wl' : List V), σ' = [some v, some (.ref wk), some (.ref wt), some (.str d), some vn, o5] /\ Same H H' /\ H' wt = some (.lst ws') /\ H' wk = some (.lst wl') ∧
      IsThs (off wk wt H') ws' (prs st') /\ IsThs (off wk wt H') wl' (prs (dn ++ [(d, n)])) /\ IsTh (off wk wt H') vn n, ?_, ?_⟩
     ·have eo : off wk wt (upd H2 wt (.lst ws')) = off wk wt H2 := Za4
      have Lx : upd H2 wt (.lst ws') wk = some (.lst wl) := by rw [Z0c hkt]; exact L2
      have Wx : upd H2 wt (.lst ws') wt = some (.lst ws') := Z01
      have sx : Same H (upd H2 wt (.lst ws')) := fun b ob e => by rw [Z0c (Z0h e hwt)]; exact s2 b ob e
      rw [<- eo] at hst' hdn hvn
      generalize upd H2 wt (.lst ws') = H3 at Lx Wx sx hst' hdn hvn ⊢
      refine ⟨_, rfl, .inl ⟨rfl, _, SqL.of Lx⟩, _, rfl, _, rfl, (by show 2 <= sizeLine; decide), fun q hq => ?_⟩
      have sq := Z02 (o := .tup [.str d, vn]) hq
      have hqk : q ≠ wk := fun z => by rw [z, Lx] at hq; cases hq
      have hqt : q ≠ wt := fun z => by rw [z, Wx] at hq; cases hq
      have hll := IsThs.len _ hdn
      rw [List.length_map] at hll
      rw [List.length_append] at hstl
      simp only [List.length_singleton] at hstl
      refine ⟨wk, wl, .ref q, rfl, rfl, sq _ _ Lx, by omega, ?_⟩
      have so := Z1x (a := wk) (b := wt) sq
      have eo2 : off wk wt (upd (upd H3 q (.tup [.str d, vn])) wk (.lst (wl ++ [.ref q]))) = off wk wt (upd H3 q (.tup [.str d, vn])) := Zfb
      refine ⟨wl ++ [.ref q], rfl, ?_, ?_, Z01, ?_, ?_, ?_⟩
      ·intro b ob e
       rw [Z0c (Z0h e hwk)]
       exact sq _ _ (sx _ _ e)
      ·rw [Z0c hkt.symm]
       exact sq _ _ Wx
      ·rw [eo2]; exact IsThs.kp (Kp.of so) hst'
      ·rw [eo2]
       unfold prs
       rw [List.map_append]
       refine IsThs.app _ (IsThs.kp (Kp.of so) hdn) (.cons (.tup (Z6e Z01 hqk hqt) (.cons (.at (Z2d hx.1)) (.cons (IsTh.kp (Kp.of so) hvn) .nil))) .nil)
      ·rw [eo2]; exact IsTh.kp (Kp.of so) hvn
     clear hst hdn ha hvn hat hst' W2 L2 s2
     rintro σ3 H3 ⟨wl', rfl, s3, W3, L3, hst3, hdn3, hvn3⟩
     refine ⟨_, rfl, rfl, _, rfl, Z1r (fun g => ?_) (fun g => ?_)⟩
     ·have hd : d = "node" := by
       have g' := of_decide_eq_true g
       injection g'
      subst hd
      obtain ⟨_, hokn, hzn⟩ := hx
      obtain ⟨N', rfl⟩ : ∃ N', N = N' + 1 := by
       cases N with
       | zero => exact hokn.elim
       | succ N' => exact ⟨N', rfl⟩
      obtain ⟨w0, xs, rfl, hlet, hkid⟩ := hokn
      simp only [] at hzn
      have hxs : Th.sz (.tup (.at (.str w0) :: xs)) = 1 + (1 + szs xs) := by simp only [Th.sz, szs]
      have hxl := Z8z xs
      have hkl : (Z1b xs).length <= 100000 := by
       have h1 := List.length_filter_le isTup xs
       show (xs.filter isTup).length <= _
       omega
      have hkok : ∀ k ∈ Z1b xs, OkT N' k /\ Th.sz k <= 100000 := fun k hk => by
       have hk' : k ∈ xs /\ isTup k = true := List.mem_filter.mp hk
       have := Zgh xs k hk'.1
       exact ⟨hkid k hk'.1 hk'.2, by omega⟩
      refine ⟨fun σ' H' => ∃ (l : Addr) (ys : List V), σ' = [some v, some (.ref wk), some (.ref wt), some (.str "node"), some vn, some (.ref l)] /\ Same H3 H' /\ H' l = some (.lst ys) /\ H3 l = none /\ IsThs (off wk wt H') ys (prs ((Z1b xs).map fun k => (("node" : Str), k))), ?_, ?_⟩
      ·refine ⟨_, rfl, off wk wt H3, vn, .at (.str w0) :: xs, rfl, Z6z, hvn3, by rw [List.length_cons]; omega, fun p ps H4 s4 hp4 hps => ?_⟩
       rw [Z5e] at hps
       have hpl := IsThs.len _ hps
       refine ⟨p, rfl, ⟨_, SqT.of hp4⟩, Z3o (K := K) (a := p) (xs := ps) (fun i ys σc H' => ∃ o, σc = [o] /\ Same H4 H' /\ ys.length = i /\ IsThs (off wk wt H') ys (prs (((Z1b xs).take i).map fun k => (("node" : Str), k))))
        ⟨none, rfl, Same.refl _, rfl, by rw [List.take_zero]; exact .nil⟩ (fun i ys σc H' ⟨_, _, e, _⟩ => SqT.of (e _ _ hp4)) ?_ ?_⟩
       ·rintro i x ys σc H' hxi hi ⟨o, rfl, s5, hyl, hys⟩
        obtain ⟨kd, hk, h1⟩ := Z1i _ hps hxi
        refine ⟨by omega, _, rfl, (by show 2 <= sizeLine; decide), fun q hq => ?_⟩
        have sq := Z02 (o := .tup [.str "node", x]) hq
        have so := Z1x (a := wk) (b := wt) sq
        have hqk : q ≠ wk := fun z => by rw [z, s5 _ _ (s4 _ _ L3)] at hq; cases hq
        have hqt : q ≠ wt := fun z => by rw [z, s5 _ _ (s4 _ _ W3)] at hq; cases hq
        refine nx hi ⟨_, rfl, s5.trans sq, by rw [List.length_append, hyl]; rfl, ?_⟩
        have e1 : ((Z1b xs).take (i + 1)) = (Z1b xs).take i ++ [kd] := by rw [List.take_add_one, hk]; rfl
        unfold prs
        rw [e1, List.map_append, List.map_append]
        refine IsThs.app _ (IsThs.kp (Kp.of so) hys) (.cons (.tup (Z6e Z01 hqk hqt) (.cons (.at (Z2d (.inl rfl))) (.cons (IsTh.kp (Kp.of (Z1x ((s4.trans s5).trans sq))) h1) .nil))) .nil)
       ·rintro ys σc H' ⟨o, rfl, s5, hyl, hys⟩ l hl
        rw [List.take_of_length_le (by omega)] at hys
        have sl := Z02 (o := .lst ys) hl
        refine ⟨l, ys, rfl, (s4.trans s5).trans sl, Z01, Z2t (s4.trans s5) hl, IsThs.kp (Kp.of (Z1x sl)) hys⟩
      rintro σ4 H4 ⟨l, ys, rfl, s4, hl4, hl3, hys4⟩
      have hlk : l ≠ wk := fun z => by rw [z, L3] at hl3; cases hl3
      have hlt' : l ≠ wt := fun z => by rw [z, W3] at hl3; cases hl3
      obtain ⟨an, vns, evn, han, hvns⟩ := Z1q hvn3
      cases hvns with
      | @cons vh vr _ _ c1 c2 =>
       obtain ⟨rfl, _⟩ := Z3d c1
       have han3 := Z6z _ _ han
       refine ⟨fun σ' H' => ∃ (l : Addr) (ys : List V) (ps : List (Str × Th)), σ' = [some v, some (.ref wk), some (.ref wt), some (.str "node"), some vn, some (.ref l)] /\ Same H3 H' /\ H' l = some (.lst ys) /\ IsThs (off wk wt H') ys (prs ps) ∧
        Z1s (st' ++ [(("node" : Str), .tup (.at (.str w0) :: xs))]) = (("node" : Str), .tup (.at (.str w0) :: xs)) :: Z1s (st' ++ ps.reverse) /\ ∀ x ∈ ps, Zhr (N' + 1) x, ?_, ?_⟩
       ·have hself : Zhr (N' + 1) ("opened", .tup (.at (.str w0) :: xs)) /\ Zhr (N' + 1) ("closed", .tup (.at (.str w0) :: xs)) :=
         ⟨⟨.inr (.inl rfl), ⟨w0, xs, rfl, hlet, hkid⟩, hzn⟩, ⟨.inr (.inr rfl), ⟨w0, xs, rfl, hlet, hkid⟩, hzn⟩⟩
        refine ⟨_, rfl, an, _, 0, .str w0, evn, rfl, SqT.of (s4 _ _ han3), Z2v _ _, rfl, _, rfl, Z1r (fun g2 => ?_) (fun g2 => ?_)⟩
        ·have hw0 : w0 = "let" := by
          have g' := of_decide_eq_true g2
          injection g'
         have h2 := hlet hw0
         obtain ⟨k1, k2, hk12⟩ : ∃ k1 k2, Z1b xs = [k1, k2] := by
          match hq : Z1b xs, h2 with
          | [k1, k2], _ => exact ⟨k1, k2, rfl⟩
         rw [hk12] at hys4 hkok
         cases hys4 with
         | @cons y1 yr _ _ d1 d2 =>
          cases d2 with
          | @cons y2 yr2 _ _ d3 d4 =>
           cases d4
           refine ⟨_, rfl, l, _, 0, y1, rfl, rfl, SqL.of hl4, Z2v _ _, _, rfl, (by show 2 <= sizeLine; decide), fun q1 hq1 => ?_⟩
           have sq1 := Z02 (o := .tup [.str "opened", vn]) hq1
           refine ⟨_, rfl, l, _, 1, y2, rfl, rfl, SqL.of (sq1 _ _ hl4), Z2w _ _ _, _, rfl, (by show 2 <= sizeLine; decide), fun q2 hq2 => ?_⟩
           have sq2 := Z02 (o := .tup [.str "closed", vn]) hq2
           refine ⟨(by show 4 <= sizeLine; decide), fun l2 hl2 => ?_⟩
           have sq3 := Z02 (o := .lst [y1, .ref q1, y2, .ref q2]) hl2
           have sA := (sq1.trans sq2).trans sq3
           have hq1k : q1 ≠ wk := fun z => by rw [z, s4 _ _ L3] at hq1; cases hq1
           have hq1t : q1 ≠ wt := fun z => by rw [z, s4 _ _ W3] at hq1; cases hq1
           have hq2k : q2 ≠ wk := fun z => by rw [z, sq1 _ _ (s4 _ _ L3)] at hq2; cases hq2
           have hq2t : q2 ≠ wt := fun z => by rw [z, sq1 _ _ (s4 _ _ W3)] at hq2; cases hq2
           have oA := Z1x (a := wk) (b := wt) sA
           have hvA := IsTh.kp (Kp.of (Z1x (a := wk) (b := wt) (s4.trans sA))) hvn3
           refine ⟨l2, _, [("node", k1), ("opened", .tup (.at (.str w0) :: xs)), ("node", k2), ("closed", .tup (.at (.str w0) :: xs))], rfl, s4.trans sA, Z01, ?_, ?_, ?_⟩
           ·exact .cons (IsTh.kp (Kp.of oA) d1) (.cons (.tup (Z6e (sq3 _ _ (sq2 _ _ Z01)) hq1k hq1t) (.cons (.at (Z2d (.inr (.inl rfl)))) (.cons hvA .nil))) (.cons (IsTh.kp (Kp.of oA) d3) (.cons (.tup (Z6e (sq3 _ _ Z01) hq2k hq2t) (.cons (.at (Z2d (.inr (.inr rfl)))) (.cons hvA .nil))) .nil)))
           ·exact Zf5 (by rw [Z89, hw0]; decide +kernel) (by rw [Z5e, hk12])
           ·intro x hx
            have o1 := hkok k1 (by simp)
            have o2 := hkok k2 (by simp)
            simp only [List.mem_cons, List.not_mem_nil, or_false] at hx
            rcases hx with rfl | rfl | rfl | rfl
            ·exact ⟨.inl rfl, o1.1.up, o1.2⟩
            ·exact hself.1
            ·exact ⟨.inl rfl, o2.1.up, o2.2⟩
            ·exact hself.2
        ·have hw0 : w0 ≠ "let" := fun z => g2 (by rw [z]; decide +kernel)
         refine ⟨l, ys, (Z1b xs).map fun k => (("node" : Str), k), rfl, s4, hl4, hys4, ?_, ?_⟩
         ·have := Zb0 (st := st') (xs := .at (.str w0) :: xs) (by rw [Z89]; exact decide_eq_false hw0)
          rw [Z5e] at this
          exact this
         ·intro x hx
          obtain ⟨kd, hk, rfl⟩ := List.mem_map.mp hx
          exact ⟨.inl rfl, (hkok kd hk).1.up, (hkok kd hk).2⟩
       clear hys4 hl4 s4 hl3 hlk hlt'
       rintro σ5 H5 ⟨l, ys, ps, rfl, s5, hl5, hys5, htodo, hps⟩
       have hyl := IsThs.len _ hys5
       rw [List.length_map] at hyl
       have hnew : ∀ x ∈ st' ++ ps.reverse, Zhr (N' + 1) x := fun x hx => by
        rcases List.mem_append.mp hx with z | z
        ·exact hall' x z
        ·exact hps x (List.mem_reverse.mp z)
       have hnl := Za5 _ hnew
       rw [htodo] at hlen
       rw [List.length_cons] at hlen
       rw [List.length_append, List.length_reverse] at hnl
       have hwl := IsThs.len _ hst3
       rw [List.length_map] at hwl
       refine ⟨_, rfl, .inl ⟨rfl, _, SqL.of (s5 _ _ W3)⟩, _, rfl, _, rfl, rfl, l, ys, rfl, SqL.of hl5, fun p hp => ?_⟩
       have sp5 := Z02 (o := .lst ys.reverse) hp
       refine ⟨wt, p, ws', ys.reverse, rfl, rfl, sp5 _ _ (s5 _ _ W3), Z01, by rw [List.length_reverse]; omega, ?_⟩
       have eo : off wk wt (upd (upd H5 p (.lst ys.reverse)) wt (.lst (ws' ++ ys.reverse))) = off wk wt (upd H5 p (.lst ys.reverse)) := Za4
       refine ⟨(Z1s (st' ++ ps.reverse)).length, by rw [htodo, List.length_cons]; omega, ws' ++ ys.reverse, wl', st' ++ ps.reverse, dn ++ [(("node" : Str), Th.tup (.at (.str w0) :: xs))], _, _, _, rfl, ?_, Z01, ?_, ?_, ?_, ?_, hnew, rfl⟩
       ·intro b ob e
        rw [Z0c (Z0h e hwt)]
        exact sp5 _ _ (s5 _ _ (s3 _ _ e))
       ·rw [Z0c hkt]
        exact sp5 _ _ (s5 _ _ L3)
       ·rw [eo]
        unfold prs
        rw [List.map_append, List.map_reverse]
        exact IsThs.app _ (IsThs.kp (Kp.of (Z1x (s5.trans sp5))) hst3) (Zcr _ (IsThs.kp (Kp.of (Z1x sp5)) hys5))
       ·rw [eo]
        exact IsThs.kp (Kp.of (Z1x (s5.trans sp5))) hdn3
       ·rw [<- heq, htodo, List.append_assoc]
        rfl
     ·have hd : d ≠ "node" := fun z => g (by rw [z]; decide +kernel)
      have e1 : Z1s (st' ++ [(d, n)]) = (d, n) :: Z1s st' := by
       rw [Z3r]
       unfold Z4e
       rw [if_neg hd]
       rfl
      refine ⟨(Z1s st').length, by rw [e1, List.length_cons]; omega, ws', wl', st', dn ++ [(d, n)], _, _, _, rfl, s3, W3, L3, hst3, hdn3, ?_, hall', rfl⟩
      rw [<- heq, e1, List.append_assoc]
      rfl
   ·rintro σ H1 Q1 Q2 hq ⟨u1, e1, b1, e2, q⟩
    exact ⟨u1, e1, b1, e2, hq _ _ q⟩
end
theorem Z70 {X : Cx} {K : PySem.W.Frag} (hK : X.K = K) : Z34 X (.builtin "len") (fun xs H Q => ∃ p ys, xs = [.ref p] /\ (SqL K H p ys ∨ SqT K H p ys) /\ Q (.int ys.length) H) := by
 subst hK
 exact Z0l
theorem Z71 {X : Cx} {K : PySem.W.Frag} {x y : Str} {px py pos : Pos} {k i j : Nat} (hK : X.K = K) (hc : X.calm = true) (hN : X.N.Nodup) (hi : X.N[i]? = some x) (hx : Loc X.env.scope x) (hj : X.N[j]? = some y) (hy : Loc X.env.scope y)
  (hf : X.fn x = true ∨ X.env.scope.names.lookup x = some .local) (hg : X.fn y = true ∨ X.env.scope.names.lookup y = some .local) :
  PG X (.Tuple [.Name x px, .Name y py] k pos) (Zla K 2 (Zgy (Z8r i) (Zgy (Z8r j) gNil))) := by
 subst hK
 exact Zbx hc (Z2y (Z0x hN hi hx hf) (Z2y (Z0x hN hj hy hg) Z8s))
def Zhs : Th -> Th
 | .tup xs => .tup [.tup (Z6y xs), .at (.int ((Z1b xs).length : Nat))]
 | t => t
def Z2i (t : Th) : List Th := (Z0w (Z0u t)).map fun p => Zhs p.2
def Zda (N : Nat) : Sp := fun vs H Q _ => ∃ (v : V) (t : Th), vs = [v] /\ IsTh H v t /\ OkT N t /\ Th.sz t <= 100000 ∧
 ∀ (p : Addr) (ws : List V) H', Same H H' -> H p = none -> H' p = some (.lst ws) -> IsThs H' ws (Z2i t) -> Q (.ref p) H'
mutual
theorem Za6 : ∀ (t : Th) (N : Nat), OkT N t -> Th.sz t <= 100000 -> ∀ x ∈ Z0u t, OkT N x.2 /\ Th.sz x.2 <= 100000
 | .tup xs, N, h, hz, x, hx => by
  rw [Z0u] at hx
  rcases List.mem_cons.mp hx with z | z
  ·subst z; exact ⟨h, hz⟩
  ·cases N with
   | zero => exact h.elim
   | succ N =>
    refine Za7 (Z3p xs) (.tup xs) xs N 0 ?_ h hz ?_ x z
    ·intro y hy hyt
     obtain ⟨w, ts, e, _, h2⟩ := h
     cases e
     rcases List.mem_cons.mp hy with q | q
     ·subst q; cases hyt
     ·exact h2 y q hyt
    ·rw [Th.sz] at hz; omega
 | .at _, N, h, hz, x, hx => by simp [Z0u] at hx
 | .lst _, N, h, hz, x, hx => by simp [Z0u] at hx
theorem Za7 (l : Bool) (me : Th) : ∀ (xs : List Th) (N i : Nat), (∀ y ∈ xs, isTup y = true -> OkT N y) -> OkT (N + 1) me -> Th.sz me <= 100000 -> szs xs <= 100000 -> ∀ x ∈ Z20 l me i xs, OkT (N + 1) x.2 /\ Th.sz x.2 <= 100000
 | [], N, i, h, hm, hz, hs, x, hx => by simp [Z20] at hx
 | y :: ys, N, i, h, hm, hz, hs, x, hx => by
  rw [Z20] at hx
  rw [szs] at hs
  have hr := fun j z => Za7 l me ys N j (fun q hq => h q (List.mem_cons_of_mem _ hq)) hm hz (by omega) x z
  split at hx
  ·rcases List.mem_append.mp hx with z | z
   ·have := Za6 y N (h y (List.mem_cons_self ..) ‹_›) (by omega) x z
    exact ⟨this.1.up, this.2⟩
   ·rcases List.mem_append.mp z with z | z
    ·have e : x.2 = me := by
      match i with
      | 0 => cases l <;> simp [Z3q] at z; rw [z]
      | 1 => cases l <;> simp [Z3q] at z; rw [z]
      | _ + 2 => simp [Z3q] at z
     rw [e]; exact ⟨hm, hz⟩
    ·exact hr _ z
  ·exact hr _ hx
end
theorem Zdb {l : List (Str × Th)} {i : Nat} {p : Str × Th} (h : l[i]? = some p) : (Z0w (l.take (i + 1))).map (fun p => Zhs p.2) = (Z0w (l.take i)).map (fun p => Zhs p.2) ++ (if p.1 = "node" then [Zhs p.2] else []) := by
 unfold Z0w
 rw [List.take_add_one, h, List.filter_append, List.map_append]
 by_cases hp : p.1 = "node" <;> simp [hp]
section
variable {P : Program} {w : World} {K : PySem.W.Frag} {mg : Str -> Option Value} {base : Heap}
structure HT (K : PySem.W.Frag) (mg : Str -> Option Value) (fP fH fS : Addr) (dP dH dS : FuncData) : Prop where
 T : TxtT mg
 TD : TxtD mg
 KI : Kits K
 P : Fun K "parts" "parts" Z5c fP dP
 bP : Binds K dP ["e"] []
 mP : mg "parts" = some (.ref fP)
 H : Fun K "head" "head" Zb7 fH dH
 bH : Binds K dH ["node"] []
 mH : mg "head" = some (.ref fH)
 S : Fun K "steps" "steps" Z6b fS dS
 bS : Binds K dS ["tree"] []
 mS : mg "steps" = some (.ref fS)
theorem nd2 : (["deed", "node"] : List Str).Nodup := by decide +kernel
theorem Zji : FnScope ["tree"] ["tree"] (Z03 Zb8) := ⟨rfl, rfl, rfl, by decide +kernel, rfl, by decide +kernel, by decide +kernel⟩
theorem Zdc {f fP fH fS : Addr} {fd dP dH dS : FuncData} (F : Fun K "flat" "flat" Zb8 f fd) (U : HT K mg fP fH fS dP dH dS) (N : Nat) : FnOk P w K mg base CX0 3 f fd ["tree"] (Zda N) := by
 have GP : FnOk P w K mg base CX0 1 fP dP ["e"] spParts := Za3 U.P U.T U.KI
 have GH : FnOk P w K mg base CX0 1 fH dH ["node"] spHead := Zhq U.H U.T U.KI
 have GS : FnOk P w K mg base CX0 2 fS dS ["tree"] (Zd8 N) := Zfd U.S U.T U.TD U.KI U.P U.bP U.mP N
 obtain ⟨tn, hNode⟩ := U.TD.node
 refine F.ok Zji (fun vs H Q E h => ?_) (fun cdv A outer s H vs Q E hr h => ?_)
 ·obtain ⟨v, t, rfl, _⟩ := h
  rfl
 ·obtain ⟨v, t, rfl, ht, hok, hz, k⟩ := h
  have hsz : sizeLine = 16777216 := sizeLine_eq
  have hr1 : Room 1 _ := hr.mono (by decide)
  have hr2 : Room 2 _ := hr.mono (by decide)
  refine' ⟨?tt, ?body, ?fin⟩
  case body =>
   refine' Z07 ?s1
   case s1 =>
    refine' Z0m ?r
    case r =>
     refine' Z1z (N' := ["deed", "node"]) (src := [none, none]) ?k1 ?k5 ?k6 ?k7
     case k1 => rfl
     case k5 => exact Z0s (Z03 Zb8) rfl ["tree"] rfl (by decide +kernel)
     case k6 => exact Z39 (Z06 GS hr2 (by rfl) U.mS U.S.kp U.bS .nil Z0n (Z0i (pv 0) Z00))
     case k7 =>
      intro cl C ex s0 H0
      refine' ⟨?g1, ?g2, ?g3⟩
      case g1 => exact Z71 (K := K) (i := 0) (j := 1) rfl rfl nd2 rfl (Or.inl rfl) rfl (Or.inl rfl) (Or.inr rfl) (Or.inr rfl)
      case g2 => exact Z49 (Z0f Z1j (pv 0) (Z17 (v := .str "node") (by rfl) hNode ⟨tn, rfl⟩) (Z0o _))
      case g3 => exact Z0z (Z4c (Z06 GH hr1 (by rfl) U.mH U.H.kp U.bH .nil Z0n (Z0i (pv 1) Z00)) (Z4c (Z0b (id := "len") (Z70 (K := K) rfl) (by rfl) U.T.len PySem.boot_len (Z4c (Z06 GP hr1 (by rfl) U.mP U.P.kp U.bP .nil Z0n (Z0i (pv 1) Z00)) Z00)) Z00))
  case fin =>
   refine ⟨_, rfl, v, t, rfl, ht, hok, hz, fun p ws H1 s1 hp0 hp hws => ?_⟩
   have hl := IsThs.len _ hws
   rw [List.length_map] at hl
   have hlt := Z3x t
   refine ⟨p, rfl, ⟨_, SqL.of hp⟩, Z2r (K := K) (a := p) (xs := ws) (fun i ys σc H' => ∃ o o', σc = [o, o'] /\ Same H1 H' /\ ys.length <= i /\ IsThs H' ys ((Z0w ((Z0u t).take i)).map fun p => Zhs p.2))
    ⟨none, none, rfl, Same.refl _, Nat.le_refl _, by rw [List.take_zero]; exact .nil⟩ (fun i ys σc H' ⟨_, _, _, e, _⟩ => SqL.of (e _ _ hp)) ?_ ?_⟩
   ·rintro i x ys σc H' hx hi ⟨o, o', rfl, s2, hyl, hys⟩
    obtain ⟨u, hu, h1⟩ := Z1i _ hws hx
    rw [List.getElem?_map] at hu
    obtain ⟨q, hq, rfl⟩ : ∃ q, (Z0u t)[i]? = some q /\ pr q = u := by
     cases e : (Z0u t)[i]? with
     | none => rw [e] at hu; cases hu
     | some q => rw [e] at hu; exact ⟨q, rfl, by simpa using hu⟩
    obtain ⟨hqo, hqz⟩ := Za6 t N hok hz q (List.mem_of_getElem? hq)
    obtain ⟨a, vs, rfl, ha, hvs⟩ := Z1q h1
    have htd := Zdb hq
    cases hvs with
    | cons c1 c2 =>
     cases c2 with
     | @cons vn _ _ _ c3 c4 =>
      cases c4
      obtain ⟨rfl, _⟩ := Z3d c1
      refine ⟨by omega, a, _, rfl, SqT.of (s2 _ _ ha), rfl, _, _, rfl, _, _, rfl, rfl, _, rfl, rfl, _, rfl, Z1r (fun g => ?_) (fun g => ?_)⟩
      ·have hd : q.1 = "node" := by
        have g' := of_decide_eq_true g
        injection g'
       rw [if_pos hd] at htd
       obtain ⟨N', rfl⟩ : ∃ N', N = N' + 1 := by
        cases N with
        | zero => exact hqo.elim
        | succ N' => exact ⟨N', rfl⟩
       obtain ⟨w0, xs, e0, _⟩ := hqo
       rw [e0] at c3 hqz htd
       have hxs : Th.sz (.tup (.at (.str w0) :: xs)) = 1 + (1 + szs xs) := by simp only [Th.sz, szs]
       have hxl := Z8z xs
       have c3' := IsTh.kp (Kp.of s2) c3
       refine ⟨_, rfl, H', vn, _, rfl, Same.refl _, c3', by rw [List.length_cons]; omega, fun p1 ws1 H2 s3 hp1 hw1 => ?_⟩
       refine ⟨_, rfl, H2, vn, _, rfl, Same.refl _, IsTh.kp (Kp.of s3) c3', by rw [List.length_cons]; omega, fun p2 ps H3 s4 hp3 hps => ?_⟩
       refine ⟨p2, ps, rfl, .inr (SqT.of hp3), (by show 2 <= sizeLine; decide), fun q3 hq3 => ?_⟩
       have sA := (s3.trans s4).trans (Z02 (o := .tup [.ref p1, .int (ps.length : Nat)]) hq3)
       refine nx hi ⟨_, _, rfl, s2.trans sA, by rw [List.length_append]; show ys.length + 1 <= i + 1; omega, ?_⟩
       rw [htd]
       refine IsThs.app _ (IsThs.kp (Kp.of sA) hys) (.cons ?_ .nil)
       have hpl := IsThs.len _ hps
       show IsTh _ _ (.tup [.tup (Z6y (.at (.str w0) :: xs)), .at (.int ((Z1b (.at (.str w0) :: xs)).length : Nat))])
       rw [<- hpl]
       refine .tup Z01 (.cons (.tup (Z02 hq3 _ _ (s4 _ _ hp1)) (IsThs.kp (Kp.of sA) hw1)) (.cons (.at rfl) .nil))
      ·have hd : q.1 ≠ "node" := fun z => g (by rw [z]; decide +kernel)
       rw [if_neg hd, List.append_nil] at htd
       exact nx hi ⟨_, _, rfl, s2, by omega, by rw [htd]; exact hys⟩
   ·rintro ys σc H' ⟨o, o', rfl, s2, hyl, hys⟩ q hq
    rw [List.take_of_length_le (by omega)] at hys
    have sq := Z02 (o := .lst ys) hq
    exact k q ys _ ((s1.trans s2).trans sq) (Z2t (s1.trans s2) hq) Z01 (IsThs.kp (Kp.of sq) hys)
end
def nd (w : Str) (hd : List V) (ks : List Th) : Th := .tup (.at (.str w) :: (hd.map Th.at ++ ks))
def PfT : Nat -> Th -> Prop
 | 0, _ => False
 | n + 1, t => ∃ (w : Str) (hd : List V) (ks : List Th), t = nd w hd ks /\ hd.length <= 1 /\ (∀ v ∈ hd, plT (.at v) = true) /\ (w = "let" -> hd = [] /\ ks.length = 2) /\ (w = "hole" -> ∃ i : Nat, hd = [.int i] /\ ks = []) /\ ks.length <= 6 /\ ∀ k ∈ ks, PfT n k
theorem PfT.up : ∀ (n : Nat) {t : Th}, PfT n t -> PfT (n + 1) t := by
 intro n
 induction n with
 | zero => intro t h; exact h.elim
 | succ n ih =>
  intro t h
  obtain ⟨w, hd, ks, e, h1, h2, h3, h4, h5, h6⟩ := h
  exact ⟨w, hd, ks, e, h1, h2, h3, h4, h5, fun k hk => ih (h6 k hk)⟩
theorem PfT.le {n m : Nat} {t : Th} (h : PfT n t) (hm : n <= m) : PfT m t := by
 induction hm with
 | refl => exact h
 | step _ ih => exact PfT.up _ ih
theorem PfT.isTup {n : Nat} {t : Th} (h : PfT n t) : isTup t = true := by
 cases n with
 | zero => exact h.elim
 | succ n => obtain ⟨w, hd, ks, rfl, _⟩ := h; rfl
theorem Z72 (hd : List V) : (hd.map Th.at).filter L2.isTup = [] := by
 induction hd with
 | nil => rfl
 | cons v hd ih => rw [List.map_cons, List.filter_cons]; simpa [L2.isTup] using ih
theorem Za8 (hd : List V) : (hd.map Th.at).filter Z1w = hd.map Th.at := by
 induction hd with
 | nil => rfl
 | cons v hd ih => rw [List.map_cons, List.filter_cons, if_pos (by rfl), ih]
theorem Z4u : ∀ {ks : List Th}, (∀ k ∈ ks, L2.isTup k = true) -> ks.filter L2.isTup = ks := fun h => List.filter_eq_self.mpr h
theorem Z8a {ks : List Th} (h : ∀ k ∈ ks, L2.isTup k = true) : ks.filter Z1w = [] := by
 rw [List.filter_eq_nil_iff]
 intro k hk
 unfold Z1w
 rw [h k hk]
 decide
theorem Zht {w : Str} {hd : List V} {ks : List Th} (h : ∀ k ∈ ks, L2.isTup k = true) : Z1b (.at (.str w) :: (hd.map Th.at ++ ks)) = ks := by
 unfold Z1b
 rw [List.filter_cons, if_neg (by simp [L2.isTup]), List.filter_append, Z72, List.nil_append, Z4u h]
theorem Zhu {w : Str} {hd : List V} {ks : List Th} (h : ∀ k ∈ ks, L2.isTup k = true) : Z6y (.at (.str w) :: (hd.map Th.at ++ ks)) = .at (.str w) :: hd.map Th.at := by
 unfold Z6y
 rw [List.filter_cons, if_pos (by rfl), List.filter_append, Za8, Z8a h, List.append_nil]
theorem PfT.ok : ∀ (n : Nat) {t : Th}, PfT n t -> OkT n t := by
 intro n
 induction n with
 | zero => intro t h; exact h.elim
 | succ n ih =>
  intro t h
  obtain ⟨w, hd, ks, rfl, h1, h2, h3, h4, h5, h6⟩ := h
  refine ⟨w, hd.map Th.at ++ ks, rfl, fun e => ?_, fun x hx ht => ?_⟩
  ·obtain ⟨rfl, h⟩ := h3 e
   show ((([] : List V).map Th.at ++ ks).filter L2.isTup).length = 2
   rw [List.map_nil, List.nil_append, Z4u fun k hk => (h6 k hk).isTup]
   exact h
  ·rcases List.mem_append.mp hx with z | z
   ·obtain ⟨v, _, rfl⟩ := List.mem_map.mp z
    cases ht
   ·exact ih (h6 x z)
theorem Zfe : ∀ a b : List Th, Z5t (a ++ b) = (Z5t a && Z5t b) := by
 intro a
 induction a with
 | nil => intro b; rw [List.nil_append, Z5t, Bool.true_and]
 | cons x a ih => intro b; rw [List.cons_append, Z5t, Z5t, ih, Bool.and_assoc]
theorem Z2j : ∀ {a : List Th}, (∀ x ∈ a, plT x = true) -> Z5t a = true := by
 intro a
 induction a with
 | nil => intro _; rw [Z5t]
 | cons x a ih => intro h; rw [Z5t, h x (List.mem_cons_self ..), ih fun y hy => h y (List.mem_cons_of_mem _ hy)]; rfl
theorem PfT.pl : ∀ (n : Nat) {t : Th}, PfT n t -> plT t = true := by
 intro n
 induction n with
 | zero => intro t h; exact h.elim
 | succ n ih =>
  intro t h
  obtain ⟨w, hd, ks, rfl, h1, h2, h3, h4, h5, h6⟩ := h
  unfold nd
  rw [plT, Z5t, Zfe, Z2j (a := hd.map Th.at) fun x hx => ?_, Z2j (a := ks) fun x hx => ih (h6 x hx), plT]
  ·rfl
  ·obtain ⟨v, hv, rfl⟩ := List.mem_map.mp hx
   exact h2 v hv
theorem Zjj {n : Nat} : ∀ {a : List Th}, (∀ x ∈ a, dp x <= n) -> dps a <= n := by
 intro a
 induction a with
 | nil => intro _; rw [dps]; exact Nat.zero_le _
 | cons x a ih => intro h; rw [dps]; exact Nat.max_le.mpr ⟨h x (List.mem_cons_self ..), ih fun y hy => h y (List.mem_cons_of_mem _ hy)⟩
theorem PfT.dp : ∀ (n : Nat) {t : Th}, PfT n t -> L2.dp t <= n := by
 intro n
 induction n with
 | zero => intro t h; exact h.elim
 | succ n ih =>
  intro t h
  obtain ⟨w, hd, ks, rfl, h1, h2, h3, h4, h5, h6⟩ := h
  unfold nd
  rw [L2.dp, Nat.add_comm]
  refine Nat.succ_le_succ (Zjj fun x hx => ?_)
  rcases List.mem_cons.mp hx with rfl | hx
  ·rw [L2.dp]; exact Nat.zero_le _
  ·rcases List.mem_append.mp hx with z | z
   ·obtain ⟨v, _, rfl⟩ := List.mem_map.mp z
    rw [L2.dp]; exact Nat.zero_le _
   ·exact ih (h6 x z)
theorem Z97 (l : Bool) (me : Th) : ∀ (xs : List Th) (i : Nat), Z0w (Z20 l me i xs) = ((Z1b xs).map fun k => Z0w (Z0u k)).flatten := by
 intro xs
 induction xs with
 | nil => intro i; simp [Z20, Z1b, Z0w]
 | cons x xs ih =>
  intro i
  rw [Z20]
  unfold Z1b at ih ⊢
  rw [List.filter_cons]
  split
  ·have h3 := Zb1 l me i
   have h2 := ih (i + 1)
   unfold Z0w at *
   rw [List.filter_append, List.filter_append, h3, List.nil_append, List.map_cons, List.flatten_cons, h2]
  ·exact ih i
theorem Zdd (xs : List Th) : Z2i (.tup xs) = Zhs (.tup xs) :: ((Z1b xs).map Z2i).flatten := by
 unfold Z2i
 rw [Z0u]
 have h := Z97 (Z3p xs) (.tup xs) xs 0
 unfold Z0w at h ⊢
 rw [List.filter_cons, if_pos (by simp), List.map_cons, h, List.map_flatten, List.map_map]
 rfl
def Z8b : Th -> Option Nat
 | .tup [.at (.str w), .at (.int i)] => if w = "hole" then some i.toNat else none
 | _ => none
mutual
def fl (σ : Nat -> Th) : Th -> Th
 | .tup xs => match Z8b (.tup xs) with
  | some i => σ i
  | none => .tup (fls σ xs)
 | .at v => .at v
 | .lst xs => .lst xs
def fls (σ : Nat -> Th) : List Th -> List Th
 | [] => []
 | x :: xs => fl σ x :: fls σ xs
end
mutual
def hs : Th -> List Nat
 | .tup xs => match Z8b (.tup xs) with
  | some i => [i]
  | none => hss xs
 | .at _ => []
 | .lst _ => []
def hss : List Th -> List Nat
 | [] => []
 | x :: xs => hs x ++ hss xs
end
theorem Zhv (σ : Nat -> Th) : ∀ xs : List Th, fls σ xs = xs.map (fl σ) := by
 intro xs
 induction xs with
 | nil => rw [fls]; rfl
 | cons x xs ih => rw [fls, ih]; rfl
theorem Zhw {i : Nat} : ∀ {xs : List Th}, i ∈ hss xs ↔ ∃ x ∈ xs, i ∈ hs x := by
 intro xs
 induction xs with
 | nil => rw [hss]; simp
 | cons x xs ih => rw [hss, List.mem_append, ih]; simp
theorem Zde {i : Nat} : Z8b (nd "hole" [.int (i : Nat)] []) = some i := by
 show (if ("hole" : Str) = "hole" then some ((i : Nat) : Int).toNat else none) = some i
 rw [if_pos rfl]; simp
theorem Za9 {w : Str} {hd : List V} {ks : List Th} (h : w ≠ "hole") : Z8b (nd w hd ks) = none := by
 unfold nd Z8b
 split
 ·next w' i e =>
  injection e with e
  injection e with e1 e2
  injection e1 with e1
  injection e1 with e1
  rw [if_neg (by rw [<- e1]; exact h)]
 ·rfl
theorem Z1u {σ : Nat -> Th} {i : Nat} : fl σ (nd "hole" [.int (i : Nat)] []) = σ i := by
 have h := Zde (i := i)
 unfold nd at h ⊢
 rw [fl, h]
theorem Z1o {i : Nat} : hs (nd "hole" [.int (i : Nat)] []) = [i] := by
 have h := Zde (i := i)
 unfold nd at h ⊢
 rw [hs, h]
theorem Zjk (σ : Nat -> Th) (hd : List V) : (hd.map Th.at).map (fl σ) = hd.map Th.at := by
 rw [List.map_map]
 refine List.map_congr_left fun v _ => ?_
 show fl σ (.at v) = .at v
 rw [fl]
theorem Z5f {σ : Nat -> Th} {w : Str} {hd : List V} {ks : List Th} (h : w ≠ "hole") : fl σ (nd w hd ks) = nd w hd (ks.map (fl σ)) := by
 have h' := Za9 (hd := hd) (ks := ks) h
 unfold nd at h' ⊢
 rw [fl, h']
 dsimp only
 rw [Zhv, List.map_cons, List.map_append, Zjk, fl]
theorem Z2k {w : Str} {hd : List V} {ks : List Th} {i : Nat} (h : w ≠ "hole") : i ∈ hs (nd w hd ks) ↔ ∃ k ∈ ks, i ∈ hs k := by
 have h' := Za9 (hd := hd) (ks := ks) h
 unfold nd at h' ⊢
 rw [hs, h']
 dsimp only
 rw [Zhw]
 constructor
 ·rintro ⟨x, hx, hi⟩
  rcases List.mem_cons.mp hx with rfl | hx
  ·rw [hs] at hi; simp at hi
  ·rcases List.mem_append.mp hx with z | z
   ·obtain ⟨v, _, rfl⟩ := List.mem_map.mp z
    rw [hs] at hi; simp at hi
   ·exact ⟨x, z, hi⟩
 ·rintro ⟨k, hk, hi⟩
  exact ⟨k, List.mem_cons_of_mem _ (List.mem_append_right _ hk), hi⟩
def Tps (σ : Nat -> Th) : Prop := ∀ i, L2.isTup (σ i) = true
theorem Zjl {σ : Nat -> Th} (hσ : Tps σ) {n : Nat} {t : Th} (h : PfT n t) : L2.isTup (fl σ t) = true := by
 cases n with
 | zero => exact h.elim
 | succ n =>
  obtain ⟨w, hd, ks, rfl, h1, h2, h3, h4, h5, h6⟩ := h
  by_cases e : w = "hole"
  ·subst e
   obtain ⟨i, rfl, rfl⟩ := h4 rfl
   rw [Z1u]
   exact hσ i
  ·rw [Z5f e]
   rfl
theorem Zjm {H : Hp} {a : Addr} {kvs kvs' : List (Key × V)} (h : H a = some (.dK kvs)) : Kp H (upd H a (.dK kvs')) := fun c o e n => by
 rw [Z0c (fun z => by rw [z, h] at e; cases e; exact n _ rfl)]
 exact e
theorem Z8c {ks : List Nat} {ns : List Int} {m : Nat} (nd : ks.Nodup) (hm : ∀ i, i ∈ ks ↔ i < m) (hp : ns.Perm (ks.map fun (i : Nat) => (i : Int))) (hs : ns.Pairwise (· <= ·)) : ns = (List.range m).map fun (i : Nat) => (i : Int) := by
 have p1 : ks.Perm (List.range m) := (List.perm_ext_iff_of_nodup nd List.nodup_range).mpr fun i => by rw [hm, List.mem_range]
 have p2 : ns.Perm ((List.range m).map fun (i : Nat) => (i : Int)) := hp.trans (p1.map _)
 refine p2.eq_of_pairwise (le := (· <= ·)) (fun a b _ _ h1 h2 => Int.le_antisymm h1 h2) hs ?_
 rw [List.pairwise_map]
 exact List.pairwise_lt_range.imp fun h => by omega
theorem Zjn {n : Nat} {t : Th} (h : PfT n t) : 1 <= cnt t := by
 cases n with
 | zero => exact h.elim
 | succ n =>
  obtain ⟨w, hd, ks, rfl, _⟩ := h
  unfold nd
  rw [cnt]
  omega
def Z16 (l : Addr) (n : Nat) (z : Int) : List (Key × V) := [(Sum.inr "cells", .ref l), (Sum.inr "at", .int n), (Sum.inr "left", .int z)]
structure Feed (H : Hp) (d l : Addr) (ns : List Int) (n : Nat) : Prop where
 dc : ∃ z, H d = some (.dK (Z16 l n z))
 ls : H l = some (.lst (ns.map V.int))
 sz : ns.length <= 63
def But (d : Addr) (H H' : Hp) : Prop := ∀ b o, H b = some o -> b ≠ d -> H' b = some o
theorem But.refl (d : Addr) (H : Hp) : But d H H := fun _ _ e _ => e
theorem But.trans {d : Addr} {H H1 H2 : Hp} (a : But d H H1) (b : But d H1 H2) : But d H H2 := fun c o e n => b c o (a c o e n) n
theorem But.of {d : Addr} {H H1 : Hp} (a : Same H H1) : But d H H1 := fun c o e _ => a c o e
theorem Zff (l : Addr) (n : Nat) (z : Int) : Z6o (Z16 l n z) (Sum.inr "cells") = some (.ref l) := by with_unfolding_all rfl
theorem Zkx (l : Addr) (n : Nat) (z : Int) : Z6o (Z16 l n z) (Sum.inr "at") = some (.int n) := by with_unfolding_all rfl
theorem Zhx (l : Addr) (n : Nat) (z : Int) : Z6o (Z16 l n z) (Sum.inr "left") = some (.int z) := by with_unfolding_all rfl
theorem Zjo (l : Addr) (n : Nat) (z : Int) : Z6p (Z16 l n z) (Sum.inr "at") (.int ((n : Int) + 1)) = Z16 l (n + 1) z := by with_unfolding_all rfl
theorem Zfg (l : Addr) (n : Nat) (z y : Int) : Z6p (Z16 l n z) (Sum.inr "left") (.int y) = Z16 l n y := by with_unfolding_all rfl
theorem Z5g {H : Hp} {d l : Addr} {n : Nat} {z : Int} (h : H d = some (.dK (Z16 l n z))) : DGet H d (.str "cells") (some (.ref l)) := by
 have := DGet.k (k := Sum.inr "cells") h; rw [Zff] at this; exact this
theorem Zjp {H : Hp} {d l : Addr} {n : Nat} {z : Int} (h : H d = some (.dK (Z16 l n z))) : DGet H d (.str "at") (some (.int n)) := by
 have := DGet.k (k := Sum.inr "at") h; rw [Zkx] at this; exact this
theorem Z73 {H : Hp} {d l : Addr} {n : Nat} {z : Int} (h : H d = some (.dK (Z16 l n z))) : DGet H d (.str "left") (some (.int z)) := by
 have := DGet.k (k := Sum.inr "left") h; rw [Zhx] at this; exact this
theorem Zjq {H : Hp} {d l : Addr} {n : Nat} {z : Int} (h : H d = some (.dK (Z16 l n z))) : DPut H d (.str "at") (.int ((n : Int) + 1)) (upd H d (.dK (Z16 l (n + 1) z))) := by
 have := DPut.k (k := Sum.inr "at") (v := .int ((n : Int) + 1)) h (by show 3 < sizeLine; decide); rw [Zjo] at this; exact this
theorem Zaa {H : Hp} {d l : Addr} {n : Nat} {z y : Int} (h : H d = some (.dK (Z16 l n z))) : DPut H d (.str "left") (.int y) (upd H d (.dK (Z16 l n y))) := by
 have := DPut.k (k := Sum.inr "left") (v := .int y) h (by show 3 < sizeLine; decide); rw [Zfg] at this; exact this
theorem Feed.ne {H : Hp} {d l : Addr} {ns : List Int} {n : Nat} (F : Feed H d l ns n) : l ≠ d := by
 obtain ⟨⟨z, h⟩, g, _⟩ := F
 exact Z44 g h (by intro q; cases q)
theorem Feed.but {H H' : Hp} {d l : Addr} {ns : List Int} {n m : Nat} {z : Int} (F : Feed H d l ns n) (b : But d H H') (h : H' d = some (.dK (Z16 l m z))) : Feed H' d l ns m := ⟨⟨z, h⟩, b l _ F.ls F.ne, F.sz⟩
theorem But.upd {d : Addr} {H : Hp} {o : HO} : But d H (upd H d o) := fun c u e n => by rw [Z0c n]; exact e
def Zgl (K : PySem.W.Frag) : Sp := fun vs H Q _ => ∃ (a : Addr) (ns : List Int), vs = [.ref a] /\ SqL K H a (ns.map V.int) /\ ns.length <= 63 /\ ∀ d l H', Feed H' d l ns 0 -> H d = none -> Same H H' -> Q (.ref d) H'
def spDraw : Sp := fun vs H Q _ => ∃ (d l : Addr) (ns : List Int) (n : Nat) (m : Int), vs = [.ref d, .int m] /\ Feed H d l ns n /\ n <= 1000000000000 /\ 0 < m /\ m < 18446744073709551616 ∧
 ∀ r n' H', 0 <= r -> r < m -> n' <= n + 1 -> Feed H' d l ns n' -> But d H H' -> Q (.int r) H'
theorem Zky {ns : List Int} (h : ns.length <= 63) : Z5r (ns.map V.int) none (some 63) = ns.map V.int := by
 have e1 : HT.sIx (ns.map V.int).length 0 none = 0 := rfl
 have e2 : HT.sIx (ns.map V.int).length (ns.map V.int).length (some 63) = min 63 (ns.map V.int).length := rfl
 unfold Z5r
 rw [e1, e2, List.drop_zero, List.take_of_length_le]
 rw [List.length_map]; omega
theorem Zlh (x : Int) : -(2 ^ 64) < x % 2147483629 := by omega
theorem Zli (x : Int) : x % 2147483629 < 2 ^ 64 := by omega
theorem Zdf (ns : List Int) : (ns.map V.int).all Z3k = true := by
 rw [List.all_map]; exact List.all_eq_true.mpr fun _ _ => rfl
theorem Feed.same {H H' : Hp} {d l : Addr} {ns : List Int} {n : Nat} (F : Feed H d l ns n) (s : Same H H') : Feed H' d l ns n := let ⟨⟨z, h⟩, g, q⟩ := F; ⟨⟨z, s _ _ h⟩, s _ _ g, q⟩
theorem Z5h {xs : List V} (h : xs.length <= 1000) : xs.length <= sizeLine := Nat.le_trans h (by decide)
structure Txt0 (mg : Str -> Option Value) : Prop where
 len : mg "len" = none
 list : mg "list" = none
 range : mg "range" = none
section
variable {P : Program} {w : World} {K : PySem.W.Frag} {mg : Str -> Option Value} {base : Heap}
theorem Zjr : FnScope ["_law_script"] ["_law_script"] (Z03 Zd4) := ⟨rfl, rfl, rfl, by decide +kernel, rfl, by decide +kernel, by decide +kernel⟩
theorem Zhy {f : Addr} {fd : FuncData} (F : Fun K "_law_feed" "_law_feed" Zd4 f fd) (T : Txt0 mg) : FnOk P w K mg base CX0 1 f fd ["_law_script"] (Zgl K) := by
 refine F.ok Zjr (fun vs H Q E h => ?_) (fun cdv A outer s H vs Q E hr h => ?_)
 ·obtain ⟨a, ns, rfl, _⟩ := h
  rfl
 ·obtain ⟨a, ns, rfl, hS, hl, k⟩ := h
  refine ⟨_, Z07 (Z0m (Zck (Z24 Z0a (Z19 Z4o (by rfl) T.list (by rfl) (Z0d (Z22 Z8u (pv 0) Z2p (Z2g Z04)) Z00)) (Z24 Z0a Z04 (Z24 Z0a Z04 Zcj))) rfl rfl (by intro z; cases z) (by decide))), ?_⟩
  intro d hd
  refine ⟨_, rfl, _, rfl, a, _, rfl, (Z02 hd).seq hS, fun p hp => ?_⟩
  refine ⟨p, _, rfl, .inl (SqL.of Z01), fun l hl' => ?_⟩
  have hdl : d ≠ l := Z0h (H := upd (upd H d (.dK [])) p (.lst (Z5r (ns.map V.int) none (some 63)))) (by rw [Z0c (Z0h Z01 hp)]; exact Z01) hl'
  have hpd : p ≠ d := fun z => by rw [z, Z01] at hp; cases hp
  refine ⟨by rw [Z0c hdl, Z0c hpd.symm]; exact Z01, Z16 l 0 0, rfl, by show 3 <= 15; decide, ?_⟩
  have em : Z51 [] (Z16 l 0 0) = Z16 l 0 0 := by with_unfolding_all rfl
  rw [em]
  refine k d l _ ⟨⟨0, Z01⟩, ?_, hl⟩ hd ?_
  ·rw [Z0c hdl.symm, Z01, Zky hl]
  ·intro b o e
   have hb : (upd H d (.dK [])) b = some o := Z02 hd b o e
   have hb2 := Z02 (o := .lst (Z5r (ns.map V.int) none (some 63))) hp b o hb
   rw [Z0c (Z0h e hd)]
   exact Z02 hl' b o hb2
theorem scDraw : FnScope ["_law_feed_here", "_law_many", "_law_found", "_law_at", "_law_cell", "_law_number"] ["_law_feed_here", "_law_many"] (Z03 Zd5) := ⟨rfl, rfl, rfl, by decide +kernel, rfl, by decide +kernel, by decide +kernel⟩
theorem Z5i {f : Addr} {fd : FuncData} (F : Fun K "_law_draw" "_law_draw" Zd5 f fd) (T : Txt0 mg) : FnOk P w K mg base CX0 1 f fd ["_law_feed_here", "_law_many"] spDraw := by
 refine F.ok scDraw (fun vs H Q E h => ?_) (fun cdv A outer s H vs Q E hr h => ?_)
 ·obtain ⟨d, l, ns, n, m, rfl, _⟩ := h
  rfl
 ·obtain ⟨d, l, ns, n, m, rfl, FD, hn, hm0, hm1, k⟩ := h
  have hu := Zkq hr
  have hu0 := hr.units0
  obtain ⟨⟨z, hd⟩, hls, hsz⟩ := id FD
  refine ⟨_, Z05 (Z10 (Z0f Zc5 (Z0y hu (pv 0) Z0a (fun _ _ => rfl)) Z04 (Z0o _))
    (Z05 (Z0j (i := 2) scDraw.nd rfl (Or.inl rfl) (Z0p Z29 (Z0y hu (pv 0) Z0a (fun _ _ => rfl)) (pv 1))) <|
     Z05 (Z45 hu (pv 0) Z0a (Z0p Z4t (Z0y hu (pv 0) Z0a (fun _ _ => rfl)) (pv 1)) rfl) <|
     Z07 (Z0m (pv 2))) Z0k) <|
   Z05 (Z0j (i := 3) scDraw.nd rfl (Or.inl rfl) (Z0y hu (pv 0) Z0a (fun _ _ => rfl))) <|
   Z05 (Z45 hu (pv 0) Z0a (Z0p Z1m (pv 3) Z04) rfl) <|
   Z05 (Z0j (i := 4) scDraw.nd rfl (Or.inl rfl) (Z0p Z1m (Z0p Z37 (pv 3) (pv 3)) Z04)) <|
   Z0r (Z10 (Z0f (Z4b hu0) (Z0y hu (pv 0) Z0a (fun _ _ => rfl)) (Z18 Z00) (Z0o _))
    (Z07 (Z0j (i := 4) scDraw.nd rfl (Or.inl rfl) (Z15 Z1a (Z0y hu (pv 0) Z0a (fun _ _ => rfl)) (Z0p Z29 (pv 3) (Z0b Z0l (by rfl) T.len PySem.boot_len (Z0d (Z0y hu (pv 0) Z0a (fun _ _ => rfl)) Z00))) (fun _ _ => rfl)))) Z0k) <|
   Z05 (Z10 (Z0f Zkf (pv 4) (Z0p Zj0 Z04 Z04) (Z0o _))
    (Z05 (Z45 hu (pv 0) Z0a (Z0p Z4t (pv 4) (pv 1)) rfl) <| Z07 (Z0m (Z0p Z29 (pv 4) (pv 1)))) Z0k) <|
   Z05 (Z0j (i := 5) scDraw.nd rfl (Or.inl rfl) (Z0p Z29 (Z0p Z37 (Z0p Z1m (Z0p Z1m (Z0p Z29 (pv 4) Z04) (Z0p Z37 Z04 (pv 3))) Z04) Z04) Z04)) <|
   Z05 (Z0j (i := 5) scDraw.nd rfl (Or.inl rfl) (Z0p Z29 (Z0p Z1m (Z0p Z1m (Z0p Z37 (pv 5) (pv 5)) (Z0p Z37 Z04 (pv 3))) Z04) Z04)) <|
   Z05 (Z0j (i := 5) scDraw.nd rfl (Or.inl rfl) (Z0p Z29 (Z0p Z1m (Z0p Z37 (pv 5) Z04) (pv 3)) Z04)) <|
   Z07 (Z0m (Z0p Z29 (Z0p Z4t (Z0p Z29 (Z0p Z37 (pv 5) (pv 5)) Z04) Z04) (pv 1))), ?_⟩
  refine ⟨_, rfl, d, .int z, rfl, Z73 hd, _, _, rfl, rfl, _, rfl, ?_⟩
  refine Z1r (fun hz => ?_) (fun hz => ?_)
  ·refine ⟨_, rfl, d, .int z, rfl, Z73 hd, _, rfl, _, _, rfl, rfl, hm0, ?_⟩
   refine ⟨_, rfl, d, .int z, rfl, Z73 hd, _, rfl, _, _, rfl, rfl, ⟨hm0, hm1⟩, _, rfl, d, _, rfl, Zaa hd, _, rfl, ?_⟩
   exact k _ n _ (Int.emod_nonneg _ (by omega)) (Int.emod_lt_of_pos _ hm0) (Nat.le_succ _) (FD.but But.upd Z01) But.upd
  ·refine ⟨_, rfl, d, .int n, rfl, Zjp hd, ?_⟩
   refine ⟨_, rfl, _, _, rfl, rfl, _, rfl, d, _, rfl, Zjq hd, ?_⟩
   have hd1 : upd H d (.dK (Z16 l (n + 1) z)) d = some (.dK (Z16 l (n + 1) z)) := Z01
   have F1 : Feed (upd H d (.dK (Z16 l (n + 1) z))) d l ns (n + 1) := FD.but But.upd Z01
   have B1 : But d H (upd H d (.dK (Z16 l (n + 1) z))) := But.upd
   generalize upd H d (.dK (Z16 l (n + 1) z)) = H1 at hd1 F1 B1 ⊢
   have hls1 := F1.ls
   refine ⟨_, rfl, _, rfl, _, _, rfl, rfl, .inl ⟨by omega, by omega⟩, _, _, rfl, rfl, ?_⟩
   refine ⟨fun σ' H' => ∃ c o, σ' = [some (.ref d), some (.int m), o, some (.int n), some (.int c), none] /\ Feed H' d l ns (n + 1) /\ But d H H', ?_, ?_⟩
   ·refine ⟨_, rfl, d, .ref l, rfl, Z5g hd1, Nat.zero_le _, fun e he => ⟨l, e, ns.map V.int, [], rfl, rfl, SqL.of (Z02 he _ _ hls1), SqL.of Z01, Zdf ns, rfl, _, rfl, ?_⟩⟩
    have F2 := F1.same (Z02 (o := .lst []) he)
    have B2 : But d H (upd H1 e (.lst [])) := B1.trans (But.of (Z02 he))
    obtain ⟨⟨z2, hd2⟩, hls2, _⟩ := id F2
    refine Z1r (fun hne => ?_) (fun hne => ?_)
    ·have hpos : 0 < (ns.map V.int).length := by
      cases ns with
      | nil => exact absurd hne (by decide)
      | cons _ _ => exact Nat.succ_pos _
     obtain ⟨v, hv, hat⟩ := Zja hpos (n : Int)
     obtain ⟨c, _, rfl⟩ := List.mem_map.mp hv
     refine ⟨_, rfl, d, .ref l, rfl, Z5g hd2, _, rfl, _, rfl, d, .ref l, rfl, Z5g hd2, l, ns.map V.int, rfl, .inl (SqL.of hls2), _, _, rfl, rfl, (by show (0 : Int) < ((ns.map V.int).length : Int); omega), l, ns.map V.int, _, .int c, rfl, rfl, SqL.of hls2, hat, ?_⟩
     exact ⟨c, none, rfl, F2, B2⟩
    ·exact ⟨_, none, rfl, F2, B2⟩
   ·rintro σ' H2 ⟨c, o, rfl, F2, B2⟩
    obtain ⟨⟨z2, hd2⟩, hls2, _⟩ := id F2
    refine ⟨_, rfl, _, _, rfl, rfl, ⟨by decide, by decide, by decide⟩, _, _, rfl, rfl, _, rfl, ?_⟩
    refine Z1r (fun hge => ?_) (fun hge => ?_)
    ·refine ⟨_, rfl, _, rfl, _, _, rfl, rfl, ⟨hm0, hm1⟩, _, rfl, d, _, rfl, Zaa hd2, _, rfl, _, rfl, _, _, rfl, rfl, hm0, ?_⟩
     exact k _ (n + 1) _ (Int.emod_nonneg _ (by omega)) (Int.emod_lt_of_pos _ hm0) (Nat.le_refl _) (F2.but But.upd Z01) (B2.trans But.upd)
    ·refine ⟨_, rfl, _, _, rfl, rfl, (by show (0 : Int) < 2147483647; decide), _, rfl, _, _, rfl, rfl, .inl ⟨by decide, by decide⟩, _, _, rfl, rfl, _, _, rfl, rfl, _, _, rfl, rfl, .inr ⟨by decide, by decide⟩, _, _, rfl, rfl, (by show (0 : Int) < 2147483629; decide), ?_⟩
     refine ⟨_, rfl, _, rfl, _, _, rfl, rfl, .inl ⟨Zlh _, Zli _⟩, _, rfl, _, _, rfl, rfl, .inl ⟨by decide, by decide⟩, _, _, rfl, rfl, _, _, rfl, rfl, _, _, rfl, rfl, (by show (0 : Int) < 2147483647; decide), ?_⟩
     refine ⟨_, rfl, _, _, rfl, rfl, .inr ⟨by decide, by decide⟩, _, rfl, _, _, rfl, rfl, _, _, rfl, rfl, (by show (0 : Int) < 2147483629; decide), ?_⟩
     refine ⟨_, rfl, _, rfl, _, _, rfl, rfl, .inl ⟨Zlh _, Zli _⟩, _, _, rfl, rfl, (by show (0 : Int) < 2147483587; decide), _, _, rfl, rfl, ⟨by decide, by decide⟩, _, rfl, _, _, rfl, rfl, hm0, ?_⟩
     exact k _ (n + 1) _ (Int.emod_nonneg _ (by omega)) (Int.emod_lt_of_pos _ hm0) (Nat.le_refl _) F2 B2
def Low (t : Str) : Prop := ∀ c ∈ t.cps.toList, 97 <= c /\ c <= 122
theorem Zhz : Low "" := by
 have e : ("" : Str).cps.toList = [] := by decide +kernel
 intro c hc
 rw [e] at hc
 cases hc
theorem Z5j {x y : Str} (a : Low x) (b : Low y) : Low (x ++ y) := by
 intro c hc
 have e : (x ++ y).cps.toList = x.cps.toList ++ y.cps.toList := by
  show (x.cps ++ y.cps).toList = _
  rw [Array.toList_append]
 rw [e] at hc
 rcases List.mem_append.mp hc with z | z
 ·exact a c z
 ·exact b c z
theorem Z98 {c : Nat} (h : 97 <= c /\ c <= 122) : Low ⟨#[c]⟩ := by
 intro d hd
 have : d = c := by simpa using hd
 subst this
 exact h
def Zdg (t : Str) (x m : Int) : Prop := ((t.length : Int) = m /\ Low t) /\ (0 < m -> t.cps.toList[0]? = some (97 + (x % 26).toNat))
def spSpelled : Sp := fun vs H Q _ => ∃ (x m : Int), vs = [.int x, .int m] /\ 0 <= m /\ m <= 10 /\ ∀ t : Str, Zdg t x m -> Q (.str t) H
abbrev abc : Str := "abcdefghijklmnopqrstuvwxyz"
theorem Zjs : ∀ k : Fin 26, abc.cps.toList[k.val]? = some (97 + k.val) := by decide +kernel
theorem Zjt (y : Int) : atI abc.cps.toList (y % 26) = some (97 + (y % 26).toNat) := by
 have h0 : 0 <= y % 26 := by omega
 have h1 : y % 26 < 26 := by omega
 have e : y % 26 = ((y % 26).toNat : Int) := by omega
 have h := Z2h (Zjs ⟨(y % 26).toNat, by omega⟩)
 rw [<- e] at h
 exact h
theorem scSpelled : FnScope ["_law_number", "_law_long", "_law_word", "_law_k"] ["_law_number", "_law_long"] (Z03 Z3v) := ⟨rfl, rfl, rfl, by decide +kernel, rfl, by decide +kernel, by decide +kernel⟩
theorem Zbc {f : Addr} {fd : FuncData} (F : Fun K "_law_spelled" "_law_spelled" Z3v f fd) (T : Txt0 mg) : FnOk P w K mg base CX0 1 f fd ["_law_number", "_law_long"] spSpelled := by
 refine F.ok scSpelled (fun vs H Q E h => ?_) (fun cdv A outer s H vs Q E hr h => ?_)
 ·obtain ⟨x, m, rfl, _⟩ := h
  rfl
 ·obtain ⟨x, m, rfl, h0, h1, k⟩ := h
  refine ⟨_, Z05 (Z0j (i := 2) scSpelled.nd rfl (Or.inl rfl) Z0a) <|
   Z05 (Z60 PassesOwn.never rfl (Z28 rfl T.range (Z0d (pv 1) Z00)) (Z0x (i := 3) scSpelled.nd rfl (Or.inl rfl))
    (Z05 (Z0j (i := 2) scSpelled.nd rfl (Or.inl rfl) (Z0p Z2a (pv 2) (Z15 Z9m Z0a (Z0p Z29 (pv 0) Z04) (fun _ _ => rfl)))) <|
     Z07 (Z0j (i := 0) scSpelled.nd rfl (Or.inl rfl) (Z0p Z4t (pv 0) Z04)))) <|
   Z07 (Z0m (pv 2)), ?_⟩
  refine ⟨_, rfl, m, rfl, by omega, by omega, Z3j (n := m.toNat) (fun i σ H' => ∃ y t o, σ = [some (.int y), some (.int m), some (.str t), o] /\ t.length = i /\ Low t /\ (i = 0 -> y = x) /\ (0 < i -> t.cps.toList[0]? = some (97 + (x % 26).toNat)) /\ H' = H) ⟨x, _, none, rfl, rfl, Zhz, fun _ => rfl, fun z => absurd z (Nat.lt_irrefl _), rfl⟩ ?_ ?_⟩
  ·rintro i σ H' hi ⟨y, t, o, rfl, ht, hlow, hy, hf, rfl⟩
   have hat := Zjt y
   refine ⟨_, rfl, _, rfl, _, _, rfl, rfl, (by show (0 : Int) < 26; decide), abc, _, _, rfl, rfl, (by decide +kernel), hat, _, _, rfl, rfl, ?_, _, rfl, _, _, rfl, rfl, ⟨by decide, by decide⟩, ?_⟩
   ·show t.length + 1 <= sizeLine
    have : sizeLine = 16777216 := sizeLine_eq
    omega
   ·refine ⟨_, _, _, rfl, by rw [PySem.Str.length_append, ht]; rfl, Z5j hlow (Z98 (by omega)), fun z => absurd z (Nat.succ_ne_zero _), fun _ => ?_, rfl⟩
    show (t.cps ++ #[97 + (y % 26).toNat]).toList[0]? = _
    by_cases hz : i = 0
    ·have h2 : t.cps.toList = [] := by
      apply List.eq_nil_of_length_eq_zero
      rw [Array.length_toList]
      show t.length = 0
      omega
     rw [Array.toList_append, h2, hy hz]
     rfl
    ·have h2 := hf (by omega)
     rw [Array.toList_append, List.getElem?_append_left (by rw [Array.length_toList]; show 0 < t.length; omega)]
     exact h2
  ·rintro σ H' ⟨y, t, o, rfl, ht, hlow, _, hf, rfl⟩
   exact ⟨_, rfl, k t ⟨⟨by omega, hlow⟩, fun z => hf (by omega)⟩⟩
end
instance (t : Str) : Decidable (Low t) := by unfold Low; exact inferInstance
theorem Z3y (ts : List Str) : (ts.map V.str).all Z3k = true := by
 rw [List.all_map]
 exact List.all_eq_true.mpr fun _ _ => rfl
theorem Z5k {x : Str} {lo hi : Option Int} (h : Low x) : Low (Txt.slice x lo hi) := by
 unfold Txt.slice
 split
 ·exact h
 ·intro c hc
  have hc' := hc
  simp only [List.mem_filterMap] at hc'
  obtain ⟨i, _, e⟩ := hc'
  refine h c ?_
  rw [Array.mem_toList_iff]
  exact Array.mem_of_getElem? e
def words8 : List Str := ["num", "name", "op", "pick", "let", "set", "say", "take"]
def words5 : List Str := ["do", "again", "call", "own", "hole"]
def words13 : List Str := words8 ++ words5
theorem Zbd : ∀ t ∈ words13, (1 <= t.length /\ t.length <= 5) /\ Low t := by decide +kernel
theorem Z4v (t : Str) (ts : List Str) : inV (.str t) (ts.map V.str) = true ↔ t ∈ ts := by
 unfold inV
 rw [List.any_map, List.any_eq_true]
 constructor
 ·rintro ⟨y, hy, e⟩
  have e' : (y == t) = true := e
  rw [<- beq_iff_eq.mp e']
  exact hy
 ·intro h
  exact ⟨t, h, beq_self_eq_true t⟩
theorem But.lst {d a : Addr} {H H' : Hp} {kvs : List (Key × V)} {xs : List V} (b : But d H H') (hd : H d = some (.dK kvs)) (h : H a = some (.lst xs)) : H' a = some (.lst xs) := b a _ h (Z44 h hd (by intro q; cases q))
theorem Z4j (x y : Str) : (x ++ y).length = x.length + y.length := PySem.Str.length_append x y
theorem Z4k {x : Str} (h : x.length <= 1000) : x.length <= sizeLine := Nat.le_trans h (by decide)
abbrev Nm (t : Str) : Prop := (1 <= t.length /\ t.length <= 8) /\ Low t
def spLawName : Sp := fun vs H Q _ => ∃ (d l a : Addr) (ns : List Int) (n : Nat) (ts : List Str), vs = [.ref d, .ref a] /\ Feed H d l ns n /\ n <= 900000000000 /\ H a = some (.lst (ts.map V.str)) /\ ts.length <= 40 /\ (∀ t ∈ ts, Nm t) ∧
 ∀ (t : Str) n' H', Nm t -> t ∉ ts -> t ∉ words13 -> n' <= n + 8 -> Feed H' d l ns n' -> But d H H' -> Q (.str t) H'
theorem Zab {t : Str} (h : 1 <= t.length) : ∃ c, atI t.cps.toList 0 = some c := by
 have hl : t.cps.toList.length = t.length := by simp [Str.length]
 obtain ⟨c, _, e⟩ := Z3c (xs := t.cps.toList) (i := 0) (by decide) (by rw [hl]; omega)
 exact ⟨c, e⟩
theorem Zgm {t : Str} {i : Int} {c : Nat} (h : Low t) (e : atI t.cps.toList i = some c) : 97 <= c /\ c <= 122 := by
 obtain ⟨j, _, e2, _⟩ := Z6m e
 exact h c (List.mem_of_getElem? e2)
def mi (m : Int) (i : Nat) : Int := (m - 1 + i) % 8 + 1
def Z4r (x m : Int) (u : Str) (j : Nat) : Prop := (u.length : Int) = mi m j /\ u.cps.toList[0]? = some (97 + ((x + j) % 26).toNat)
instance (x m : Int) (u : Str) (j : Nat) : Decidable (Z4r x m u j) := by unfold Z4r; exact inferInstance
theorem Zdh {x m : Int} {u : Str} {i j : Nat} (hi : i <= 60) (hj : j < i) (a : Z4r x m u i) (b : Z4r x m u j) : False := by
 obtain ⟨a1, a2⟩ := a
 obtain ⟨b1, b2⟩ := b
 unfold mi at a1 b1
 rw [a2] at b2
 have b3 := Option.some.inj b2
 have h1 : 0 <= (x + i) % 26 := by omega
 have h2 : 0 <= (x + j) % 26 := by omega
 omega
structure Left (x m : Int) (ex R : List Str) (i : Nat) : Prop where
 few : R.length + i <= 54
 all : ∀ u ∈ ex, u ∈ R ∨ ∃ j, j < i /\ Z4r x m u j
theorem Left.zero {x m : Int} {ex : List Str} (h : ex.length <= 53) : Left x m ex ex 0 := ⟨by omega, fun u hu => .inl hu⟩
theorem Left.one {x m : Int} {ex R : List Str} (h : ex.length <= 53) : Left x m ex ex 1 := ⟨by omega, fun u hu => .inl hu⟩
theorem Left.next {x m : Int} {ex R : List Str} {i : Nat} {t : Str} (h : Left x m ex R i) (ht : t ∈ ex) (k : Z4r x m t i) : Left x m ex (R.filter fun u => !decide (Z4r x m u i)) (i + 1) := by
 have hR : t ∈ R := by
  rcases h.all t ht with z | ⟨j, hj, kj⟩
  ·exact z
  ·exact (Zdh (by have := h.few; omega) hj k kj).elim
 have hlt : (R.filter fun u => !decide (Z4r x m u i)).length < R.length := by
  rw [List.length_filter_lt_length_iff_exists]
  exact ⟨t, hR, by simp [k]⟩
 refine ⟨by have := h.few; omega, fun u hu => ?_⟩
 rcases h.all u hu with z | ⟨j, hj, kj⟩
 ·by_cases q : Z4r x m u i
  ·exact .inr ⟨i, Nat.lt_succ_self _, q⟩
  ·exact .inl (List.mem_filter.mpr ⟨z, by simp [q]⟩)
 ·exact .inr ⟨j, by omega, kj⟩
theorem Z99 {X : Cx} {i : Nat} {x : Str} {e : Expr} {te : TE} {pos pos' : Pos} (hN : X.N.Nodup) (hi : X.N[i]? = some x) (hx : Loc X.env.scope x) (he : PE X e te) (hs : swapsWith e (some (.Name x pos')) pos.line X.env = pure false) (hf : X.fn x = true ∨ X.env.scope.names.lookup x = some .local) :
  PS X (.Assign [.Name x pos'] e pos) (Ziy te (Z8r i)) := Z0j hN hi hx he hs hf
section
variable {P : Program} {w : World} {K : PySem.W.Frag} {mg : Str -> Option Value} {base : Heap}
structure Helpers (K : PySem.W.Frag) (mg : Str -> Option Value) (fD fS : Addr) (dD dS : FuncData) : Prop where
 T : Txt0 mg
 D : Fun K "_law_draw" "_law_draw" Zd5 fD dD
 bD : Binds K dD ["_law_feed_here", "_law_many"] []
 mD : mg "_law_draw" = some (.ref fD)
 S : Fun K "_law_spelled" "_law_spelled" Z3v fS dS
 bS : Binds K dS ["_law_number", "_law_long"] []
 mS : mg "_law_spelled" = some (.ref fS)
theorem scLName : FnScope ["_law_feed_here", "_law_taken", "_law_words", "_law_way", "_law_long", "_law_number", "_law_name_here", "_law_word", "_law_at"] ["_law_feed_here", "_law_taken"] (Z03 Zd6) := ⟨rfl, rfl, rfl, by decide +kernel, rfl, by decide +kernel, by decide +kernel⟩
def Mid (d l a wd : Addr) (ns : List Int) (n k : Nat) (ts : List Str) (H : Hp) (way m x : Int) : St -> Hp -> Prop := fun σ' H' => ∃ (t : Str) (n' : Nat) (o7 o8 : Option V),
 σ' = [some (.ref d), some (.ref a), some (.ref wd), some (.int way), some (.int m), some (.int x), some (.str t), o7, o8] /\ Nm t /\ n' <= n + k /\ Feed H' d l ns n' /\ H' a = some (.lst (ts.map V.str)) /\ H' wd = some (.lst (words13.map V.str)) /\ But d H H'
theorem Zbe {f fD fS : Addr} {fd dD dS : FuncData} (F : Fun K "_law_name" "_law_name" Zd6 f fd) (U : Helpers K mg fD fS dD dS) : FnOk P w K mg base CX0 2 f fd ["_law_feed_here", "_law_taken"] spLawName := by
 have GD : FnOk P w K mg base CX0 1 fD dD ["_law_feed_here", "_law_many"] spDraw := Z5i U.D U.T
 have GS : FnOk P w K mg base CX0 1 fS dS ["_law_number", "_law_long"] spSpelled := Zbc U.S U.T
 refine F.ok scLName (fun vs H Q E h => ?_) (fun cdv A outer s H vs Q E hr h => ?_)
 ·obtain ⟨d, l, a, ns, n, ts, rfl, _⟩ := h
  rfl
 ·obtain ⟨d, l, a, ns, n, ts, rfl, F0, hn, A0, hts, hall, k⟩ := h
  have hu0 := hr.units0
  have hsz : sizeLine = 16777216 := sizeLine_eq
  have hr1 : Room 1 _ := hr.mono (by decide)
  refine' ⟨?tt, ?body, ?fin⟩
  case body =>
   refine' Z05 ?s1 (Z05 ?s2 (Z05 ?s3 (Z05 ?s4 (Z05 ?s5 (Z05 ?s6 (Z0r ?s7 (Z0r ?s9 (Z0r ?s10 (Z05 ?s11 (Z07 ?s12))))))))))
   case s1 => exact Z0j (i := 2) scLName.nd rfl (Or.inl rfl) (Z2s (vs := words8.map V.str) (by decide +kernel))
   case s2 => exact Z0j (i := 2) scLName.nd rfl (Or.inl rfl) (Z0p Zce (pv 2) (Z2s (vs := words5.map V.str) (by decide +kernel)))
   case s3 => exact Z0j (i := 3) scLName.nd rfl (Or.inl rfl) (Z06 GD hr1 (by rfl) U.mD U.D.kp U.bD .nil Z0n (Z0i (pv 0) (Z1h Z04 Z00)))
   case s4 => exact Z0j (i := 4) scLName.nd rfl (Or.inl rfl) (Z0p Z1m Z04 (Z06 GD hr1 (by rfl) U.mD U.D.kp U.bD .nil Z0n (Z0i (pv 0) (Z1h Z04 Z00))))
   case s5 => exact Z0j (i := 5) scLName.nd rfl (Or.inl rfl) (Z0p Z1m (Z0p Z37 (Z06 GD hr1 (by rfl) U.mD U.D.kp U.bD .nil Z0n (Z0i (pv 0) (Z1h Z04 Z00))) Z04) (Z06 GD hr1 (by rfl) U.mD U.D.kp U.bD .nil Z0n (Z0i (pv 0) (Z1h Z04 Z00))))
   case s6 => exact Z0j (i := 6) scLName.nd rfl (Or.inl rfl) (Z06 GS hr1 (by rfl) U.mS U.S.kp U.bS .nil Z0n (Z0i (pv 5) (Z0i (pv 4) Z00)))
   case s7 =>
    refine' Z10 (Z0f Z1j (pv 3) Z04 (Z0o _)) (Z07 ?b) Z0k
    case b =>
     refine' Z0j (i := 6) scLName.nd rfl (Or.inl rfl) (Z0p Z2a ?l ?r)
     case l => exact Z15 Z1a (pv 2) (Z06 GD hr1 (by rfl) U.mD U.D.kp U.bD .nil Z0n (Z0i (pv 0) (Z1h Z04 Z00))) (fun _ _ => rfl)
     case r => exact Z15 Z9m (pv 6) Z04 (fun _ _ => rfl)
   case s9 =>
    refine' Z10 ?c (Z07 ?b) Z0k
    case c => exact (Z3h (Z0f Z1j (pv 3) Z04 (Z0o _)) (Z2f (Z0f (Z4b hu0) (pv 1) (Z18 Z00) (Z0o _)))).pt
    case b =>
     refine' Z0j (i := 6) scLName.nd rfl (Or.inl rfl) (Z22 Zco (Z0p Z2a (Z15 Z1a ?x ?y (fun _ _ => rfl)) ?z) Z2p (Z2g ?u))
     case x => exact pv 1
     case y => exact (Z06 GD hr1 (by rfl) U.mD U.D.kp U.bD .nil Z0n (Z0i (pv 0) (Z4c (Z0b Z0l (by rfl) U.T.len PySem.boot_len (Z0i (pv 1) Z00)) Z00)))
     case z => exact pv 6
     case u => exact Z0p Z1m Z04 (Z0p Z29 (pv 5) Z04)
   case s10 =>
    refine' Z10 ?c (Z05 ?b1 (Z05 ?b2 (Z07 ?b3))) Z0k
    case c => exact (Z3h (Z0f Z1j (pv 3) Z04 (Z0o _)) (Z2f (Z0f (Z4b hu0) (pv 1) (Z18 Z00) (Z0o _)))).pt
    case b1 =>
     refine' Z0j (i := 7) scLName.nd rfl (Or.inl rfl) (Z15 Z1a ?x ?y (fun _ _ => rfl))
     case x => exact pv 1
     case y => exact (Z06 GD hr1 (by rfl) U.mD U.D.kp U.bD .nil Z0n (Z0i (pv 0) (Z4c (Z0b Z0l (by rfl) U.T.len PySem.boot_len (Z0i (pv 1) Z00)) Z00)))
    case b2 => exact Z0j (i := 8) scLName.nd rfl (Or.inl rfl) (Z0p Z29 (pv 5) (Z0b Z7r (by rfl) U.T.len PySem.boot_len (Z0i (pv 7) Z00)))
    case b3 =>
     refine' Z0j (i := 6) scLName.nd rfl (Or.inl rfl) (Z0p Z2a (Z0p Z2a ?x ?y) ?z)
     case x => exact Z22 Zco (pv 7) Z2p (Z2g (pv 8))
     case y => exact Z15 Z9m (pv 6) Z04 (fun _ _ => rfl)
     case z => exact Z22 Zco (pv 7) (Z2g (Z0p Z1m (pv 8) Z04)) Z2p
   case s11 =>
    refine' Z9j PassesOwn.never ?c (Z05 ?b1 (Z05 ?b2 (Z07 ?b3)))
    case c => exact (Z6l (Z0f Z3m (pv 6) (pv 1) (by with_unfolding_all rfl)) (Z5y (Z0f Z3m (pv 6) (pv 2) (by with_unfolding_all rfl)))).pt
    case b1 => exact Z0j (i := 5) scLName.nd rfl (Or.inl rfl) (Z0p Z1m (pv 5) Z04)
    case b2 => exact Z0j (i := 4) scLName.nd rfl (Or.inl rfl) (Z0p Z1m (Z0p Z29 (pv 4) Z04) Z04)
    case b3 => exact Z0j (i := 6) scLName.nd rfl (Or.inl rfl) (Z06 GS hr1 (by rfl) U.mS U.S.kp U.bS .nil Z0n (Z0i (pv 5) (Z0i (pv 4) Z00)))
   case s12 => exact Z0m (pv 6)
  case fin =>
   refine ⟨Z5h (by decide +kernel), fun p hp => ?_⟩
   refine ⟨_, rfl, Z5h (by decide +kernel), fun q hq => ⟨p, q, words8.map V.str, words5.map V.str, rfl, rfl, Z02 hq _ _ Z01, Z01, (by decide +kernel), fun wd hwd => ?_⟩⟩
   have s1 := ((Z02 (o := .lst (words8.map V.str)) hp).trans (Z02 (o := .lst (words5.map V.str)) hq)).trans (Z02 (o := .lst (words8.map V.str ++ words5.map V.str)) hwd)
   have W1 : upd (upd (upd H p (.lst (words8.map V.str))) q (.lst (words5.map V.str))) wd (.lst (words8.map V.str ++ words5.map V.str)) wd = some (.lst (words13.map V.str)) := by
    rw [Z01, words13, List.map_append]
   have F1 := F0.same s1
   have A1 := s1 _ _ A0
   have B1 : But d H _ := But.of s1
   generalize upd (upd (upd H p (.lst (words8.map V.str))) q (.lst (words5.map V.str))) wd (.lst (words8.map V.str ++ words5.map V.str)) = H1 at W1 F1 A1 B1 ⊢
   refine ⟨_, rfl, d, l, ns, n, _, rfl, F1, by omega, by decide, by decide, fun way n2 H2 _ _ hn2 F2 B2 => ?_⟩
   obtain ⟨z1, hd1⟩ := F1.dc
   have A2 := B2.lst hd1 A1
   have W2 := B2.lst hd1 W1
   have B2' := B1.trans B2
   refine ⟨_, rfl, d, l, ns, n2, _, rfl, F2, by omega, by decide, by decide, fun lg n3 H3 lg0 lg1 hn3 F3 B3 => ?_⟩
   obtain ⟨z2, hd2⟩ := F2.dc
   have A3 := B3.lst hd2 A2
   have W3 := B3.lst hd2 W2
   have B3' := B2'.trans B3
   refine ⟨_, _, rfl, rfl, ?_⟩
   refine ⟨_, rfl, d, l, ns, n3, _, rfl, F3, by omega, by decide, by decide, fun r4 n4 H4 r40 r41 hn4 F4 B4 => ?_⟩
   obtain ⟨z3, hd3⟩ := F3.dc
   have A4 := B4.lst hd3 A3
   have W4 := B4.lst hd3 W3
   have B4' := B3'.trans B4
   refine ⟨_, _, rfl, rfl, .inr ⟨by decide, by decide⟩, ?_⟩
   refine ⟨_, rfl, d, l, ns, n4, _, rfl, F4, by omega, by decide, by decide, fun r5 n5 H5 r50 r51 hn5 F5 B5 => ?_⟩
   obtain ⟨z4, hd4⟩ := F4.dc
   have A5 := B5.lst hd4 A4
   have W5 := B5.lst hd4 W4
   have B5' := B4'.trans B5
   refine ⟨_, _, rfl, rfl, ?_⟩
   have hx0 : 0 <= r4 * 456976 + r5 := by omega
   refine ⟨_, rfl, _, rfl, r4 * 456976 + r5, 1 + lg, rfl, by omega, by omega, fun t5 ht5 => ?_⟩
   obtain ⟨⟨hl5, hw5⟩, hf5⟩ := ht5
   have hm0 : 1 <= 1 + lg := by omega
   have hm1 : 1 + lg <= 8 := by omega
   refine ⟨Mid d l a wd ns n 5 ts H way (1 + lg) (r4 * 456976 + r5), ?_, ?_⟩
   ·refine ⟨_, rfl, rfl, _, rfl, Z1r (fun _ => ?_) (fun _ => ?_)⟩
    ·refine ⟨_, rfl, _, rfl, d, l, ns, n5, _, rfl, F5, by omega, by decide, by decide, fun r6 n6 H6 r60 r61 hn6 F6 B6 => ?_⟩
     obtain ⟨z5, hd5⟩ := F5.dc
     have A6 := B6.lst hd5 A5
     have W6 := B6.lst hd5 W5
     obtain ⟨v6, hv6, hat6⟩ := Z3c (xs := words13.map V.str) (i := r6) r60 (Int.lt_of_lt_of_le r61 (by decide +kernel))
     obtain ⟨t6, ht6, rfl⟩ := List.mem_map.mp hv6
     have h6 := Zbd t6 ht6
     obtain ⟨c6, hc6⟩ := Zab (t := t5) (by omega)
     refine ⟨wd, words13.map V.str, r6, .str t6, rfl, rfl, SqL.of W6, hat6, ?_⟩
     refine ⟨_, rfl, t5, 0, c6, rfl, rfl, Z4k (by omega), hc6, ?_⟩
     refine ⟨t6, ⟨#[c6]⟩, rfl, rfl, (by show t6.length + 1 <= sizeLine; omega), ?_⟩
     exact ⟨_, n6, none, none, rfl, ⟨⟨by rw [Z4j]; show 1 <= t6.length + 1; omega, by rw [Z4j]; show t6.length + 1 <= 8; omega⟩, Z5j h6.2 (Z98 (Zgm hw5 hc6))⟩, by omega, F6, A6, W6, B5'.trans B6⟩
    ·exact ⟨t5, n5, none, none, rfl, ⟨⟨by omega, by omega⟩, hw5⟩, by omega, F5, A5, W5, B5'⟩
   generalize r4 * 456976 + r5 = x at hx0 ⊢
   generalize 1 + lg = m at hm0 hm1 ⊢
   rintro σ7 H7 ⟨t7, n7, o77, o78, rfl, ht7, hn7, F7, A7, W7, B7⟩
   obtain ⟨z7, hd7⟩ := F7.dc
   refine ⟨Mid d l a wd ns n 7 ts H way m x, ?_, ?_⟩
   ·refine ⟨_, rfl, rfl, _, rfl, Z1r (fun _ => ?_) (fun _ => Z46 ⟨t7, n7, o77, o78, rfl, ht7, by omega, F7, A7, W7, B7⟩)⟩
    refine ⟨_, rfl, Nat.zero_le _, fun e he => ⟨a, e, ts.map V.str, [], rfl, rfl, SqL.of (Z02 he _ _ A7), SqL.of Z01, Z3y ts, rfl, _, rfl, ?_⟩⟩
    have se := Z02 (o := .lst []) he
    have F7' := F7.same se
    have A7' := se _ _ A7
    have W7' := se _ _ W7
    have B7' := B7.trans (But.of (d := d) se)
    obtain ⟨z7', hd7'⟩ := F7'.dc
    generalize upd H7 e (.lst []) = H7e at F7' A7' W7' B7' hd7' ⊢
    refine Z1r (fun hne => ?_) (fun _ => ⟨t7, n7, o77, o78, rfl, ht7, by omega, F7', A7', W7', B7'⟩)
    have hpos : 0 < (ts.map V.str).length := by
     cases ts with
     | nil => exact absurd hne (by decide)
     | cons _ _ => exact Nat.succ_pos _
    have hfew : (ts.map V.str).length <= 40 := by rw [List.length_map]; exact hts
    refine ⟨_, rfl, _, rfl, _, rfl, a, ts.map V.str, rfl, .inl (SqL.of A7'), d, l, ns, n7, _, rfl, F7', by omega, (by show (0 : Int) < ((ts.map V.str).length : Int); omega), (by show ((ts.map V.str).length : Int) < 18446744073709551616; omega), fun r8 n8 H8 r80 r81 hn8 F8 B8 => ?_⟩
    have A8 := B8.lst hd7' A7'
    have W8 := B8.lst hd7' W7'
    obtain ⟨v8, hv8, hat8⟩ := Z3c (xs := ts.map V.str) (i := r8) r80 r81
    obtain ⟨t8, ht8, rfl⟩ := List.mem_map.mp hv8
    have h8 := hall t8 ht8
    refine ⟨a, ts.map V.str, r8, .str t8, rfl, rfl, SqL.of A8, hat8, ?_⟩
    refine ⟨_, rfl, t8, t7, rfl, rfl, (by omega), ?_⟩
    have hlen : (t8 ++ t7).length = t8.length + t7.length := Z4j _ _
    refine ⟨_, rfl, _, _, rfl, rfl, (by show (0 : Int) < 8; decide), _, _, rfl, rfl, _, rfl, _, rfl, Z4k (by omega), ?_⟩
    have hj : 1 <= 1 + x % 8 := by omega
    have hj2 : 1 + x % 8 <= 8 := by omega
    have q1 := Zh9 (x := t8 ++ t7) (j := 1 + x % 8) (by omega) hj
    have q2 := Zgg (x := t8 ++ t7) (j := 1 + x % 8) (by omega)
    exact ⟨_, n8, o77, o78, rfl, ⟨⟨q1, by omega⟩, Z5k (Z5j h8.2 ht7.2)⟩, by omega, F8, A8, W8, B7'.trans B8⟩
   rintro σ8 H8 ⟨t8, n8, o87, o88, rfl, ht8, hn8, F8, A8, W8, B8⟩
   obtain ⟨z8, hd8⟩ := F8.dc
   refine ⟨Mid d l a wd ns n 8 ts H way m x, ?_, ?_⟩
   ·refine ⟨_, rfl, rfl, _, rfl, Z1r (fun _ => ?_) (fun _ => Z46 ⟨t8, n8, o87, o88, rfl, ht8, by omega, F8, A8, W8, B8⟩)⟩
    refine ⟨_, rfl, Nat.zero_le _, fun e he => ⟨a, e, ts.map V.str, [], rfl, rfl, SqL.of (Z02 he _ _ A8), SqL.of Z01, Z3y ts, rfl, _, rfl, ?_⟩⟩
    have se := Z02 (o := .lst []) he
    have F8' := F8.same se
    have A8' := se _ _ A8
    have W8' := se _ _ W8
    have B8' := B8.trans (But.of (d := d) se)
    obtain ⟨z8', hd8'⟩ := F8'.dc
    generalize upd H8 e (.lst []) = H8e at F8' A8' W8' B8' hd8' ⊢
    refine Z1r (fun hne => ?_) (fun _ => ⟨t8, n8, o87, o88, rfl, ht8, by omega, F8', A8', W8', B8'⟩)
    have hpos : 0 < (ts.map V.str).length := by
     cases ts with
     | nil => exact absurd hne (by decide)
     | cons _ _ => exact Nat.succ_pos _
    have hfew : (ts.map V.str).length <= 40 := by rw [List.length_map]; exact hts
    refine ⟨_, rfl, _, rfl, _, rfl, a, ts.map V.str, rfl, .inl (SqL.of A8'), d, l, ns, n8, _, rfl, F8', by omega, (by show (0 : Int) < ((ts.map V.str).length : Int); omega), (by show ((ts.map V.str).length : Int) < 18446744073709551616; omega), fun r9 n9 H9 r90 r91 hn9 F9 B9 => ?_⟩
    have A9 := B9.lst hd8' A8'
    have W9 := B9.lst hd8' W8'
    obtain ⟨v9, hv9, hat9⟩ := Z3c (xs := ts.map V.str) (i := r9) r90 r91
    obtain ⟨t9, ht9, rfl⟩ := List.mem_map.mp hv9
    have h9 := hall t9 ht9
    refine ⟨a, ts.map V.str, r9, .str t9, rfl, rfl, SqL.of A9, hat9, ?_⟩
    refine ⟨_, rfl, _, rfl, t9, rfl, Z4k (by omega), _, _, rfl, rfl, (by show (0 : Int) < (t9.length : Int); omega), ?_⟩
    have at0 : 0 <= x % (t9.length : Int) := Int.emod_nonneg _ (by omega)
    have at1 : x % (t9.length : Int) < t9.length := Int.emod_lt_of_pos _ (by omega)
    obtain ⟨c9, hc9⟩ := Zab (t := t8) ht8.1.1
    have q1 := Zgg (x := t9) (j := x % (t9.length : Int)) at0
    have q2 := Zez (x := t9) (i := x % (t9.length : Int) + 1) (by omega) (by omega)
    refine ⟨_, rfl, _, rfl, _, rfl, t9, rfl, Z4k (by omega), _, rfl, t8, 0, c9, rfl, rfl, Z4k (by omega), hc9, _, ⟨#[c9]⟩, rfl, rfl, (by show _ + 1 <= sizeLine; omega), ?_⟩
    have hlen : (Txt.slice t9 none (some (x % (t9.length : Int))) ++ (⟨#[c9]⟩ : Str)).length = (Txt.slice t9 none (some (x % (t9.length : Int)))).length + 1 := Z4j _ _
    refine ⟨_, rfl, _, rfl, _, _, rfl, rfl, _, rfl, t9, rfl, Z4k (by omega), _, _, rfl, rfl, (by omega), ?_⟩
    exact ⟨_, n9, _, _, rfl, ⟨⟨by rw [Z4j]; omega, by rw [Z4j]; omega⟩, Z5j (Z5j (Z5k h9.2) (Z98 (Zgm ht8.2 hc9))) (Z5k h9.2)⟩, by omega, F9, A9, W9, B8'.trans B9⟩
   rintro σ9 H9 ⟨t9, n9, o97, o98, rfl, ht9, hn9, F9, A9, W9, B9⟩
   have hex : (ts ++ words13).length <= 53 := by
    rw [List.length_append]
    have : words13.length = 13 := by decide +kernel
    omega
   refine Zer (fun σ H' => ∃ (i : Nat) (R : List Str) (t : Str), σ = [some (.ref d), some (.ref a), some (.ref wd), some (.int way), some (.int (mi m i)), some (.int (x + i)), some (.str t), o97, o98] /\ Nm t /\ Left x m (ts ++ words13) R i /\ (0 < i -> Z4r x m t i) /\ H' = H9)
    (fun (σ : St) (_ : Hp) => match σ[5]? with | some (some (V.int z)) => (x + 100 - z).toNat | _ => 0) ⟨0, _, t9, ?_, ht9, Left.zero hex, fun z => absurd z (Nat.lt_irrefl _), rfl⟩ ?_ ?_
   ·have e1 : mi m 0 = m := by unfold mi; omega
    have e2 : x + ((0 : Nat) : Int) = x := by omega
    rw [e1, e2]
   ·rintro σ H' ⟨i, R, t, rfl, ht, hL, hK, rfl⟩
    have hi : i <= 54 := by have := hL.few; omega
    have e1 : mi m i % 8 + 1 = mi m (i + 1) := by unfold mi; omega
    have e2 : x + (i : Int) + 1 = x + ((i + 1 : Nat) : Int) := by omega
    have e3 : 1 <= mi m (i + 1) /\ mi m (i + 1) <= 8 := by unfold mi; omega
    have body : t ∈ ts ++ words13 -> ∀ t' : Str, Zdg t' (x + ((i + 1 : Nat) : Int)) (mi m (i + 1)) →
      ∃ R', Nm t' /\ Left x m (ts ++ words13) R' (i + 1) /\ (0 < i + 1 -> Z4r x m t' (i + 1)) := by
     intro hin t' ht'
     have hk : Z4r x m t' (i + 1) := ⟨ht'.1.1, ht'.2 (by omega)⟩
     have hl := ht'.1.1
     by_cases hz : i = 0
     ·subst hz
      exact ⟨_, ⟨⟨by omega, by omega⟩, ht'.1.2⟩, Left.one (R := R) hex, fun _ => hk⟩
     ·exact ⟨_, ⟨⟨by omega, by omega⟩, ht'.1.2⟩, hL.next hin (hK (by omega)), fun _ => hk⟩
    refine ⟨_, rfl, _, rfl, a, ts.map V.str, rfl, .inl (SqL.of A9), rfl, Z3y ts, _, rfl, Z1r (fun g => Zej ?_) (fun g => ?_)⟩
    ·refine ⟨_, rfl, _, _, rfl, rfl, _, rfl, _, _, rfl, rfl, (by show (0 : Int) < 8; decide), _, _, rfl, rfl, _, rfl, _, rfl, _, _, rfl, (by rw [e1]; omega), (by rw [e1]; omega), fun t' ht' => ?_⟩
     rw [e1, e2] at ht'
     obtain ⟨R', q1, q2, q3⟩ := body (List.mem_append.mpr (.inl ((Z4v t ts).mp g))) t' ht'
     refine ⟨⟨i + 1, R', t', ?_, q1, q2, q3, rfl⟩, ?_⟩
     ·show [some (.ref d), some (.ref a), some (.ref wd), some (.int way), some (.int (mi m i % 8 + 1)), some (.int (x + i + 1)), some (.str t'), o97, o98] = _
      rw [e1, e2]
     ·show (x + 100 - (x + i + 1)).toNat < (x + 100 - (x + i)).toNat
      omega
    ·refine ⟨_, rfl, _, rfl, wd, words13.map V.str, rfl, .inl (SqL.of W9), rfl, Z3y words13, _, rfl, Z1r (fun g2 => ?_) (fun g2 => ?_)⟩
     ·refine ⟨_, rfl, _, _, rfl, rfl, _, rfl, _, _, rfl, rfl, (by show (0 : Int) < 8; decide), _, _, rfl, rfl, _, rfl, _, rfl, _, _, rfl, (by rw [e1]; omega), (by rw [e1]; omega), fun t' ht' => ?_⟩
      rw [e1, e2] at ht'
      obtain ⟨R', q1, q2, q3⟩ := body (List.mem_append.mpr (.inr ((Z4v t words13).mp g2))) t' ht'
      refine ⟨⟨i + 1, R', t', ?_, q1, q2, q3, rfl⟩, ?_⟩
      ·show [some (.ref d), some (.ref a), some (.ref wd), some (.int way), some (.int (mi m i % 8 + 1)), some (.int (x + i + 1)), some (.str t'), o97, o98] = _
       rw [e1, e2]
      ·show (x + 100 - (x + i + 1)).toNat < (x + 100 - (x + i)).toNat
       omega
     ·exact ⟨_, rfl, k t n9 _ ht (fun z => g ((Z4v t ts).mpr z)) (fun z => g2 ((Z4v t words13).mpr z)) hn9 F9 B9⟩
   ·rintro σ H' Q1 Q2 hq ⟨v, f1, w1, f2, p, xs, f3, f4, f5, f6, c, f7, q⟩
    refine ⟨v, f1, w1, f2, p, xs, f3, f4, f5, f6, c, f7, ?_⟩
    cases c with
    | true => exact Zej (hq _ _ (by simpa using q))
    | false =>
     refine Z46 ?_
     simp only [Bool.false_eq_true, if_false] at q
     obtain ⟨v, f1, w1, f2, p, xs, f3, f4, f5, f6, c, f7, q⟩ := q
     exact ⟨v, f1, w1, f2, p, xs, f3, f4, f5, f6, c, f7, hq _ _ q⟩
end
def spNames : Sp := fun vs H Q _ => ∃ (d l : Addr) (ns : List Int) (n : Nat) (m : Int), vs = [.ref d, .int m] /\ Feed H d l ns n /\ n <= 800000000000 /\ 0 <= m /\ m <= 40 ∧
 ∀ (nm : Addr) (ts : List Str) n' H', H nm = none -> H' nm = some (.lst (ts.map V.str)) -> (ts.length : Int) = m -> (∀ t ∈ ts, Nm t) -> n' <= n + 8 * m.toNat -> Feed H' d l ns n' -> But d H H' -> Q (.ref nm) H'
section
variable {P : Program} {w : World} {K : PySem.W.Frag} {mg : Str -> Option Value} {base : Heap}
theorem scNames : FnScope ["_law_feed_here", "_law_many", "_law_names_here", "_law_k"] ["_law_feed_here", "_law_many"] (Z03 Z86) := ⟨rfl, rfl, rfl, by decide +kernel, rfl, by decide +kernel, by decide +kernel⟩
theorem Zfh {f fN fD fS : Addr} {fd dN dD dS : FuncData} (F : Fun K "_law_names" "_law_names" Z86 f fd) (U : Helpers K mg fD fS dD dS)
  (FN : Fun K "_law_name" "_law_name" Zd6 fN dN) (bN : Binds K dN ["_law_feed_here", "_law_taken"] []) (mN : mg "_law_name" = some (.ref fN)) : FnOk P w K mg base CX0 3 f fd ["_law_feed_here", "_law_many"] spNames := by
 have GN : FnOk P w K mg base CX0 2 fN dN ["_law_feed_here", "_law_taken"] spLawName := Zbe FN U
 refine F.ok scNames (fun vs H Q E h => ?_) (fun cdv A outer s H vs Q E hr h => ?_)
 ·obtain ⟨d, l, ns, n, m, rfl, _⟩ := h
  rfl
 ·obtain ⟨d, l, ns, n, m, rfl, F0, hn, hm0, hm1, k⟩ := h
  have hsz : sizeLine = 16777216 := sizeLine_eq
  refine ⟨_, Z05 (Z0j (i := 2) scNames.nd rfl (Or.inl rfl) (Z18 Z00)) <|
   Z05 (Z60 PassesOwn.never rfl (Z28 (by rfl) U.T.range (Z0i (pv 1) Z00)) (Z0x (i := 3) scNames.nd rfl (Or.inl rfl))
    (Z07 (Z2o (Z7s PySem.F.plainAttrs_list PySem.F.slot_list_append PySem.F.type_list_append Z2b (pv 2) (Z4c (Z06 GN hr (by rfl) mN FN.kp bN .nil Z0n (Z0i (pv 0) (Z0i (pv 2) Z00))) Z00))))) <|
   Z07 (Z0m (pv 2)), ?_⟩
  refine ⟨Nat.zero_le _, fun nm hnm => ?_⟩
  refine ⟨_, rfl, m, rfl, by omega, by omega, Z3j (n := m.toNat) (fun i σ H' => ∃ (ts : List Str) (n' : Nat) (o : Option V), σ = [some (.ref d), some (.int m), some (.ref nm), o] /\ ts.length = i /\ (∀ t ∈ ts, Nm t) /\ n' <= n + 8 * i /\ Feed H' d l ns n' /\ H' nm = some (.lst (ts.map V.str)) /\ But d H H')
   ⟨[], n, none, rfl, rfl, (fun t ht => absurd ht List.not_mem_nil), Nat.le_refl _, F0.same (Z02 hnm), Z01, But.of (Z02 hnm)⟩ ?_ ?_⟩
  ·rintro i σ H' hi ⟨ts, n', o, rfl, hl, hall, hn', F', L', B'⟩
   refine ⟨_, rfl, .inl ⟨rfl, _, SqL.of L'⟩, _, rfl, _, rfl, d, l, nm, ns, n', ts, rfl, F', by omega, L', by omega, hall, fun t n2 H2 ht _ _ hn2 F2 B2 => ?_⟩
   obtain ⟨z, hd⟩ := F'.dc
   have L2 := B2.lst hd L'
   refine ⟨nm, _, _, rfl, rfl, L2, (by rw [List.length_map]; omega), ?_⟩
   have hne : nm ≠ d := (Z44 L2 (F2.dc.choose_spec) (by intro q; cases q))
   have hne2 : nm ≠ l := fun e => by
    have h0 : H l = some _ := F0.ls
    rw [<- e, hnm] at h0
    cases h0
   refine ⟨ts ++ [t], n2, _, rfl, by rw [List.length_append, hl]; rfl, ?_, by omega, ?_, ?_, ?_⟩
   ·intro u hu
    rcases List.mem_append.mp hu with z | z
    ·exact hall u z
    ·rw [List.mem_singleton.mp z]; exact ht
   ·obtain ⟨⟨z2, hd2⟩, hls, hz⟩ := F2
    exact ⟨⟨z2, by rw [Z0c (Ne.symm hne)]; exact hd2⟩, by rw [Z0c (Ne.symm hne2)]; exact hls, hz⟩
   ·rw [Z01, List.map_append]; rfl
   ·intro b u e hb
    rw [Z0c (Z0h e hnm)]
    exact B2 b u (B' b u e hb) hb
  ·rintro σ H' ⟨ts, n', o, rfl, hl, hall, hn', F', L', B'⟩
   exact ⟨_, rfl, k nm ts n' H' hnm L' (by omega) hall hn' F' B'⟩
end
theorem But.kp {d l : Addr} {ns : List Int} {n : Nat} {H H' : Hp} (b : But d H H') (F : Feed H d l ns n) : Kp H H' := by
 obtain ⟨⟨z, hd⟩, _, _⟩ := F
 intro a o h hk
 exact b a o h (fun q => by subst q; rw [hd] at h; cases h; exact hk _ rfl)
theorem Feed.lst {d l a : Addr} {ns : List Int} {n : Nat} {H H' : Hp} {xs : List V} (F : Feed H d l ns n) (b : But d H H') (h : H a = some (.lst xs)) : H' a = some (.lst xs) := by
 obtain ⟨⟨z, hd⟩, _, _⟩ := F
 exact b.lst hd h
def spValue : Sp := fun vs H Q _ => ∃ (d l : Addr) (ns : List Int) (n : Nat), vs = [.ref d] /\ Feed H d l ns n /\ n <= 900000000000 ∧
 ∀ (i : Int) n' H', 0 <= i -> i <= 1000000000 -> n' <= n + 3 -> Feed H' d l ns n' -> But d H H' -> Q (.int i) H'
def spLawParts : Sp := fun vs H Q _ => ∃ (v : V) (w0 : Str) (ts : List Th), vs = [v] /\ IsTh H v (.tup (.at (.str w0) :: ts)) /\ ts.length <= 1000000 ∧
 ∀ (p : Addr) (ws : List V) H', Same H H' -> H p = none -> H' p = some (.lst ws) -> IsThs H' ws (Z1b ts) -> Q (.ref p) H'
def spWith : Sp := fun vs H Q _ => ∃ (v : V) (la : Addr) (ts ks : List Th) (ws : List V), vs = [v, .ref la] /\ IsTh H v (.tup ts) /\ ts.length <= 1000 /\ H la = some (.lst ws) /\ IsThs H ws ks /\ ks.length <= 1000 ∧
 ∀ (p : Addr) H', Same H H' -> IsTh H' (.ref p) (.tup (Z6y ts ++ ks)) -> Q (.ref p) H'
def Zdi (N : Nat) : Sp := fun vs H Q _ => ∃ (v : V) (t : Th), vs = [v] /\ IsTh H v t /\ PfT N t /\ ∀ H', Same H H' -> Q (.int (cnt t : Nat)) H'
theorem Z74 {hd : List V} {ks : List Th} (h : ∀ k ∈ ks, L2.isTup k = true) : Z1b (hd.map Th.at ++ ks) = ks := by
 unfold Z1b
 rw [List.filter_append, Z72, List.nil_append, Z4u h]
theorem Z2e {w : Str} {hd : List V} {ks : List Th} (h : ∀ k ∈ ks, L2.isTup k = true) : cnt (nd w hd ks) = 1 + Z3s ks := by
 unfold nd
 rw [cnt, Zct, Zht h]
theorem Z8d : ∀ (a : List Th) (x : Th), Z3s (a ++ [x]) = Z3s a + cnt x := by
 intro a
 induction a with
 | nil => intro x; simp [Z3s]
 | cons y a ih => intro x; rw [List.cons_append, Z3s, Z3s, ih]; omega
section
variable {P : Program} {w : World} {K : PySem.W.Frag} {mg : Str -> Option Value} {base : Heap}
theorem scLawValue : FnScope ["_law_feed_here", "_law_way"] ["_law_feed_here"] (Z03 Z2u) := ⟨rfl, rfl, rfl, by decide +kernel, rfl, by decide +kernel, by decide +kernel⟩
theorem Zfi {f fD fS : Addr} {fd dD dS : FuncData} (F : Fun K "_law_value" "_law_value" Z2u f fd) (U : Helpers K mg fD fS dD dS) : FnOk P w K mg base CX0 2 f fd ["_law_feed_here"] spValue := by
 have GD : FnOk P w K mg base CX0 1 fD dD ["_law_feed_here", "_law_many"] spDraw := Z5i U.D U.T
 refine F.ok scLawValue (fun vs H Q E h => ?_) (fun cdv A outer s H vs Q E hr h => ?_)
 ·obtain ⟨d, l, ns, n, rfl, _⟩ := h
  rfl
 ·obtain ⟨d, l, ns, n, rfl, F0, hn, k⟩ := h
  have hr1 : Room 1 _ := hr.mono (by decide)
  refine' ⟨?tt, ?body, ?fin⟩
  case body =>
   refine' Z05 ?s1 (Z05 ?s2 (Z05 ?s3 (Z07 ?s4)))
   case s1 => exact Z0j (i := 1) scLawValue.nd rfl (Or.inl rfl) (Z06 GD hr1 (by rfl) U.mD U.D.kp U.bD .nil Z0n (Z0i (pv 0) (Z1h Z04 Z00)))
   case s2 => exact Z10 (Z0f Z1j (pv 1) Z04 (Z0o _)) (Z07 (Z0m (Z0p Z36 Z04 (Z06 GD hr1 (by rfl) U.mD U.D.kp U.bD .nil Z0n (Z0i (pv 0) (Z1h Z04 Z00)))))) Z0k
   case s3 => exact Z10 (Z0f Z1j (pv 1) Z04 (Z0o _)) (Z07 (Z0m (Z0p Z1m (Z0p Z37 (Z06 GD hr1 (by rfl) U.mD U.D.kp U.bD .nil Z0n (Z0i (pv 0) (Z1h Z04 Z00))) Z04) (Z06 GD hr1 (by rfl) U.mD U.D.kp U.bD .nil Z0n (Z0i (pv 0) (Z1h Z04 Z00)))))) Z0k
   case s4 => exact Z0m (Z06 GD hr1 (by rfl) U.mD U.D.kp U.bD .nil Z0n (Z0i (pv 0) (Z0d (Z0p Z36 (Z0p Z37 Z04 (pv 1)) Z04) Z00)))
  case fin =>
   refine ⟨_, rfl, d, l, ns, n, _, rfl, F0, by omega, by decide, by decide, fun way n1 H1 w0 w1 hn1 F1 b1 => ?_⟩
   refine ⟨_, rfl, rfl, _, rfl, Z1r (fun g => ?_) (fun g => ?_)⟩
   ·refine ⟨_, rfl, d, l, ns, n1, _, rfl, F1, by omega, by decide, by decide, fun i n2 H2 i0 i1 hn2 F2 b2 => ⟨_, _, rfl, rfl, ?_⟩⟩
    exact k _ n2 H2 (by omega) (by omega) (by omega) F2 (b1.trans b2)
   ·refine ⟨_, rfl, rfl, _, rfl, Z1r (fun g2 => ?_) (fun g2 => ?_)⟩
    ·refine ⟨_, rfl, d, l, ns, n1, _, rfl, F1, by omega, by decide, by decide, fun i n2 H2 i0 i1 hn2 F2 b2 => ⟨_, _, rfl, rfl, .inr ⟨by decide, by decide⟩, ?_⟩⟩
     refine ⟨_, rfl, d, l, ns, n2, _, rfl, F2, by omega, by decide, by decide, fun j n3 H3 j0 j1 hn3 F3 b3 => ⟨_, _, rfl, rfl, ?_⟩⟩
     exact k _ n3 H3 (by omega) (by omega) (by omega) F3 ((b1.trans b2).trans b3)
    ·have g' : way ≠ 0 := fun z => g (by rw [z]; decide)
     have g2' : way ≠ 1 := fun z => g2 (by rw [z]; decide)
     refine ⟨_, rfl, _, rfl, _, _, rfl, rfl, .inl ⟨by decide, by decide⟩, _, _, rfl, rfl, d, l, ns, n1, 3 * way - 3, rfl, F1, by omega, by omega, by omega, fun i n2 H2 i0 i1 hn2 F2 b2 => ?_⟩
     exact k i n2 H2 i0 (by omega) (by omega) F2 (b1.trans b2)
theorem Zbf : FnScope ["_law_e"] ["_law_e"] (Z03 Z21) := ⟨rfl, rfl, rfl, by decide +kernel, rfl, by decide +kernel, by decide +kernel⟩
theorem Z2l {f : Addr} {fd : FuncData} (F : Fun K "_law_parts" "_law_parts" Z21 f fd) (T : TxtT mg) (KI : Kits K) : FnOk P w K mg base CX0 1 f fd ["_law_e"] spLawParts := by
 refine F.ok Zbf (fun vs H Q E h => ?_) (fun cdv A outer s H vs Q E hr h => ?_)
 ·obtain ⟨v, w0, ts, rfl, _⟩ := h
  rfl
 ·obtain ⟨v, w0, ts, rfl, hv, hz, k⟩ := h
  refine ⟨_, Z07 (Z0m (Z1z (N' := ["_law_part"]) (src := [none]) rfl (Z0s (Z03 Z21) rfl ["_law_e"] rfl (by decide +kernel)) (Z7k (Z22 Zcp (pv 0) (Z2g Z04) Z2p))
   (fun cl C ex s0 H0 => ⟨Z0x (i := 0) (nd1 _) rfl (Or.inl rfl), Z49 (Z1f (Z0b (id := "isinstance") (Z25 (K := K) rfl) (by rfl) T.isi (by decide +kernel) (Z0i (pv 0) (Z0i (Z1n (v := .ty "tuple") (by rfl) T.tup (by decide +kernel) rfl) Z00)))), pv 0⟩))), ?_⟩
  obtain ⟨a, vs, rfl, a1, a2⟩ := Z1q hv
  cases a2 with
  | @cons x xs _ _ c1 c2 =>
   refine ⟨_, rfl, _, rfl, a, x :: xs, rfl, a1, fun p H1 s1 hp => ?_⟩
   rw [Zku] at hp
   have hl := IsThs.len _ c2
   refine ⟨p, rfl, ⟨_, SqT.of hp⟩, Z3o (K := K) (a := p) (xs := xs) (fun i ys σc H' => ∃ o, σc = [o] /\ IsThs H ys ((ts.take i).filter isTup) /\ ys.length <= i /\ H' = H1) ⟨none, rfl, by rw [List.take_zero]; exact .nil, Nat.le_refl _, rfl⟩ (fun i ys σc H' ⟨_, _, _, _, e⟩ => by rw [e]; exact SqT.of hp) ?_ ?_⟩
   ·rintro i x ys σc H' hx hi ⟨o, rfl, hys, hyl, rfl⟩
    obtain ⟨t, ht, h1⟩ := Z1i _ c2 hx
    have hnext : (ts.take (i + 1)).filter isTup = (ts.take i).filter isTup ++ (if isTup t = true then [t] else []) := Z2z _ ht
    refine ⟨by have : sizeLine = 16777216 := sizeLine_eq; omega, ?_⟩
    refine ⟨_, rfl, _, _, _, _, rfl, Z4d (IsTh.kp (Kp.of s1) h1), KI.tup h1, _, rfl, Z1r (fun g => ?_) (fun g => ?_)⟩
    ·refine ⟨_, rfl, nx hi ⟨_, rfl, ?_, by rw [List.length_append]; show ys.length + 1 <= i + 1; omega, rfl⟩⟩
     rw [hnext, if_pos g]
     exact IsThs.app _ hys (.cons h1 .nil)
    ·refine nx hi ⟨_, rfl, ?_, by omega, rfl⟩
     rw [hnext, if_neg g, List.append_nil]
     exact hys
   ·rintro ys σc H' ⟨o, rfl, hys, hyl, rfl⟩ q hq
    rw [List.take_of_length_le (by omega)] at hys
    have sA := s1.trans (Z02 (o := .lst ys) hq)
    exact k q ys _ sA (Z2t s1 hq) Z01 (IsThs.kp (Kp.of sA) hys)
theorem Zju : FnScope ["_law_e", "_law_inner"] ["_law_e", "_law_inner"] (Z03 Zb9) := ⟨rfl, rfl, rfl, by decide +kernel, rfl, by decide +kernel, by decide +kernel⟩
theorem Z9a {f : Addr} {fd : FuncData} (F : Fun K "_law_with" "_law_with" Zb9 f fd) (T : TxtT mg) (KI : Kits K) : FnOk P w K mg base CX0 1 f fd ["_law_e", "_law_inner"] spWith := by
 refine F.ok Zju (fun vs H Q E h => ?_) (fun cdv A outer s H vs Q E hr h => ?_)
 ·obtain ⟨v, la, ts, ks, ws, rfl, _⟩ := h
  rfl
 ·obtain ⟨v, la, ts, ks, ws, rfl, hv, hz, hla, hws, hkz, k⟩ := h
  have hsz : sizeLine = 16777216 := sizeLine_eq
  refine' ⟨?tt, ?body, ?fin⟩
  case body =>
   refine' Z07 ?s1
   case s1 =>
    refine' Z0m ?r
    case r =>
     refine' Z19 Z0v (by rfl) T.tup (by decide +kernel) ?a
     case a =>
      refine' Z0d ?c Z00
      case c =>
       refine' Z0p Zce ?x (pv 1)
       case x =>
        refine' Z1z (N' := ["_law_part"]) (src := [none]) ?k1 ?k5 ?k6 ?k7
        case k1 => rfl
        case k5 => exact Z0s (Z03 Zb9) rfl ["_law_e", "_law_inner"] rfl (by decide +kernel)
        case k6 => exact Z7k (pv 0)
        case k7 => exact fun cl C ex s0 H0 => ⟨Z0x (i := 0) (nd1 _) rfl (Or.inl rfl), Z49 (Z2n (Z1f (Z0b (id := "isinstance") (Z25 (K := K) rfl) (by rfl) T.isi (by decide +kernel) (Z0i (pv 0) (Z0i (Z1n (v := .ty "tuple") (by rfl) T.tup (by decide +kernel) rfl) Z00))))), pv 0⟩
  case fin =>
   obtain ⟨a, xs, rfl, ha, hts⟩ := Z1q hv
   have hl := IsThs.len _ hts
   refine ⟨_, rfl, a, rfl, ⟨_, SqT.of ha⟩, Z3o (K := K) (a := a) (xs := xs) (fun i ys σc H' => ∃ o, σc = [o] /\ IsThs H ys ((ts.take i).filter Z1w) /\ ys.length <= i /\ H' = H) ⟨none, rfl, by rw [List.take_zero]; exact .nil, Nat.le_refl _, rfl⟩ (fun i ys σc H' ⟨_, _, _, _, e⟩ => by rw [e]; exact SqT.of ha) ?_ ?_⟩
   ·rintro i x ys σc H' hx hi ⟨o, rfl, hys, hyl, rfl⟩
    obtain ⟨t, ht, h1⟩ := Z1i _ hts hx
    have hnext : (ts.take (i + 1)).filter Z1w = (ts.take i).filter Z1w ++ (if Z1w t = true then [t] else []) := Z2z _ ht
    refine ⟨by omega, ?_⟩
    refine ⟨_, rfl, _, _, _, _, rfl, Z4d h1, KI.tup h1, _, rfl, Z1r (fun g => ?_) (fun g => ?_)⟩
    ·refine ⟨_, rfl, nx hi ⟨_, rfl, ?_, by rw [List.length_append]; show ys.length + 1 <= i + 1; omega, rfl⟩⟩
     rw [hnext, if_pos (show Z1w t = true from g)]
     exact IsThs.app _ hys (.cons h1 .nil)
    ·refine nx hi ⟨_, rfl, ?_, by omega, rfl⟩
     rw [hnext, if_neg (show ¬ Z1w t = true from g), List.append_nil]
     exact hys
   ·rintro ys σc H' ⟨o, rfl, hys, hyl, rfl⟩ l hl'
    rw [List.take_of_length_le (by omega)] at hys
    have s1 := Z02 (o := .lst ys) hl'
    have hwl := IsThs.len _ hws
    refine ⟨_, rfl, l, la, ys, ws, rfl, rfl, Z01, s1 _ _ hla, by omega, fun l2 hl2 => ?_⟩
    have s2 := Z02 (o := .lst (ys ++ ws)) hl2
    refine ⟨l2, _, rfl, .inl ⟨SqL.of Z01, fun p hp => ?_⟩⟩
    have s3 := Z02 (o := .tup (ys ++ ws)) hp
    have sA := (s1.trans s2).trans s3
    exact k p _ sA (.tup Z01 (IsThs.app _ (IsThs.kp (Kp.of sA) hys) (IsThs.kp (Kp.of sA) hws)))
theorem Zdj : FnScope ["_law_e"] ["_law_e"] (Z03 Z6c) := ⟨rfl, rfl, rfl, by decide +kernel, rfl, by decide +kernel, by decide +kernel⟩
theorem Zfj {f fP : Addr} {fd dP : FuncData} (F : Fun K "_law_nodes" "_law_nodes" Z6c f fd) (b : Binds K fd ["_law_e"] []) (m : mg "_law_nodes" = some (.ref f)) (T : TxtT mg) (KI : Kits K) (hsum : mg "sum" = none)
  (FP : Fun K "_law_parts" "_law_parts" Z21 fP dP) (bP : Binds K dP ["_law_e"] []) (mP : mg "_law_parts" = some (.ref fP)) : ∀ N, FnOk P w K mg base CX0 (N + 2) f fd ["_law_e"] (Zdi N) := by
 have GP : FnOk P w K mg base CX0 1 fP dP ["_law_e"] spLawParts := Z2l FP T KI
 intro N
 induction N with
 | zero =>
  refine F.ok Zdj (fun vs H Q E h => ?_) (fun cdv A outer s H vs Q E hr h => ?_)
  ·obtain ⟨v, t, rfl, _⟩ := h
   rfl
  ·obtain ⟨v, t, rfl, _, h, _⟩ := h
   exact h.elim
 | succ N ih =>
  refine F.ok Zdj (fun vs H Q E h => ?_) (fun cdv A outer s H vs Q E hr h => ?_)
  ·obtain ⟨v, t, rfl, _⟩ := h
   rfl
  ·obtain ⟨v, t, rfl, hv, hD, k⟩ := h
   have hsz : sizeLine = 16777216 := sizeLine_eq
   have hr1 : Room 1 _ := hr.mono (by omega)
   refine ⟨_, Z07 (Z0m (Z0p Z1m Z04 (Z0b (Zf3 rfl) (by rfl) hsum (by decide +kernel) (Z0d (Z1z (N' := ["_law_part"]) (src := [none]) rfl (Z0s (Z03 Z6c) rfl ["_law_e"] rfl (by decide +kernel)) (Z39 (Z06 GP hr1 (by rfl) mP FP.kp bP .nil Z0n (Z0i (pv 0) Z00)))
    (fun cl C ex s0 H0 => ⟨Z0x (i := 0) (nd1 _) rfl (Or.inl rfl), Z3b, Z06 ih hr (by rfl) m F.kp b .nil Z0n (Z0i (pv 0) Z00)⟩)) Z00)))), ?_⟩
   obtain ⟨w0, hd, ks, rfl, h1, h2, h3, h4, h5, h6⟩ := hD
   have nk : ∀ k ∈ ks, L2.isTup k = true := fun k hk => (h6 k hk).isTup
   refine ⟨_, rfl, v, w0, hd.map Th.at ++ ks, rfl, hv, by rw [List.length_append, List.length_map]; omega, fun p ws H1 s1 hp0 hp hws => ?_⟩
   rw [Z74 nk] at hws
   have hl := IsThs.len _ hws
   refine ⟨p, rfl, ⟨_, SqL.of hp⟩, Z2r (K := K) (a := p) (xs := ws) (fun i ys σc H' => ∃ (o : Option V) (ms : List Int), σc = [o] /\ ys = ms.map V.int /\ ms.length = i /\ ms.sum = (Z3s (ks.take i) : Nat) /\ Same H1 H')
    ⟨none, [], rfl, rfl, rfl, by rw [List.take_zero]; rfl, Same.refl _⟩ (fun i ys σc H' ⟨_, _, _, _, _, _, e⟩ => SqL.of (e _ _ hp)) ?_ ?_⟩
   ·rintro i x ys σc H' hx hi ⟨o, ms, rfl, rfl, hm, hsm, s2⟩
    obtain ⟨t, ht, hxt⟩ := Z1i _ hws hx
    refine ⟨by rw [List.length_map]; omega, ?_⟩
    refine ⟨_, rfl, x, t, rfl, IsTh.kp (Kp.of s2) hxt, h6 t (List.mem_of_getElem? ht), fun H2 s3 => nx hi ⟨_, ms ++ [((cnt t : Nat) : Int)], rfl, by rw [List.map_append]; rfl, by rw [List.length_append, hm]; rfl, ?_, s2.trans s3⟩⟩
    rw [List.take_add_one, ht, List.sum_append, hsm]
    show _ = ((Z3s (ks.take i ++ [t]) : Nat) : Int)
    rw [Z8d]
    simp
   ·rintro ys σc H' ⟨o, ms, rfl, rfl, hm, hsm, s2⟩ q hq
    rw [List.take_of_length_le (by omega)] at hsm
    refine ⟨q, ms, rfl, SqL.of Z01, _, _, rfl, rfl, ?_⟩
    have kk := k _ (s1.trans (s2.trans (Z02 (o := .lst (ms.map V.int)) hq)))
    rw [Z2e nk] at kk
    rw [hsm]
    simpa using kk
end
structure HW (K : PySem.W.Frag) (mg : Str -> Option Value) (fP fW : Addr) (dP dW : FuncData) : Prop where
 T : TxtT mg
 KI : Kits K
 P : Fun K "_law_parts" "_law_parts" Z21 fP dP
 bP : Binds K dP ["_law_e"] []
 mP : mg "_law_parts" = some (.ref fP)
 W : Fun K "_law_with" "_law_with" Zb9 fW dW
 bW : Binds K dW ["_law_e", "_law_inner"] []
 mW : mg "_law_with" = some (.ref fW)
def sg (ts : List Th) (i : Nat) : Th := ts.getD i (.tup [])
def Zgn (N : Nat) : Sp := fun vs H Q _ => ∃ (v : V) (fa : Addr) (p : Th) (ws : List V) (ts : List Th), vs = [v, .ref fa] /\ IsTh H v p /\ PfT N p /\ (H fa = some (.tup ws) ∨ H fa = some (.lst ws)) /\ IsThs H ws ts /\ (∀ i ∈ hs p, i < ts.length) ∧
 ∀ (v' : V) H', Same H H' -> IsTh H' v' (fl (sg ts) p) -> Q v' H'
theorem Zkz : (["_law_fillings", "_law_part"] : List Str).Nodup := by decide +kernel
theorem Z9b {w : Str} {hd : List V} {ks ks' : List Th} (h : ∀ k ∈ ks, L2.isTup k = true) : Th.tup (Z6y (.at (.str w) :: (hd.map Th.at ++ ks)) ++ ks') = nd w hd ks' := by
 rw [Zhu h]
 rfl
section
variable {P : Program} {w : World} {K : PySem.W.Frag} {mg : Str -> Option Value} {base : Heap}
theorem Zgo : FnScope ["_law_b", "_law_fillings"] ["_law_b", "_law_fillings"] (Z03 Zbb) := ⟨rfl, rfl, rfl, by decide +kernel, rfl, by decide +kernel, by decide +kernel⟩
theorem Zi0 {f fP fW : Addr} {fd dP dW : FuncData} (F : Fun K "_law_fill" "_law_fill" Zbb f fd) (b : Binds K fd ["_law_b", "_law_fillings"] []) (m : mg "_law_fill" = some (.ref f)) (U : HW K mg fP fW dP dW) : ∀ N, FnOk P w K mg base CX0 (N + 2) f fd ["_law_b", "_law_fillings"] (Zgn N) := by
 have GP : FnOk P w K mg base CX0 1 fP dP ["_law_e"] spLawParts := Z2l U.P U.T U.KI
 have GW : FnOk P w K mg base CX0 1 fW dW ["_law_e", "_law_inner"] spWith := Z9a U.W U.T U.KI
 intro N
 induction N with
 | zero =>
  refine F.ok Zgo (fun vs H Q E h => ?_) (fun cdv A outer s H vs Q E hr h => ?_)
  ·obtain ⟨v, fa, p, ws, ts, rfl, _⟩ := h
   rfl
  ·obtain ⟨v, fa, p, ws, ts, rfl, _, h, _⟩ := h
   exact h.elim
 | succ N ih =>
  refine F.ok Zgo (fun vs H Q E h => ?_) (fun cdv A outer s H vs Q E hr h => ?_)
  ·obtain ⟨v, fa, p, ws, ts, rfl, _⟩ := h
   rfl
  ·obtain ⟨v, fa, p, ws, ts, rfl, hv, hD, hfa, hws, hin, k⟩ := h
   have hsz : sizeLine = 16777216 := sizeLine_eq
   have hr1 : Room 1 _ := hr.mono (by omega)
   refine' ⟨?tt, ?body, ?fin⟩
   case body =>
    refine' Z05 ?s1 (Z07 ?s2)
    case s1 =>
     refine' Z10 ?c (Z07 ?b) Z0k
     case c => exact Z0f Z1j (Z15 Z23 (pv 0) Z04 (fun _ _ => rfl)) Z0a (Z0o _)
     case b => exact Z0m (Z15 (IxR.or Z23 Z1a) (pv 1) (Z15 Z23 (pv 0) Z04 (fun _ _ => rfl)) (fun _ _ => rfl))
    case s2 =>
     refine' Z0m ?r
     case r =>
      refine' Z06 GW hr1 (by rfl) U.mW U.W.kp U.bW .nil Z0n ?a
      case a =>
       refine' Z0i (pv 0) ?a2
       case a2 =>
        refine' Z0d ?c Z00
        case c =>
         refine' Z1z (N' := ["_law_fillings", "_law_part"]) (src := [some 1, none]) ?k1 ?k5 ?k6 ?k7
         case k1 => rfl
         case k5 => exact Z0s (Z03 Zbb) rfl ["_law_b", "_law_fillings"] rfl (by decide +kernel)
         case k6 => exact Z39 (Z06 GP hr1 (by rfl) U.mP U.P.kp U.bP .nil Z0n (Z0i (pv 0) Z00))
         case k7 => exact fun cl C ex s0 H0 => ⟨Z0x (i := 1) Zkz rfl (Or.inl rfl), Z3b, Z06 ih hr (by rfl) m F.kp b .nil Z0n (Z0i (pv 1) (Z0i (pv 0) Z00))⟩
   case fin =>
    obtain ⟨w0, hd, ks, rfl, h1, h2, h3, h4, h5, h6⟩ := hD
    have nk : ∀ k ∈ ks, L2.isTup k = true := fun k hk => (h6 k hk).isTup
    obtain ⟨an, vns, rfl, han, hvns⟩ := Z1q hv
    cases hvns with
    | @cons vh vr _ _ c1 c2 =>
     obtain ⟨rfl, _⟩ := Z3d c1
     refine ⟨_, rfl, an, _, 0, .str w0, rfl, rfl, SqT.of han, Z2v _ _, rfl, _, rfl, Z1r (fun g2 => ?_) (fun g2 => ?_)⟩
     ·have hw0 : w0 = "hole" := by
       have g' := of_decide_eq_true g2
       injection g'
      subst hw0
      obtain ⟨i, rfl, rfl⟩ := h4 rfl
      cases c2 with
      | @cons vi vr2 _ _ c3 c4 =>
       cases c4
       obtain ⟨rfl, _⟩ := Z3d c3
       have hi : i < ts.length := hin i (by rw [Z1o]; exact List.mem_singleton.mpr rfl)
       have hti : ts[i]? = some ts[i] := List.getElem?_eq_getElem hi
       obtain ⟨vx, hvx, hxt⟩ := Zcq _ hws hti
       have hres : IsTh H vx (fl (sg ts) (nd "hole" [.int (i : Nat)] [])) := by
        rw [Z1u]
        unfold sg
        rw [show ts.getD i (.tup []) = ts[i] by simp [List.getD, hti]]
        exact hxt
       refine ⟨_, rfl, _, rfl, an, _, 1, .int (i : Nat), rfl, rfl, SqT.of han, Z2w _ _ _, ?_⟩
       rcases hfa with z | z
       ·exact .inl ⟨fa, ws, (i : Nat), vx, rfl, rfl, SqT.of z, Z2h hvx, k vx H (Same.refl _) hres⟩
       ·exact .inr ⟨fa, ws, (i : Nat), vx, rfl, rfl, SqL.of z, Z2h hvx, k vx H (Same.refl _) hres⟩
     ·have hw0 : w0 ≠ "hole" := fun z => g2 (by rw [z]; decide +kernel)
      refine ⟨_, rfl, _, rfl, .ref an, w0, hd.map Th.at ++ ks, rfl, hv, by rw [List.length_append, List.length_map]; omega, fun p ps H1 s1 hp0 hp hps => ?_⟩
      rw [Z74 nk] at hps
      have hl := IsThs.len _ hps
      refine ⟨p, rfl, ⟨_, SqL.of hp⟩, Z2r (K := K) (a := p) (xs := ps) (fun i ys σc H' => ∃ (o : Option V), σc = [some (.ref fa), o] /\ ys.length = i /\ IsThs H' ys ((ks.take i).map (fl (sg ts))) /\ Same H1 H')
       ⟨none, rfl, rfl, by rw [List.take_zero]; exact .nil, Same.refl _⟩ (fun i ys σc H' ⟨_, _, _, _, e⟩ => SqL.of (e _ _ hp)) ?_ ?_⟩
      ·rintro i x ys σc H' hx hi ⟨o, rfl, hyl, hys, s2⟩
       obtain ⟨t, ht, hxt⟩ := Z1i _ hps hx
       have htk := List.mem_of_getElem? ht
       have s12 := s1.trans s2
       refine ⟨by omega, ?_⟩
       refine ⟨_, rfl, _, rfl, x, fa, t, ws, ts, rfl, IsTh.kp (Kp.of s2) hxt, h6 t htk, hfa.imp (fun z => s12 _ _ z) (fun z => s12 _ _ z), IsThs.kp (Kp.of s12) hws, fun j hj => hin j ((Z2k hw0).mpr ⟨t, htk, hj⟩), fun v' H2 s3 hv' => nx hi ⟨_, rfl, by rw [List.length_append, hyl]; rfl, ?_, s2.trans s3⟩⟩
       rw [List.take_add_one, ht, List.map_append]
       exact IsThs.app _ (IsThs.kp (Kp.of s3) hys) (.cons hv' .nil)
      ·rintro ys σc H' ⟨o, rfl, hyl, hys, s2⟩ q hq
       rw [List.take_of_length_le (by omega)] at hys
       have sq := Z02 (o := .lst ys) hq
       have sA := (s1.trans s2).trans sq
       refine ⟨.ref an, q, _, ks.map (fl (sg ts)), ys, rfl, IsTh.kp (Kp.of sA) hv, by rw [List.length_cons, List.length_append, List.length_map]; omega, Z01, IsThs.kp (Kp.of sq) hys, by rw [List.length_map]; omega, fun r H3 s3 hr3 => ?_⟩
       rw [Z9b nk] at hr3
       refine k _ _ (sA.trans s3) ?_
       rw [Z5f hw0]
       exact hr3
end
theorem Zfk {σ τ : Nat -> Th} : ∀ (n : Nat) {t : Th}, PfT n t -> (∀ i ∈ hs t, σ i = τ i) -> fl σ t = fl τ t := by
 intro n
 induction n with
 | zero => intro t h; exact h.elim
 | succ n ih =>
  intro t h e
  obtain ⟨w, hd, ks, rfl, h1, h2, h3, h4, h5, h6⟩ := h
  by_cases hw : w = "hole"
  ·subst hw
   obtain ⟨i, rfl, rfl⟩ := h4 rfl
   rw [Z1u, Z1u]
   exact e i (by rw [Z1o]; exact List.mem_singleton.mpr rfl)
  ·rw [Z5f hw, Z5f hw]
   refine congrArg (nd w hd) (List.map_congr_left fun k hk => ih (h6 k hk) fun i hi => e i ((Z2k hw).mpr ⟨k, hk, hi⟩))
theorem Zfl {σ : Nat -> Th} {m : Nat} : ∀ (n : Nat) {t : Th}, PfT n t -> (∀ i ∈ hs t, PfT m (σ i)) -> PfT (n + m) (fl σ t) := by
 intro n
 induction n with
 | zero => intro t h; exact h.elim
 | succ n ih =>
  intro t h e
  obtain ⟨w, hd, ks, rfl, h1, h2, h3, h4, h5, h6⟩ := h
  by_cases hw : w = "hole"
  ·subst hw
   obtain ⟨i, rfl, rfl⟩ := h4 rfl
   rw [Z1u]
   exact (e i (by rw [Z1o]; exact List.mem_singleton.mpr rfl)).le (by omega)
  ·rw [Z5f hw, Nat.add_right_comm]
   refine ⟨w, hd, _, rfl, h1, h2, fun z => ⟨(h3 z).1, by rw [List.length_map]; exact (h3 z).2⟩, fun z => absurd z hw, by rw [List.length_map]; exact h5, fun k hk => ?_⟩
   obtain ⟨y, hy, rfl⟩ := List.mem_map.mp hk
   exact ih (h6 y hy) fun i hi => e i ((Z2k hw).mpr ⟨y, hy, hi⟩)
theorem Zjv {σ : Nat -> Th} {j : Nat} : ∀ (n : Nat) {t : Th}, PfT n t -> (j ∈ hs (fl σ t) ↔ ∃ i ∈ hs t, j ∈ hs (σ i)) := by
 intro n
 induction n with
 | zero => intro t h; exact h.elim
 | succ n ih =>
  intro t h
  obtain ⟨w, hd, ks, rfl, h1, h2, h3, h4, h5, h6⟩ := h
  by_cases hw : w = "hole"
  ·subst hw
   obtain ⟨i, rfl, rfl⟩ := h4 rfl
   rw [Z1u, Z1o]
   simp
  ·rw [Z5f hw, Z2k hw]
   constructor
   ·rintro ⟨k, hk, hj⟩
    obtain ⟨y, hy, rfl⟩ := List.mem_map.mp hk
    obtain ⟨i, hi, h⟩ := (ih (h6 y hy)).mp hj
    exact ⟨i, (Z2k hw).mpr ⟨y, hy, hi⟩, h⟩
   ·rintro ⟨i, hi, h⟩
    obtain ⟨y, hy, hi⟩ := (Z2k hw).mp hi
    exact ⟨_, List.mem_map.mpr ⟨y, hy, rfl⟩, (ih (h6 y hy)).mpr ⟨i, hi, h⟩⟩
def hol (i : Nat) : Th := nd "hole" [.int (i : Nat)] []
theorem Z8e (i : Nat) : PfT 1 (hol i) := ⟨"hole", [.int (i : Nat)], [], rfl, Nat.le_refl _, fun v hv => by rw [List.mem_singleton] at hv; subst hv; rfl, fun z => absurd z (by decide +kernel), fun _ => ⟨i, rfl, rfl⟩, Nat.zero_le _, fun k hk => by cases hk⟩
theorem Zac {H : Hp} {p : Addr} {i : Nat} (h : H p = some (.tup [.str "hole", .int (i : Nat)])) : IsTh H (.ref p) (hol i) := .tup h (.cons (.at (by decide +kernel)) (.cons (.at rfl) .nil))
def Zad (N : Nat) : Sp := fun vs H Q _ => ∃ (v : V) (m : Nat) (t : Th), vs = [v, .int (m : Nat)] /\ IsTh H v t /\ PfT N t /\ (∀ i ∈ hs t, i < m) ∧
 ∀ (v' : V) H', Same H H' -> IsTh H' v' (fl (fun i => hol (m - 1 - i)) t) -> Q v' H'
theorem Zl0 : (["_law_many", "_law_one"] : List Str).Nodup := by decide +kernel
section
variable {P : Program} {w : World} {K : PySem.W.Frag} {mg : Str -> Option Value} {base : Heap}
theorem Zae : FnScope ["_law_b", "_law_many"] ["_law_b", "_law_many"] (Z03 Z4h) := ⟨rfl, rfl, rfl, by decide +kernel, rfl, by decide +kernel, by decide +kernel⟩
theorem Zdk {f fP fW : Addr} {fd dP dW : FuncData} (F : Fun K "_law_turned_about" "_law_turned_about" Z4h f fd) (b : Binds K fd ["_law_b", "_law_many"] []) (m : mg "_law_turned_about" = some (.ref f)) (U : HW K mg fP fW dP dW) : ∀ N, FnOk P w K mg base CX0 (N + 2) f fd ["_law_b", "_law_many"] (Zad N) := by
 have GP : FnOk P w K mg base CX0 1 fP dP ["_law_e"] spLawParts := Z2l U.P U.T U.KI
 have GW : FnOk P w K mg base CX0 1 fW dW ["_law_e", "_law_inner"] spWith := Z9a U.W U.T U.KI
 intro N
 induction N with
 | zero =>
  refine F.ok Zae (fun vs H Q E h => ?_) (fun cdv A outer s H vs Q E hr h => ?_)
  ·obtain ⟨v, m, t, rfl, _⟩ := h
   rfl
  ·obtain ⟨v, m, t, rfl, _, h, _⟩ := h
   exact h.elim
 | succ N ih =>
  refine F.ok Zae (fun vs H Q E h => ?_) (fun cdv A outer s H vs Q E hr h => ?_)
  ·obtain ⟨v, m, t, rfl, _⟩ := h
   rfl
  ·obtain ⟨v, mm, t, rfl, hv, hD, hin, k⟩ := h
   have hsz : sizeLine = 16777216 := sizeLine_eq
   have hr1 : Room 1 _ := hr.mono (by omega)
   refine' ⟨?tt, ?body, ?fin⟩
   case body =>
    refine' Z05 ?s1 (Z07 ?s2)
    case s1 =>
     refine' Z10 ?c (Z07 ?b) Z0k
     case c => exact Z0f Z1j (Z15 Z23 (pv 0) Z04 (fun _ _ => rfl)) Z0a (Z0o _)
     case b =>
      refine' Z0m ?r0
      case r0 =>
       refine' Z0z ?a0
       case a0 => exact Z1h Z0a (Z0d (Z0p Z36 (Z0p Z36 (pv 1) Z04) (Z15 Z23 (pv 0) Z04 (fun _ _ => rfl))) Z00)
    case s2 =>
     refine' Z0m ?r
     case r =>
      refine' Z06 GW hr1 (by rfl) U.mW U.W.kp U.bW .nil Z0n ?a
      case a =>
       refine' Z0i (pv 0) ?a2
       case a2 =>
        refine' Z0d ?c Z00
        case c =>
         refine' Z1z (N' := ["_law_many", "_law_one"]) (src := [some 1, none]) ?k1 ?k5 ?k6 ?k7
         case k1 => rfl
         case k5 => exact Z0s (Z03 Z4h) rfl ["_law_b", "_law_many"] rfl (by decide +kernel)
         case k6 => exact Z39 (Z06 GP hr1 (by rfl) U.mP U.P.kp U.bP .nil Z0n (Z0i (pv 0) Z00))
         case k7 => exact fun cl C ex s0 H0 => ⟨Z0x (i := 1) Zl0 rfl (Or.inl rfl), Z3b, Z06 ih hr (by rfl) m F.kp b .nil Z0n (Z0i (pv 1) (Z0i (pv 0) Z00))⟩
   case fin =>
    obtain ⟨w0, hd, ks, rfl, h1, h2, h3, h4, h5, h6⟩ := hD
    have nk : ∀ k ∈ ks, L2.isTup k = true := fun k hk => (h6 k hk).isTup
    obtain ⟨an, vns, rfl, han, hvns⟩ := Z1q hv
    cases hvns with
    | @cons vh vr _ _ c1 c2 =>
     obtain ⟨rfl, _⟩ := Z3d c1
     refine ⟨_, rfl, an, _, 0, .str w0, rfl, rfl, SqT.of han, Z2v _ _, rfl, _, rfl, Z1r (fun g2 => ?_) (fun g2 => ?_)⟩
     ·have hw0 : w0 = "hole" := by
       have g' := of_decide_eq_true g2
       injection g'
      subst hw0
      obtain ⟨i, rfl, rfl⟩ := h4 rfl
      cases c2 with
      | @cons vi vr2 _ _ c3 c4 =>
       cases c4
       obtain ⟨rfl, _⟩ := Z3d c3
       have hi : i < mm := hin i (by rw [Z1o]; exact List.mem_singleton.mpr rfl)
       refine ⟨_, rfl, _, _, rfl, rfl, _, rfl, an, _, 1, .int (i : Nat), rfl, rfl, SqT.of han, Z2w _ _ _, _, _, rfl, rfl, (by show 2 <= sizeLine; decide), fun p hp => ?_⟩
       refine k _ _ (Z02 hp) ?_
       rw [Z1u]
       refine Zac ?_
       rw [Z01]
       show some (HO.tup [.str "hole", .int (((mm : Nat) : Int) - 1 - ((i : Nat) : Int))]) = _
       rw [show ((mm : Nat) : Int) - 1 - ((i : Nat) : Int) = ((mm - 1 - i : Nat) : Int) by omega]
     ·have hw0 : w0 ≠ "hole" := fun z => g2 (by rw [z]; decide +kernel)
      refine ⟨_, rfl, _, rfl, .ref an, w0, hd.map Th.at ++ ks, rfl, hv, by rw [List.length_append, List.length_map]; omega, fun p ps H1 s1 hp0 hp hps => ?_⟩
      rw [Z74 nk] at hps
      have hl := IsThs.len _ hps
      refine ⟨p, rfl, ⟨_, SqL.of hp⟩, Z2r (K := K) (a := p) (xs := ps) (fun i ys σc H' => ∃ (o : Option V), σc = [some (.int (mm : Nat)), o] /\ ys.length = i /\ IsThs H' ys ((ks.take i).map (fl fun i => hol (mm - 1 - i))) /\ Same H1 H')
       ⟨none, rfl, rfl, by rw [List.take_zero]; exact .nil, Same.refl _⟩ (fun i ys σc H' ⟨_, _, _, _, e⟩ => SqL.of (e _ _ hp)) ?_ ?_⟩
      ·rintro i x ys σc H' hx hi ⟨o, rfl, hyl, hys, s2⟩
       obtain ⟨t, ht, hxt⟩ := Z1i _ hps hx
       have htk := List.mem_of_getElem? ht
       refine ⟨by omega, ?_⟩
       refine ⟨_, rfl, _, rfl, x, mm, t, rfl, IsTh.kp (Kp.of s2) hxt, h6 t htk, fun j hj => hin j ((Z2k hw0).mpr ⟨t, htk, hj⟩), fun v' H2 s3 hv' => nx hi ⟨_, rfl, by rw [List.length_append, hyl]; rfl, ?_, s2.trans s3⟩⟩
       rw [List.take_add_one, ht, List.map_append]
       exact IsThs.app _ (IsThs.kp (Kp.of s3) hys) (.cons hv' .nil)
      ·rintro ys σc H' ⟨o, rfl, hyl, hys, s2⟩ q hq
       rw [List.take_of_length_le (by omega)] at hys
       have sq := Z02 (o := .lst ys) hq
       have sA := (s1.trans s2).trans sq
       refine ⟨.ref an, q, _, _, ys, rfl, IsTh.kp (Kp.of sA) hv, by rw [List.length_cons, List.length_append, List.length_map]; omega, Z01, IsThs.kp (Kp.of sq) hys, by rw [List.length_map]; omega, fun r H3 s3 hr3 => ?_⟩
       rw [Z9b nk] at hr3
       refine k _ _ (sA.trans s3) ?_
       rw [Z5f hw0]
       exact hr3
end
theorem few {ks : List Nat} {m : Nat} (nd : ks.Nodup) (h : ∀ i ∈ ks, i < m) : ks.length <= m := by
 have p : ks.Perm ((List.range m).filter fun i => decide (i ∈ ks)) := (List.perm_ext_iff_of_nodup nd (List.nodup_range.filter _)).mpr fun i => by
  rw [List.mem_filter, List.mem_range, decide_eq_true_eq]
  exact ⟨fun z => ⟨h i z, z⟩, fun z => z.2⟩
 rw [p.length_eq]
 have := List.length_filter_le (fun i => decide (i ∈ ks)) (List.range m)
 rw [List.length_range] at this
 exact this
mutual
theorem Z8f {H H' : Hp} {a : Addr} {xs : List V} (h : H a = some (.lst xs)) (b : But a H H') : ∀ {v : V} {t : Th}, IsTh H v t -> plT t = true -> IsTh H' v t
 | _, _, .at f, _ => .at f
 | _, _, .tup e r, p => by
  rw [plT] at p
  exact .tup (b _ _ e (Z44 e h (by intro q; cases q))) (Z75 h b r p)
 | _, _, .lst e r, p => by rw [plT] at p; cases p
theorem Z75 {H H' : Hp} {a : Addr} {xs : List V} (h : H a = some (.lst xs)) (b : But a H H') : ∀ {vs : List V} {ts : List Th}, IsThs H vs ts -> Z5t ts = true -> IsThs H' vs ts
 | _, _, .nil, _ => .nil
 | _, _, .cons e r, p => by
  rw [Z5t, Bool.and_eq_true] at p
  exact .cons (Z8f h b e p.1) (Z75 h b r p.2)
end
abbrev iv (S : List Nat) : List V := S.map fun (i : Nat) => V.int (i : Nat)
theorem Zaf (i : Nat) (S : List Nat) : inV (.int (i : Nat)) (iv S) = true ↔ i ∈ S := by
 unfold inV iv
 rw [List.any_map, List.any_eq_true]
 constructor
 ·rintro ⟨y, hy, e⟩
  have e' : (((y : Nat) : Int) == ((i : Nat) : Int)) = true := e
  have := beq_iff_eq.mp e'
  rw [show i = y by omega]
  exact hy
 ·intro h
  exact ⟨i, h, beq_self_eq_true _⟩
theorem Zdl (S : List Nat) : (iv S).all Z3k = true := by
 unfold iv
 rw [List.all_map]
 exact List.all_eq_true.mpr fun _ _ => rfl
theorem Zdm (i : Nat) : ∀ (l : List Nat) (m : Nat), m < l.idxOf i -> l[m]? ≠ some i := by
 intro l
 induction l with
 | nil => intro m h; simp at h
 | cons x l ih =>
  intro m h
  rw [List.idxOf_cons] at h
  by_cases e : x = i
  ·subst e
   simp at h
  ·rw [show (x == i) = false by simpa using e] at h
   cases m with
   | zero => simpa using e
   | succ m => rw [List.getElem?_cons_succ]; exact ih m (by simpa using h)
def ix (S : List Nat) (i : Nat) : Th := hol (S.idxOf i)
theorem Zi1 {S R : List Nat} {i : Nat} (h : i ∈ S) : ix (S ++ R) i = ix S i := by
 unfold ix
 rw [List.idxOf_append, if_pos h]
theorem Zi2 (S : List Nat) (i : Nat) : PfT 1 (ix S i) := Z8e _
theorem Zl1 {σ : Nat -> Th} {n : Nat} {t : Th} (h : PfT n t) (hσ : ∀ i ∈ hs t, PfT 1 (σ i)) : plT (fl σ t) = true := (Zfl n h hσ).pl
def Zdn (N : Nat) : Sp := fun vs H Q _ => ∃ (v : V) (sa : Addr) (t : Th) (S : List Nat), vs = [v, .ref sa] /\ IsTh H v t /\ PfT N t /\ H sa = some (.lst (iv S)) /\ S.Nodup /\ (∀ i ∈ S, i < 1000) /\ (∀ i ∈ hs t, i < 1000) ∧
 ∀ (v' : V) (R : List Nat) H', But sa H H' -> H' sa = some (.lst (iv (S ++ R))) -> (S ++ R).Nodup -> (∀ i ∈ hs t, i ∈ S ++ R) -> (∀ i ∈ R, i ∈ hs t) -> IsTh H' v' (fl (ix (S ++ R)) t) -> Q v' H'
theorem Zl2 : (["_law_part", "_law_seen"] : List Str).Nodup := by decide +kernel
section
variable {P : Program} {w : World} {K : PySem.W.Frag} {mg : Str -> Option Value} {base : Heap}
theorem Zdo : FnScope ["_law_b", "_law_seen"] ["_law_b", "_law_seen"] (Z03 Z6d) := ⟨rfl, rfl, rfl, by decide +kernel, rfl, by decide +kernel, by decide +kernel⟩
theorem Zfm {f fP fW : Addr} {fd dP dW : FuncData} (F : Fun K "_law_dense" "_law_dense" Z6d f fd) (b : Binds K fd ["_law_b", "_law_seen"] []) (m : mg "_law_dense" = some (.ref f)) (U : HW K mg fP fW dP dW) : ∀ N, FnOk P w K mg base CX0 (N + 2) f fd ["_law_b", "_law_seen"] (Zdn N) := by
 have GP : FnOk P w K mg base CX0 1 fP dP ["_law_e"] spLawParts := Z2l U.P U.T U.KI
 have GW : FnOk P w K mg base CX0 1 fW dW ["_law_e", "_law_inner"] spWith := Z9a U.W U.T U.KI
 intro N
 induction N with
 | zero =>
  refine F.ok Zdo (fun vs H Q E h => ?_) (fun cdv A outer s H vs Q E hr h => ?_)
  ·obtain ⟨v, sa, t, S, rfl, _⟩ := h
   rfl
  ·obtain ⟨v, sa, t, S, rfl, _, h, _⟩ := h
   exact h.elim
 | succ N ih =>
  refine F.ok Zdo (fun vs H Q E h => ?_) (fun cdv A outer s H vs Q E hr h => ?_)
  ·obtain ⟨v, sa, t, S, rfl, _⟩ := h
   rfl
  ·obtain ⟨v, sa, t, S, rfl, hv, hD, hS, hnd, hlt, hlt2, k⟩ := h
   have hsz : sizeLine = 16777216 := sizeLine_eq
   have hr1 : Room 1 _ := hr.mono (by omega)
   have hSl : S.length <= 1000 := few hnd hlt
   refine' ⟨?tt, ?body, ?fin⟩
   case body =>
    refine' Z05 ?s1 (Z07 ?s2)
    case s1 =>
     refine' Z10 ?c (Z0r ?b1 (Z07 ?b2)) Z0k
     case c => exact Z0f Z1j (Z15 Z23 (pv 0) Z04 (fun _ _ => rfl)) Z0a (Z0o _)
     case b1 =>
      refine' Z10 ?c2 (Z07 ?b3) Z0k
      case c2 => exact Z0f Z7q (Z15 Z23 (pv 0) Z04 (fun _ _ => rfl)) (pv 1) (by with_unfolding_all rfl)
      case b3 => exact Z2o (Z7s PySem.F.plainAttrs_list PySem.F.slot_list_append PySem.F.type_list_append Z2b (pv 1) (Z0d (Z15 Z23 (pv 0) Z04 (fun _ _ => rfl)) Z00))
     case b2 =>
      refine' Z0m ?r0
      case r0 =>
       refine' Z0z ?a0
       case a0 => exact Z1h Z0a (Z0d (Z7s PySem.F.plainAttrs_list PySem.F.slot_list_index PySem.F.type_list_index Zfa (pv 1) (Z0d (Z15 Z23 (pv 0) Z04 (fun _ _ => rfl)) Z00)) Z00)
    case s2 =>
     refine' Z0m ?r
     case r =>
      refine' Z06 GW hr1 (by rfl) U.mW U.W.kp U.bW .nil Z0n ?a
      case a =>
       refine' Z0i (pv 0) ?a2
       case a2 =>
        refine' Z0d ?c Z00
        case c =>
         refine' Z1z (N' := ["_law_part", "_law_seen"]) (src := [none, some 1]) ?k1 ?k5 ?k6 ?k7
         case k1 => rfl
         case k5 => exact Z0s (Z03 Z6d) rfl ["_law_b", "_law_seen"] rfl (by decide +kernel)
         case k6 => exact Z39 (Z06 GP hr1 (by rfl) U.mP U.P.kp U.bP .nil Z0n (Z0i (pv 0) Z00))
         case k7 => exact fun cl C ex s0 H0 => ⟨Z0x (i := 0) Zl2 rfl (Or.inl rfl), Z3b, Z06 ih hr (by rfl) m F.kp b .nil Z0n (Z0i (pv 0) (Z0i (pv 1) Z00))⟩
   case fin =>
    obtain ⟨w0, hd, ks, rfl, h1, h2, h3, h4, h5, h6⟩ := hD
    have nk : ∀ k ∈ ks, L2.isTup k = true := fun k hk => (h6 k hk).isTup
    obtain ⟨an, vns, rfl, han, hvns⟩ := Z1q hv
    have hns : an ≠ sa := Z44 han hS (by intro q; cases q)
    cases hvns with
    | @cons vh vr _ _ c1 c2 =>
     obtain ⟨rfl, _⟩ := Z3d c1
     refine ⟨_, rfl, an, _, 0, .str w0, rfl, rfl, SqT.of han, Z2v _ _, rfl, _, rfl, Z1r (fun g2 => ?_) (fun g2 => ?_)⟩
     ·have hw0 : w0 = "hole" := by
       have g' := of_decide_eq_true g2
       injection g'
      subst hw0
      obtain ⟨i, rfl, rfl⟩ := h4 rfl
      cases c2 with
      | @cons vi vr2 _ _ c3 c4 =>
       cases c4
       obtain ⟨rfl, _⟩ := Z3d c3
       refine ⟨fun σ' H' => ∃ R, σ' = [some (.ref an), some (.ref sa)] /\ But sa H H' /\ H' sa = some (.lst (iv (S ++ R))) /\ (S ++ R).Nodup /\ i ∈ S ++ R /\ ∀ j ∈ R, j = i, ?_, ?_⟩
       ·refine ⟨_, rfl, an, _, 1, .int (i : Nat), rfl, rfl, SqT.of han, Z2w _ _ _, _, rfl, sa, iv S, rfl, .inl (SqL.of hS), rfl, Zdl S, _, rfl, Z1r (fun g => ?_) (fun g => ?_)⟩
        ·have hno : i ∉ S := fun z => by
          have g' : (!inV (.int (i : Nat)) (iv S)) = true := g
          rw [(Zaf i S).mpr z] at g'
          cases g'
         refine ⟨_, rfl, .inl ⟨rfl, _, SqL.of hS⟩, _, rfl, an, _, 1, .int (i : Nat), rfl, rfl, SqT.of han, Z2w _ _ _, sa, iv S, .int (i : Nat), rfl, rfl, hS, by rw [List.length_map]; omega, [i], rfl, But.upd, ?_, ?_, List.mem_append_right _ (List.mem_singleton.mpr rfl), fun j hj => List.mem_singleton.mp hj⟩
         ·rw [Z01]
          unfold iv
          rw [List.map_append]
          rfl
         ·rw [List.nodup_append]
          refine ⟨hnd, by simp, fun a ha b hb => ?_⟩
          rw [List.mem_singleton] at hb
          subst hb
          exact fun z => hno (z ▸ ha)
        ·have hyes : i ∈ S := by
          refine (Zaf i S).mp ?_
          cases e : inV (.int (i : Nat)) (iv S) with
          | true => rfl
          | false => exact absurd (by rw [e]; rfl) g
         exact ⟨[], rfl, But.refl _ _, by rw [List.append_nil]; exact hS, by rw [List.append_nil]; exact hnd, by rw [List.append_nil]; exact hyes, fun j hj => by cases hj⟩
       ·rintro σ1 H1 ⟨R, rfl, b1, hS1, hnd1, hi1, hR⟩
        have han1 := b1 _ _ han hns
        refine ⟨_, rfl, .inl ⟨rfl, _, SqL.of hS1⟩, _, rfl, an, _, 1, .int (i : Nat), rfl, rfl, SqT.of han1, Z2w _ _ _, sa, (S ++ R).map (fun (i : Nat) => (i : Int)), (i : Nat), (S ++ R).idxOf i, rfl, rfl, ?_, ?_, ?_, (by show 2 <= sizeLine; decide), fun p hp => ?_⟩
        ·rw [hS1, List.map_map]
         rfl
        ·rw [List.getElem?_map, List.getElem?_eq_getElem (List.idxOf_lt_length_iff.mpr hi1), List.getElem_idxOf]
         rfl
        ·intro m hm e
         rw [List.getElem?_map, List.getElem?_eq_getElem (Nat.lt_trans hm (List.idxOf_lt_length_iff.mpr hi1))] at e
         have e' : (((S ++ R)[m]'(Nat.lt_trans hm (List.idxOf_lt_length_iff.mpr hi1)) : Nat) : Int) = ((i : Nat) : Int) := by simpa using e
         have e2 : (S ++ R)[m]'(Nat.lt_trans hm (List.idxOf_lt_length_iff.mpr hi1)) = i := by omega
         exact Zdm i (S ++ R) m hm (by rw [List.getElem?_eq_getElem (Nat.lt_trans hm (List.idxOf_lt_length_iff.mpr hi1)), e2])
        ·have sp := Z02 (o := .tup [.str "hole", .int (((S ++ R).idxOf i : Nat) : Int)]) hp
         refine k _ R _ (b1.trans (But.of sp)) (sp _ _ hS1) hnd1 (fun j hj => ?_) (fun j hj => ?_) ?_
         ·rw [Z1o, List.mem_singleton] at hj
          rw [hj]
          exact hi1
         ·rw [Z1o, hR j hj]
          exact List.mem_singleton.mpr rfl
         ·rw [Z1u]
          exact Zac Z01
     ·have hw0 : w0 ≠ "hole" := fun z => g2 (by rw [z]; decide +kernel)
      refine ⟨_, rfl, _, rfl, .ref an, w0, hd.map Th.at ++ ks, rfl, hv, by rw [List.length_append, List.length_map]; omega, fun p ps H1 s1 hp0 hp hps => ?_⟩
      rw [Z74 nk] at hps
      have hl := IsThs.len _ hps
      have hS1 := s1 _ _ hS
      have hpsa : p ≠ sa := fun z => by rw [z, hS] at hp0; cases hp0
      refine ⟨p, rfl, ⟨_, SqL.of hp⟩, Z2r (K := K) (a := p) (xs := ps) (fun i ys σc H' => ∃ (o : Option V) (R : List Nat), σc = [o, some (.ref sa)] /\ ys.length = i /\ But sa H1 H' /\ H' sa = some (.lst (iv (S ++ R))) /\ (S ++ R).Nodup /\ (∀ t ∈ ks.take i, ∀ j ∈ hs t, j ∈ S ++ R) /\ (∀ j ∈ R, ∃ t ∈ ks, j ∈ hs t) /\ IsThs H' ys ((ks.take i).map (fl (ix (S ++ R)))))
       ⟨none, [], rfl, rfl, But.refl _ _, by rw [List.append_nil]; exact hS1, by rw [List.append_nil]; exact hnd, fun t ht => (by rw [List.take_zero] at ht; cases ht), fun j hj => (by cases hj), by rw [List.take_zero]; exact .nil⟩ (fun i ys σc H' ⟨_, _, _, _, e, _⟩ => SqL.of (e _ _ hp hpsa)) ?_ ?_⟩
      ·rintro i x ys σc H' hx hi ⟨o, R, rfl, hyl, b2, hS2, hnd2, hc1, hc2, hys⟩
       obtain ⟨t, ht, hxt⟩ := Z1i _ hps hx
       have htk := List.mem_of_getElem? ht
       refine ⟨by omega, ?_⟩
       refine ⟨_, rfl, _, rfl, x, sa, t, S ++ R, rfl, Z8f hS1 b2 hxt (h6 t htk).pl, h6 t htk, hS2, hnd2, fun j hj => ?_, fun j hj => hlt2 j ((Z2k hw0).mpr ⟨t, htk, hj⟩), fun v' R2 H2 b3 hS3 hnd3 q1 q2 hv' => ?_⟩
       ·rcases List.mem_append.mp hj with z | z
        ·exact hlt j z
        ·obtain ⟨t2, ht2, hj2⟩ := hc2 j z
         exact hlt2 j ((Z2k hw0).mpr ⟨t2, ht2, hj2⟩)
       ·rw [List.append_assoc] at hS3 hnd3 q1 hv'
        refine nx hi ⟨_, R ++ R2, rfl, by rw [List.length_append, hyl]; rfl, b2.trans b3, hS3, hnd3, ?_, ?_, ?_⟩
        ·intro t' ht' j hj
         rw [List.take_add_one, ht] at ht'
         rcases List.mem_append.mp ht' with z | z
         ·have := hc1 t' z j hj
          rw [<- List.append_assoc]
          exact List.mem_append_left _ this
         ·have z' : t' = t := by simpa using z
          subst z'
          exact q1 j hj
        ·intro j hj
         rcases List.mem_append.mp hj with z | z
         ·exact hc2 j z
         ·exact ⟨t, htk, q2 j z⟩
        ·rw [List.take_add_one, ht, List.map_append]
         refine IsThs.app _ ?_ (.cons hv' .nil)
         have e : (ks.take i).map (fl (ix (S ++ (R ++ R2)))) = (ks.take i).map (fl (ix (S ++ R))) := by
          refine List.map_congr_left fun t' ht' => Zfk N (h6 t' (List.mem_of_mem_take ht')) fun j hj => ?_
          rw [<- List.append_assoc]
          exact Zi1 (hc1 t' ht' j hj)
         rw [e]
         refine Z75 hS2 b3 hys (Z2j fun y hy => ?_)
         obtain ⟨t', ht', rfl⟩ := List.mem_map.mp hy
         exact Zl1 (h6 t' (List.mem_of_mem_take ht')) fun j _ => Zi2 _ _
      ·rintro ys σc H' ⟨o, R, rfl, hyl, b2, hS2, hnd2, hc1, hc2, hys⟩ q hq
       rw [List.take_of_length_le (by omega)] at hys hc1
       have sq := Z02 (o := .lst ys) hq
       have hv2 := Z8f hS1 b2 (IsTh.kp (Kp.of s1) hv) (PfT.pl (N + 1) ⟨w0, hd, ks, rfl, h1, h2, h3, h4, h5, h6⟩)
       refine ⟨.ref an, q, _, _, ys, rfl, IsTh.kp (Kp.of sq) hv2, by rw [List.length_cons, List.length_append, List.length_map]; omega, Z01, IsThs.kp (Kp.of sq) hys, by rw [List.length_map]; omega, fun r H3 s3 hr3 => ?_⟩
       rw [Z9b nk] at hr3
       refine k _ R _ (((But.of s1).trans b2).trans (But.of (sq.trans s3))) (s3 _ _ (sq _ _ hS2)) hnd2 (fun j hj => ?_) (fun j hj => ?_) ?_
       ·obtain ⟨t, ht, hj2⟩ := (Z2k hw0).mp hj
        exact hc1 t ht j hj2
       ·exact (Z2k hw0).mpr (hc2 j hj)
       ·rw [Z5f hw0]
        exact hr3
end
structure KS (K : PySem.W.Frag) : Prop where
 is : PySem.W.kitOne K (.type "int") (.type "str") = some false
 ss : PySem.W.kitOne K (.type "str") (.type "str") = some true
structure TxtA (mg : Str -> Option Value) : Prop where
 str : mg "str" = none
 all : mg "all" = none
 any : mg "any" = none
 range : mg "range" = none
def Zgp (N : Nat) : Sp := fun vs H Q _ => ∃ (v v' : V) (t : Th), vs = [v, v'] /\ IsTh H v t /\ IsTh H v' t /\ plT t = true /\ dp t < N /\ Th.sz t <= 1000000 /\ ∀ H', Same H H' -> Q (.bl true) H'
theorem Zjw : (["_law_due", "_law_found", "_law_k"] : List Str).Nodup := by decide +kernel
theorem Zfn : ∀ {ts : List Th} {t : Th}, Z5t ts = true -> t ∈ ts -> plT t = true := by
 intro ts
 induction ts with
 | nil => intro t _ h; cases h
 | cons x ts ih =>
  intro t p h
  rw [Z5t, Bool.and_eq_true] at p
  rcases List.mem_cons.mp h with rfl | h
  ·exact p.1
  ·exact ih p.2 h
theorem Zi3 : ∀ {ts : List Th} {t : Th}, t ∈ ts -> dp t <= dps ts := by
 intro ts
 induction ts with
 | nil => intro t h; cases h
 | cons x ts ih =>
  intro t h
  rw [dps]
  rcases List.mem_cons.mp h with rfl | h
  ·exact Nat.le_max_left _ _
  ·exact Nat.le_trans (ih h) (Nat.le_max_right _ _)
theorem Zag {vs : List V} {i : Nat} {x : V} (h : vs[i]? = some x) : atI vs (0 + (i : Int)) = some x := by
 rw [Int.zero_add]
 exact Z2h h
section
variable {P : Program} {w : World} {K : PySem.W.Frag} {mg : Str -> Option Value} {base : Heap}
theorem Zgq : FnScope ["_law_found", "_law_due"] ["_law_found", "_law_due"] (Z03 Zba) := ⟨rfl, rfl, rfl, by decide +kernel, rfl, by decide +kernel, by decide +kernel⟩
theorem Zi4 {f : Addr} {fd : FuncData} (F : Fun K "_law_same" "_law_same" Zba f fd) (b : Binds K fd ["_law_found", "_law_due"] []) (m : mg "_law_same" = some (.ref f)) (T : TxtT mg) (TA : TxtA mg) (KI : Kits K) (KS : KS K) : ∀ N, FnOk P w K mg base CX0 (N + 1) f fd ["_law_found", "_law_due"] (Zgp N) := by
 intro N
 induction N with
 | zero =>
  refine F.ok Zgq (fun vs H Q E h => ?_) (fun cdv A outer s H vs Q E hr h => ?_)
  ·obtain ⟨v, v', t, rfl, _⟩ := h
   rfl
  ·obtain ⟨v, v', t, rfl, _, _, _, h, _⟩ := h
   exact absurd h (Nat.not_lt_zero _)
 | succ N ih =>
  refine F.ok Zgq (fun vs H Q E h => ?_) (fun cdv A outer s H vs Q E hr h => ?_)
  ·obtain ⟨v, v', t, rfl, _⟩ := h
   rfl
  ·obtain ⟨v, v', t, rfl, hv, hv', hp, hd, hz, k⟩ := h
   have hsz : sizeLine = 16777216 := sizeLine_eq
   refine' ⟨?tt, ?body, ?fin⟩
   case body =>
    refine' Z05 ?s1 (Z05 ?s2 (Z07 ?s3))
    case s1 =>
     refine' Z10 ?c (Z07 ?b1) Z0k
     case c => exact Z1f (Z0b Z14 (by rfl) T.isi (by decide +kernel) (Z0i (pv 1) (Z0i (Z1n (v := .ty "tuple") (by rfl) T.tup (by decide +kernel) rfl) Z00)))
     case b1 =>
      refine' Z0m ?r
      case r =>
       refine' Z7j ?x (Z7j ?y (Zbw ?z))
       case x => exact Z0b Z14 (by rfl) T.isi (by decide +kernel) (Z0i (pv 0) (Z0i (Z1n (v := .ty "tuple") (by rfl) T.tup (by decide +kernel) rfl) Z00))
       case y => exact Z4y Z1j (Z0b Z0l (by rfl) T.len PySem.boot_len (Z0i (pv 0) Z00)) (Z0b Z0l (by rfl) T.len PySem.boot_len (Z0i (pv 1) Z00)) (Z0o _)
       case z =>
        refine' Z0b (Z8x rfl) (by rfl) TA.all (by decide +kernel) ?a
        case a =>
         refine' Z0d ?c Z00
         case c =>
          refine' Z1z (N' := ["_law_due", "_law_found", "_law_k"]) (src := [some 1, some 0, none]) ?k1 ?k5 ?k6 ?k7
          case k1 => rfl
          case k5 => exact Z0s (Z03 Zba) rfl ["_law_found", "_law_due"] rfl (by decide +kernel)
          case k6 => exact Z28 (by rfl) TA.range (Z4c (Z0b Z0l (by rfl) T.len PySem.boot_len (Z0i (pv 1) Z00)) Z00)
          case k7 => exact fun cl C ex s0 H0 => ⟨Z0x (i := 2) Zjw rfl (Or.inl rfl), Z3b, Z06 ih hr (by rfl) m F.kp b .nil Z0n (Z0d (Z15 (Z6s (K := K) rfl) (pv 1) (pv 2) (fun _ _ => rfl)) (Z0d (Z15 (Z6s (K := K) rfl) (pv 0) (pv 2) (fun _ _ => rfl)) Z00))⟩
    case s2 =>
     refine' Z10 ?c (Z07 ?b1) Z0k
     case c => exact Z1f (Z0b Z14 (by rfl) T.isi (by decide +kernel) (Z0i (pv 1) (Z0i (Z1n (v := .ty "str") (by rfl) TA.str (by decide +kernel) rfl) Z00)))
     case b1 => exact Z0m (Z7j (Z0b Z14 (by rfl) T.isi (by decide +kernel) (Z0i (pv 0) (Z0i (Z1n (v := .ty "str") (by rfl) TA.str (by decide +kernel) rfl) Z00))) (Zbw (Z4y Z1j (pv 0) (pv 1) (Z0o _))))
    case s3 =>
     refine' Z0m ?r
     case r =>
      refine' Z7j ?x (Z7j ?y (Zbw ?z))
      case x => exact Z4y Z1j (Z0b Z14 (by rfl) T.isi (by decide +kernel) (Z0i (pv 0) (Z0i (Z1n (v := .ty "bool") (by rfl) T.bl (by decide +kernel) rfl) Z00))) (Z0b Z14 (by rfl) T.isi (by decide +kernel) (Z0i (pv 1) (Z0i (Z1n (v := .ty "bool") (by rfl) T.bl (by decide +kernel) rfl) Z00))) (Z0o _)
      case y => exact Z4y Z1j (Z0b Z14 (by rfl) T.isi (by decide +kernel) (Z0i (pv 0) (Z0i (Z1n (v := .ty "int") (by rfl) T.int (by decide +kernel) rfl) Z00))) (Z0b Z14 (by rfl) T.isi (by decide +kernel) (Z0i (pv 1) (Z0i (Z1n (v := .ty "int") (by rfl) T.int (by decide +kernel) rfl) Z00))) (Z0o _)
      case z => exact Z4y Z1j (pv 0) (pv 1) (Z0o _)
   case fin =>
    refine ⟨_, rfl, _, _, _, _, rfl, Z4d hv', KI.tup hv', _, rfl, Z1r (fun g => ?_) (fun g => ?_)⟩
    ·obtain ⟨ts, rfl⟩ : ∃ ts, t = .tup ts := by
      cases t with
      | tup ts => exact ⟨ts, rfl⟩
      | «at» v => cases g
      | lst v => cases g
     obtain ⟨a, vs, rfl, ha, hvs⟩ := Z1q hv
     obtain ⟨a', vs', rfl, ha', hvs'⟩ := Z1q hv'
     have l1 := IsThs.len _ hvs
     have l2 := IsThs.len _ hvs'
     rw [plT] at hp
     rw [dp] at hd
     have zl := Z8z ts
     have ez : Th.sz (.tup ts) = 1 + szs ts := by rw [Th.sz]
     refine ⟨_, rfl, _, _, _, _, rfl, Z4d hv, KI.tup hv, _, rfl, Zej ?_⟩
     refine ⟨_, rfl, a, vs, rfl, .inr (SqT.of ha), _, rfl, a', vs', rfl, .inr (SqT.of ha'), rfl, _, rfl, Z1r (fun g2 => ?_) (fun g2 => absurd (by rw [l1, l2]; simp) g2)⟩
     refine ⟨_, rfl, a', vs', rfl, .inr (SqT.of ha'), _, rfl, by omega, by omega, Z68 (lo := 0) (n := vs'.length) (fun i ys σc H' => ∃ (o : Option V) (bs : List Bool), σc = [some (.ref a'), some (.ref a), o] /\ ys = bs.map V.bl /\ bs.length = i /\ (∀ x ∈ bs, x = true) /\ Same H H') ⟨none, [], rfl, rfl, rfl, fun x hx => (by cases hx), Same.refl _⟩ ?_ ?_⟩
     ·rintro i ys σc H' hi ⟨o, bs, rfl, rfl, hbl, hall, s2⟩
      refine ⟨by rw [List.length_map]; omega, ?_⟩
      have hit : ts[i]? = some (ts[i]'(by omega)) := List.getElem?_eq_getElem (by omega)
      obtain ⟨x, hx, hxt⟩ := Zcq _ hvs hit
      obtain ⟨y, hy, hyt⟩ := Zcq _ hvs' hit
      have hm : ts[i]'(by omega) ∈ ts := List.getElem_mem _
      have hd2 := Zi3 hm
      have hz2 := Zgh ts _ hm
      refine ⟨_, rfl, _, rfl, a, vs, 0 + (i : Int), x, rfl, rfl, SqT.of (s2 _ _ ha), Zag hx, _, rfl, _, rfl, a', vs', 0 + (i : Int), y, rfl, rfl, SqT.of (s2 _ _ ha'), Zag hy, x, y, _, rfl, IsTh.kp (Kp.of s2) hxt, IsTh.kp (Kp.of s2) hyt, Zfn hp hm, by omega, by omega, fun H2 s3 => ?_⟩
      refine nx hi ⟨_, bs ++ [true], rfl, by rw [List.map_append]; rfl, by rw [List.length_append, hbl]; rfl, fun x hx => ?_, s2.trans s3⟩
      rcases List.mem_append.mp hx with z | z
      ·exact hall x z
      ·exact List.mem_singleton.mp z
     ·rintro ys σc H' ⟨o, bs, rfl, rfl, hbl, hall, s2⟩ q hq
      refine ⟨q, bs, rfl, SqL.of Z01, ?_⟩
      rw [show bs.all id = true from List.all_eq_true.mpr fun x hx => hall x hx]
      exact k _ (s2.trans (Z02 hq))
    ·cases t with
     | tup ts => exact absurd rfl g
     | lst ts => rw [plT] at hp; cases hp
     | «at» u =>
      obtain ⟨rfl, _⟩ := Z3d hv
      obtain ⟨rfl, _⟩ := Z3d hv'
      cases v' with
      | int i =>
       refine ⟨_, rfl, _, _, _, _, rfl, Z4d hv', KS.is, _, rfl, Z46 ?_⟩
       refine ⟨_, rfl, _, _, _, _, rfl, Z4d hv, KI.bl hv, _, rfl, _, _, _, _, rfl, Z4d hv', KI.bl hv', rfl, _, rfl, Zej ?_⟩
       refine ⟨_, rfl, _, _, _, _, rfl, Z4d hv, KI.int hv, _, rfl, _, _, _, _, rfl, Z4d hv', KI.int hv', rfl, _, rfl, Zej ?_⟩
       refine ⟨_, rfl, _, rfl, rfl, ?_⟩
       rw [decide_eq_true rfl]
       exact k H (Same.refl _)
      | str x =>
       refine ⟨_, rfl, _, _, _, _, rfl, Z4d hv', KS.ss, _, rfl, Zej ?_⟩
       refine ⟨_, rfl, _, _, _, _, rfl, Z4d hv, KS.ss, _, rfl, Zej ?_⟩
       refine ⟨_, rfl, _, rfl, rfl, ?_⟩
       rw [decide_eq_true rfl]
       exact k H (Same.refl _)
      | _ => simp [plT] at hp
end
theorem Zbg {w : Str} {hd : List V} {ks : List Th} : Th.sz (nd w hd ks) = 1 + (1 + (szs (hd.map Th.at) + szs ks)) := by
 unfold nd
 rw [Th.sz, szs, Zhb, Th.sz]
def Z0q (nm : Addr) (r h s : Int) (bg : Addr) : List (Key × V) := [(Sum.inr "names", .ref nm), (Sum.inr "room", .int r), (Sum.inr "holes", .int h), (Sum.inr "astray", .int s), (Sum.inr "bag", .ref bg)]
section
variable {H : Hp} {wd nm bg : Addr} {r h s q : Int}
theorem Z4l (e : H wd = some (.dK (Z0q nm r h s bg))) : DGet H wd (.str "names") (some (.ref nm)) := by
 have z := DGet.k (k := Sum.inr "names") e
 rw [show Z6o (Z0q nm r h s bg) (Sum.inr "names") = some (.ref nm) by with_unfolding_all rfl] at z
 exact z
theorem Z3z (e : H wd = some (.dK (Z0q nm r h s bg))) : DGet H wd (.str "room") (some (.int r)) := by
 have z := DGet.k (k := Sum.inr "room") e
 rw [show Z6o (Z0q nm r h s bg) (Sum.inr "room") = some (.int r) by with_unfolding_all rfl] at z
 exact z
theorem Z6f (e : H wd = some (.dK (Z0q nm r h s bg))) : DGet H wd (.str "holes") (some (.int h)) := by
 have z := DGet.k (k := Sum.inr "holes") e
 rw [show Z6o (Z0q nm r h s bg) (Sum.inr "holes") = some (.int h) by with_unfolding_all rfl] at z
 exact z
theorem Z5l (e : H wd = some (.dK (Z0q nm r h s bg))) : DGet H wd (.str "astray") (some (.int s)) := by
 have z := DGet.k (k := Sum.inr "astray") e
 rw [show Z6o (Z0q nm r h s bg) (Sum.inr "astray") = some (.int s) by with_unfolding_all rfl] at z
 exact z
theorem Z76 (e : H wd = some (.dK (Z0q nm r h s bg))) : DGet H wd (.str "bag") (some (.ref bg)) := by
 have z := DGet.k (k := Sum.inr "bag") e
 rw [show Z6o (Z0q nm r h s bg) (Sum.inr "bag") = some (.ref bg) by with_unfolding_all rfl] at z
 exact z
theorem Z8g (e : H wd = some (.dK (Z0q nm r h s bg))) : DPut H wd (.str "room") (.int q) (upd H wd (.dK (Z0q nm q h s bg))) := by
 have z := DPut.k (k := Sum.inr "room") (v := .int q) e (by show 5 < sizeLine; decide)
 rw [show Z6p (Z0q nm r h s bg) (Sum.inr "room") (.int q) = Z0q nm q h s bg by with_unfolding_all rfl] at z
 exact z
theorem Zfo {b2 : Addr} (e : H wd = some (.dK (Z0q nm r h s bg))) : DPut H wd (.str "bag") (.ref b2) (upd H wd (.dK (Z0q nm r h s b2))) := by
 have z := DPut.k (k := Sum.inr "bag") (v := .ref b2) e (by show 5 < sizeLine; decide)
 rw [show Z6p (Z0q nm r h s bg) (Sum.inr "bag") (.ref b2) = Z0q nm r h s b2 by with_unfolding_all rfl] at z
 exact z
end
theorem Z4w {H : Hp} {d wd l nm bg : Addr} {ns : List Int} {n : Nat} {r h s : Int} (F : Feed H d l ns n) (W : H wd = some (.dK (Z0q nm r h s bg))) : wd ≠ d := by
 obtain ⟨⟨z, hd⟩, _, _⟩ := F
 refine Z44 W hd (fun q => ?_)
 injection q with q
 have h1 := congrArg List.length q
 cases h1
def spWorld : Sp := fun vs H Q _ => ∃ (nm : Addr) (r h s : Int), vs = [.ref nm, .int r, .int h, .int s] /\ ∀ (wd bg : Addr) H', Same H H' -> H wd = none -> H bg = none -> H' wd = some (.dK (Z0q nm r h s bg)) -> H' bg = some (.lst []) -> Q (.ref wd) H'
structure Nms (H : Hp) (nm : Addr) (T : List Str) : Prop where
 a : H nm = some (.lst (T.map V.str))
 l1 : 1 <= T.length
 l2 : T.length <= 40
 nm : ∀ t ∈ T, Nm t
def Zdp (h : Int) (t : Th) : Prop := PfT 1 t /\ cnt t = 1 /\ Th.sz t <= 3 /\ ∀ i ∈ hs t, ((i : Nat) : Int) < h
def spLeaf : Sp := fun vs H Q _ => ∃ (d l wd nm bg : Addr) (ns : List Int) (n : Nat) (r h s lt : Int) (T : List Str), vs = [.ref d, .ref wd, .int lt] /\ Feed H d l ns n /\ n <= 800000000000 /\ H wd = some (.dK (Z0q nm r h s bg)) /\ Nms H nm T /\ h <= 1000 /\ lt + s <= 1000 ∧
 ∀ (v : V) (t : Th) n' H', IsTh H' v t -> Zdp h t -> n' <= n + 5 -> Feed H' d l ns n' -> But d H H' -> Q v H'
theorem Zl3 {w : Str} {h : Int} (h1 : w ≠ "let") (h2 : w ≠ "hole") : Zdp h (nd w [] []) := by
 refine ⟨⟨w, [], [], rfl, Nat.zero_le _, fun v hv => (by cases hv), fun z => absurd z h1, fun z => absurd z h2, Nat.zero_le _, fun k hk => (by cases hk)⟩, ?_, ?_, fun i hi => ?_⟩
 ·rw [Z2e (fun k hk => by cases hk)]; simp [Z3s]
 ·rw [Zbg]; simp [szs]
 ·obtain ⟨k, hk, _⟩ := (Z2k h2).mp hi
  cases hk
theorem Zi5 {w : Str} {v : V} {h : Int} (hv : plT (.at v) = true) (h1 : w ≠ "let") (h2 : w ≠ "hole") : Zdp h (nd w [v] []) := by
 refine ⟨⟨w, [v], [], rfl, Nat.le_refl _, fun u hu => (by rw [List.mem_singleton] at hu; rw [hu]; exact hv), fun z => absurd z h1, fun z => absurd z h2, Nat.zero_le _, fun k hk => (by cases hk)⟩, ?_, ?_, fun i hi => ?_⟩
 ·rw [Z2e (fun k hk => by cases hk)]; simp [Z3s]
 ·rw [Zbg]; simp [szs, Th.sz]
 ·obtain ⟨k, hk, _⟩ := (Z2k h2).mp hi
  cases hk
theorem Zl4 {i : Nat} {h : Int} (hi : ((i : Nat) : Int) < h) : Zdp h (hol i) := by
 refine ⟨Z8e i, ?_, ?_, fun j hj => ?_⟩
 ·unfold hol; rw [Z2e (fun k hk => by cases hk)]; simp [Z3s]
 ·unfold hol; rw [Zbg]; simp [szs, Th.sz]
 ·unfold hol at hj
  rw [Z1o, List.mem_singleton] at hj
  rw [hj]
  exact hi
section
variable {P : Program} {w : World} {K : PySem.W.Frag} {mg : Str -> Option Value} {base : Heap}
theorem Zi6 : FnScope ["_law_names_here", "_law_room", "_law_holes", "_law_astray"] ["_law_names_here", "_law_room", "_law_holes", "_law_astray"] (Z03 Z87) := ⟨rfl, rfl, rfl, by decide +kernel, rfl, by decide +kernel, by decide +kernel⟩
theorem Zfp {f : Addr} {fd : FuncData} (F : Fun K "_law_world" "_law_world" Z87 f fd) : FnOk P w K mg base CX0 1 f fd ["_law_names_here", "_law_room", "_law_holes", "_law_astray"] spWorld := by
 refine F.ok Zi6 (fun vs H Q E h => ?_) (fun cdv A outer s H vs Q E hr h => ?_)
 ·obtain ⟨nm, r, h, s, rfl, _⟩ := h
  rfl
 ·obtain ⟨nm, r, h, s, rfl, k⟩ := h
  refine ⟨_, Z07 (Z0m (Zck (Z24 Z0a (pv 0) (Z24 Z0a (pv 1) (Z24 Z0a (pv 2) (Z24 Z0a (pv 3) (Z24 Z0a (Z18 Z00) Zcj))))) rfl rfl (by intro z; cases z) (by decide))), ?_⟩
  intro wd hwd
  have sw := Z02 (o := .dK []) hwd
  refine ⟨_, rfl, _, rfl, _, rfl, _, rfl, Nat.zero_le _, fun bg hbg => ?_⟩
  have hbn : bg ≠ wd := fun z => by rw [z, Z01] at hbg; cases hbg
  have sb := Z02 (o := .lst []) hbg
  refine ⟨sb _ _ Z01, Z0q nm r h s bg, rfl, by show 5 <= 15; decide, ?_⟩
  have em : Z51 [] (Z0q nm r h s bg) = Z0q nm r h s bg := by with_unfolding_all rfl
  rw [em]
  refine k wd bg _ (fun b ob e => ?_) hwd (Z2t sw hbg) Z01 ?_
  ·rw [Z0c (Z0h e hwd)]
   exact sb _ _ (sw _ _ e)
  ·rw [Z0c hbn]
   exact Z01
theorem scLeaf : FnScope ["_law_feed_here", "_law_world_here", "_law_lets", "_law_way"] ["_law_feed_here", "_law_world_here", "_law_lets"] (Z03 Zd7) := ⟨rfl, rfl, rfl, by decide +kernel, rfl, by decide +kernel, by decide +kernel⟩
theorem Zi7 {f fV fD fS : Addr} {fd dV dD dS : FuncData} (F : Fun K "_law_leaf" "_law_leaf" Zd7 f fd) (U : Helpers K mg fD fS dD dS) (FV : Fun K "_law_value" "_law_value" Z2u fV dV) (bV : Binds K dV ["_law_feed_here"] []) (mV : mg "_law_value" = some (.ref fV)) :
  FnOk P w K mg base CX0 3 f fd ["_law_feed_here", "_law_world_here", "_law_lets"] spLeaf := by
 have GD : FnOk P w K mg base CX0 1 fD dD ["_law_feed_here", "_law_many"] spDraw := Z5i U.D U.T
 have GV : FnOk P w K mg base CX0 2 fV dV ["_law_feed_here"] spValue := Zfi FV U
 refine F.ok scLeaf (fun vs H Q E h => ?_) (fun cdv A outer s H vs Q E hr h => ?_)
 ·obtain ⟨d, l, wd, nm, bg, ns, n, r, h, s, lt, T, rfl, _⟩ := h
  rfl
 ·obtain ⟨d, l, wd, nm, bg, ns, n, r, h, sa, lt, T, rfl, F0, hn, W0, N0, hh, hls, k⟩ := h
  have hsz : sizeLine = 16777216 := sizeLine_eq
  have hu : (_ : Around).units + 1 < cLine := Nat.lt_of_le_of_lt (Nat.add_le_add_left (by decide) _) hr.units
  have hr1 : Room 1 _ := hr.mono (by decide)
  have hr2 : Room 2 _ := hr.mono (by decide)
  refine' ⟨?tt, ?body, ?fin⟩
  case body =>
   refine' Z05 ?s1 ?r1
   case s1 => exact Z0j (i := 3) scLeaf.nd rfl (Or.inl rfl) (Z06 GD hr1 (by rfl) U.mD U.D.kp U.bD .nil Z0n (Z0i (pv 0) (Z1h Z04 Z00)))
   case r1 =>
    refine' Z0r ?s2 ?r2
    case s2 =>
     refine' Z10 ?c (Z07 ?b) Z0k
     case c => exact (Z3h (Z0f Zh0 (pv 3) Z04 (Z0o _)) (Z2f (Z0f Zc5 (Z0y hu (pv 1) Z0a (fun _ _ => rfl)) Z04 (Z0o _)))).pt
     case b => exact Z0m (Z0z (Z1h Z0a (Z4c (Z06 GD hr1 (by rfl) U.mD U.D.kp U.bD .nil Z0n (Z0i (pv 0) (Z0d (Z0y hu (pv 1) Z0a (fun _ _ => rfl)) Z00))) Z00)))
    case r2 =>
     refine' Z0r ?s3 ?r3
     case s3 =>
      refine' Z10 ?c (Z07 ?b) Z0k
      case c => exact (Z3h (Z0f Z3m (pv 3) (Z0z (Z1h Z04 (Z1h Z04 Z00))) (by with_unfolding_all rfl)) (Z2f (Z0f Zc5 (Z0p Z1m (pv 2) (Z0y hu (pv 1) Z0a (fun _ _ => rfl))) Z04 (Z0o _)))).pt
      case b => exact Z0m (Z0z (Z1h Z0a (Z4c (Z06 GD hr1 (by rfl) U.mD U.D.kp U.bD .nil Z0n (Z0i (pv 0) (Z0d (Z0p Z1m (pv 2) (Z0y hu (pv 1) Z0a (fun _ _ => rfl))) Z00))) Z00)))
     case r3 =>
      refine' Z05 ?s4 ?r4
      case s4 => exact Z10 (Z0f Z1j (pv 3) Z04 (Z0o _)) (Z07 (Z0m (Z0z (Z1h Z0a Z00)))) Z0k
      case r4 =>
       refine' Z05 ?s5 ?r5
       case s5 => exact Z10 (Z0f Z1j (pv 3) Z04 (Z0o _)) (Z07 (Z0m (Z0z (Z1h Z0a (Z4c (Z06 GV hr2 (by rfl) mV FV.kp bV .nil Z0n (Z0i (pv 0) Z00)) Z00))))) Z0k
       case r5 =>
        refine' Z07 ?s6
        case s6 =>
         refine' Z0m ?r
         case r =>
          refine' Z0z ?a
          case a =>
           refine' Z1h Z0a (Z0d ?x Z00)
           case x => exact Z15 Z1a (Z0y hu (pv 1) Z0a (fun _ _ => rfl)) (Z06 GD hr1 (by rfl) U.mD U.D.kp U.bD .nil Z0n (Z0i (pv 0) (Z4c (Z0b Z0l (by rfl) U.T.len PySem.boot_len (Z0d (Z0y hu (pv 1) Z0a (fun _ _ => rfl)) Z00)) Z00))) (fun _ _ => rfl)
  case fin =>
   have hne := Z4w F0 W0
   refine ⟨_, rfl, d, l, ns, n, _, rfl, F0, by omega, by decide, by decide, fun way n1 H1 w0 w1 hn1 F1 b1 => ?_⟩
   have W1 := b1 wd _ W0 hne
   have N1 := F0.lst b1 N0.a
   refine ⟨fun σ' H' => σ' = [some (.ref d), some (.ref wd), some (.int lt), some (.int way)] /\ H' = H1, ?_, ?_⟩
   ·refine ⟨_, rfl, _, _, rfl, rfl, _, rfl, Z1r (fun g => ?_) (fun g => Z46 ⟨rfl, rfl⟩)⟩
    refine ⟨_, rfl, wd, .int h, rfl, Z6f W1, _, _, rfl, rfl, _, rfl, Z1r (fun g2 => ?_) (fun g2 => ⟨rfl, rfl⟩)⟩
    have hpos : 0 < h := by simpa using g2
    refine ⟨_, rfl, _, rfl, wd, .int h, rfl, Z6f W1, d, l, ns, n1, h, rfl, F1, by omega, hpos, by omega, fun i n2 H2 i0 i1 hn2 F2 b2 => ⟨(by show 2 <= sizeLine; decide), fun p hp => ?_⟩⟩
    obtain ⟨j, rfl⟩ : ∃ j : Nat, i = (j : Nat) := ⟨i.toNat, by omega⟩
    exact k (.ref p) (hol j) n2 _ (Zac Z01) (Zl4 i1) (by omega) (F2.same (Z02 hp)) ((b1.trans b2).trans (But.of (Z02 hp)))
   rintro σ2 H2 ⟨rfl, rfl⟩
   refine ⟨fun σ' H' => σ' = [some (.ref d), some (.ref wd), some (.int lt), some (.int way)] /\ Same H2 H', ?_, ?_⟩
   ·refine ⟨_, rfl, (by show 2 <= sizeLine; decide), fun e he => ?_⟩
    have se := Z02 (o := .tup [.int 2, .int 3]) he
    have W2 := se _ _ W1
    refine ⟨e, [.int 2, .int 3], rfl, .inr (SqT.of Z01), rfl, rfl, _, rfl, Z1r (fun g => ?_) (fun g => Z46 ⟨rfl, se⟩)⟩
    refine ⟨_, rfl, _, rfl, wd, .int sa, rfl, Z5l W2, _, _, rfl, rfl, _, _, rfl, rfl, _, rfl, Z1r (fun g2 => ?_) (fun g2 => ⟨rfl, se⟩)⟩
    have hpos : 0 < lt + sa := by simpa using g2
    refine ⟨_, rfl, _, rfl, _, rfl, wd, .int sa, rfl, Z5l W2, _, _, rfl, rfl, d, l, ns, n1, lt + sa, rfl, F1.same se, by omega, hpos, by omega, fun i n3 H3 i0 i1 hn3 F3 b3 => ⟨(by show 2 <= sizeLine; decide), fun p hp => ?_⟩⟩
    exact k (.ref p) (nd "own" [.int i] []) n3 _ (.tup Z01 (.cons (.at (by decide +kernel)) (.cons (.at rfl) .nil))) (Zi5 rfl (by decide +kernel) (by decide +kernel)) (by omega) (F3.same (Z02 hp)) (((b1.trans (But.of se)).trans b3).trans (But.of (Z02 hp)))
   rintro σ3 H3 ⟨rfl, s3⟩
   have W3 := s3 _ _ W1
   have N3 := s3 _ _ N1
   have F3 := F1.same s3
   have b3 := b1.trans (But.of (d := d) s3)
   refine ⟨_, rfl, rfl, _, rfl, Z1r (fun _ => ?_) (fun _ => ?_)⟩
   ·refine ⟨(by show 1 <= sizeLine; decide), fun p hp => ?_⟩
    exact k (.ref p) (nd "take" [] []) n1 _ (.tup Z01 (.cons (.at (by decide +kernel)) .nil)) (Zl3 (by decide +kernel) (by decide +kernel)) (by omega) (F3.same (Z02 hp)) (b3.trans (But.of (Z02 hp)))
   ·refine ⟨_, rfl, rfl, _, rfl, Z1r (fun _ => ?_) (fun _ => ?_)⟩
    ·refine ⟨_, rfl, d, l, ns, n1, rfl, F3, by omega, fun i n4 H4 i0 i1 hn4 F4 b4 => ⟨(by show 2 <= sizeLine; decide), fun p hp => ?_⟩⟩
     exact k (.ref p) (nd "num" [.int i] []) n4 _ (.tup Z01 (.cons (.at (by decide +kernel)) (.cons (.at rfl) .nil))) (Zi5 rfl (by decide +kernel) (by decide +kernel)) (by omega) (F4.same (Z02 hp)) ((b3.trans b4).trans (But.of (Z02 hp)))
    ·have l1 := N0.l1
     have l2 := N0.l2
     have hl : ((T.map V.str).length : Int) = (T.length : Int) := by rw [List.length_map]
     refine ⟨_, rfl, wd, .ref nm, rfl, Z4l W3, _, rfl, _, rfl, wd, .ref nm, rfl, Z4l W3, nm, T.map V.str, rfl, .inl (SqL.of N3), d, l, ns, n1, _, rfl, F3, by omega, by show (0 : Int) < ((T.map V.str).length : Int); omega, by show ((T.map V.str).length : Int) < 18446744073709551616; omega, fun i n4 H4 i0 i1 hn4 F4 b4 => ?_⟩
     obtain ⟨v4, hv4, hat4⟩ := Z3c (xs := T.map V.str) (i := i) i0 i1
     obtain ⟨t4, ht4, rfl⟩ := List.mem_map.mp hv4
     have hN := N0.nm t4 ht4
     refine ⟨nm, T.map V.str, i, .str t4, rfl, rfl, SqL.of (F3.lst b4 N3), hat4, (by show 2 <= sizeLine; decide), fun p hp => ?_⟩
     exact k (.ref p) (nd "name" [.str t4] []) n4 _ (.tup Z01 (.cons (.at (by decide +kernel)) (.cons (.at (decide_eq_true (Nat.le_trans hN.1.2 (by decide)))) .nil))) (Zi5 rfl (by decide +kernel) (by decide +kernel)) (by omega) (F4.same (Z02 hp)) ((b3.trans b4).trans (But.of (Z02 hp)))
end
theorem Zi8 (hd : List V) : szs (hd.map Th.at) = hd.length := by
 induction hd with
 | nil => simp [szs]
 | cons v hd ih => rw [List.map_cons, szs, ih, Th.sz, List.length_cons]; omega
theorem Zfq {n : Nat} (ih : ∀ {t : Th}, PfT n t -> Th.sz t <= 3 * cnt t) : ∀ {ks : List Th}, (∀ k ∈ ks, PfT n k) -> szs ks <= 3 * Z3s ks := by
 intro ks
 induction ks with
 | nil => intro _; simp [szs]
 | cons k ks h2 =>
  intro h
  have a := ih (h k (List.mem_cons_self ..))
  have b := h2 fun x hx => h x (List.mem_cons_of_mem _ hx)
  rw [szs, Z3s]
  omega
theorem Zgr : ∀ (n : Nat) {t : Th}, PfT n t -> Th.sz t <= 3 * cnt t := by
 intro n
 induction n with
 | zero => intro t h; exact h.elim
 | succ n ih =>
  intro t h
  obtain ⟨w, hd, ks, rfl, h1, h2, h3, h4, h5, h6⟩ := h
  have a := Zfq ih h6
  rw [Zbg, Zi8, Z2e fun k hk => (h6 k hk).isTup]
  omega
theorem Zi9 {σ : Nat -> Th} {n : Nat} (ih : ∀ {t : Th}, PfT n t -> (∀ i ∈ hs t, cnt (σ i) = 1) -> cnt (fl σ t) = cnt t) : ∀ {ks : List Th}, (∀ k ∈ ks, PfT n k) -> (∀ k ∈ ks, ∀ i ∈ hs k, cnt (σ i) = 1) -> Z3s (ks.map (fl σ)) = Z3s ks := by
 intro ks
 induction ks with
 | nil => intro _ _; rfl
 | cons k ks h2 =>
  intro h e
  rw [List.map_cons, Z3s, Z3s, ih (h k (List.mem_cons_self ..)) (e k (List.mem_cons_self ..)), h2 (fun x hx => h x (List.mem_cons_of_mem _ hx)) fun x hx => e x (List.mem_cons_of_mem _ hx)]
theorem Zgs {σ : Nat -> Th} (hσ : Tps σ) : ∀ (n : Nat) {t : Th}, PfT n t -> (∀ i ∈ hs t, cnt (σ i) = 1) -> cnt (fl σ t) = cnt t := by
 intro n
 induction n with
 | zero => intro t h; exact h.elim
 | succ n ih =>
  intro t h e
  obtain ⟨w, hd, ks, rfl, h1, h2, h3, h4, h5, h6⟩ := h
  by_cases hw : w = "hole"
  ·subst hw
   obtain ⟨i, rfl, rfl⟩ := h4 rfl
   rw [Z1u, e i (by rw [Z1o]; exact List.mem_singleton.mpr rfl), Z2e (fun k hk => by cases hk)]
   simp [Z3s]
  ·rw [Z5f hw, Z2e fun k hk => (h6 k hk).isTup, Z2e fun k hk => ?_, Zi9 ih h6 fun k hk i hi => e i ((Z2k hw).mpr ⟨k, hk, hi⟩)]
   obtain ⟨y, hy, rfl⟩ := List.mem_map.mp hk
   exact Zjl hσ (h6 y hy)
theorem Z8h (i j : Nat) : j ∈ hs (hol i) ↔ j = i := by
 unfold hol
 rw [Z1o, List.mem_singleton]
theorem Z9c {n : Nat} {t : Th} {S : List Nat} (h : PfT n t) (nd : S.Nodup) (h1 : ∀ i ∈ hs t, i ∈ S) (h2 : ∀ i ∈ S, i ∈ hs t) (j : Nat) : j ∈ hs (fl (ix S) t) ↔ j < S.length := by
 rw [Zjv n h]
 unfold ix
 constructor
 ·rintro ⟨i, hi, hj⟩
  rw [(Z8h _ _).mp hj]
  exact List.idxOf_lt_length_iff.mpr (h1 i hi)
 ·intro hj
  refine ⟨S[j], h2 _ (List.getElem_mem hj), (Z8h _ _).mpr ?_⟩
  have e1 : S.idxOf S[j] < S.length := List.idxOf_lt_length_iff.mpr (List.getElem_mem hj)
  have e2 : S[S.idxOf S[j]] = S[j] := List.getElem_idxOf e1
  exact ((List.getElem_inj nd).mp e2).symm
theorem Z8i {n m : Nat} {t : Th} (h : PfT n t) (hh : ∀ i, i ∈ hs t ↔ i < m) (j : Nat) : j ∈ hs (fl (fun i => hol (m - 1 - i)) t) ↔ j < m := by
 rw [Zjv n h]
 constructor
 ·rintro ⟨i, hi, hj⟩
  have h1 := (hh i).mp hi
  have h2 := (Z8h _ _).mp hj
  omega
 ·intro hj
  exact ⟨m - 1 - j, (hh _).mpr (by omega), (Z8h _ _).mpr (by omega)⟩
theorem Zjx {ts : List Th} {k m : Nat} (h : ∀ t ∈ ts, PfT k t) {i : Nat} (hi : i < ts.length) : PfT k (sg ts i) := by
 unfold sg
 rw [show ts.getD i (.tup []) = ts[i] by simp [List.getD, hi]]
 exact h _ (List.getElem_mem hi)
def But2 (d e : Addr) (H H' : Hp) : Prop := ∀ b o, H b = some o -> b ≠ d -> b ≠ e -> H' b = some o
theorem But2.refl (d e : Addr) (H : Hp) : But2 d e H H := fun _ _ h _ _ => h
theorem But2.trans {d e : Addr} {H H1 H2 : Hp} (a : But2 d e H H1) (b : But2 d e H1 H2) : But2 d e H H2 := fun c o h n m => b c o (a c o h n m) n m
theorem But2.of {d e : Addr} {H H1 : Hp} (a : But d H H1) : But2 d e H H1 := fun c o h n _ => a c o h n
theorem But2.same {d e : Addr} {H H1 : Hp} (a : Same H H1) : But2 d e H H1 := fun c o h _ _ => a c o h
theorem But2.upd {d e : Addr} {H : Hp} {o : HO} : But2 d e H (upd H e o) := fun c u h _ n => by rw [Z0c n]; exact h
structure Bag (H : Hp) (bg : Addr) (B : Nat) (ts : List Th) : Prop where
 l : ∃ ws, H bg = some (.lst ws) /\ IsThs H ws ts
 few : ts.length <= 100
 ok : ∀ t ∈ ts, PfT B t /\ cnt t <= 1000
structure Cf (H H' : Hp) (d l wd nm bg : Addr) (ns : List Int) (n : Nat) (r h s : Int) (T : List Str) (B : Nat) (ts : List Th) : Prop where
 F : Feed H' d l ns n
 W : H' wd = some (.dK (Z0q nm r h s bg))
 N : Nms H' nm T
 G : Bag H' bg B ts
 b2 : But2 d wd H H'
section
variable {H H1 H2 : Hp} {d l wd nm bg : Addr} {ns : List Int} {n n2 : Nat} {r r2 h s : Int} {T : List Str} {B : Nat} {ts : List Th}
theorem Cf.kp (C : Cf H H1 d l wd nm bg ns n r h s T B ts) (b : But2 d wd H1 H2) : Kp H1 H2 := by
 obtain ⟨⟨⟨z, hd⟩, _, _⟩, W, _⟩ := C
 intro a o h hk
 exact b a o h (fun q => by subst q; rw [hd] at h; cases h; exact hk _ rfl) (fun q => by subst q; rw [W] at h; cases h; exact hk _ rfl)
theorem Nms.kp (N : Nms H1 nm T) (k : Kp H1 H2) : Nms H2 nm T := ⟨k _ _ N.a (by intro kvs q; cases q), N.l1, N.l2, N.nm⟩
theorem Bag.kp (G : Bag H1 bg B ts) (k : Kp H1 H2) : Bag H2 bg B ts := by
 obtain ⟨⟨ws, a, b⟩, c, d⟩ := G
 exact ⟨⟨ws, k _ _ a (by intro kvs q; cases q), IsThs.kp k b⟩, c, d⟩
theorem Cf.go (C : Cf H H1 d l wd nm bg ns n r h s T B ts) (b : But2 d wd H1 H2) (F2 : Feed H2 d l ns n2) (W2 : H2 wd = some (.dK (Z0q nm r2 h s bg))) : Cf H H2 d l wd nm bg ns n2 r2 h s T B ts :=
 ⟨F2, W2, C.N.kp (C.kp b), C.G.kp (C.kp b), C.b2.trans b⟩
theorem Cf.draw (C : Cf H H1 d l wd nm bg ns n r h s T B ts) (b : But d H1 H2) (F2 : Feed H2 d l ns n2) : Cf H H2 d l wd nm bg ns n2 r h s T B ts := C.go (But2.of b) F2 (b wd _ C.W (Z4w C.F C.W))
theorem Cf.same (C : Cf H H1 d l wd nm bg ns n r h s T B ts) (e : Same H1 H2) : Cf H H2 d l wd nm bg ns n r h s T B ts := C.go (But2.same e) (C.F.same e) (e _ _ C.W)
theorem Cf.room (C : Cf H H1 d l wd nm bg ns n r h s T B ts) : Cf H (upd H1 wd (.dK (Z0q nm r2 h s bg))) d l wd nm bg ns n r2 h s T B ts := by
 have hne := Z4w C.F C.W
 refine C.go But2.upd ?_ Z01
 obtain ⟨⟨z, hd⟩, hl, hs⟩ := C.F
 refine ⟨⟨z, by rw [Z0c hne.symm]; exact hd⟩, ?_, hs⟩
 rw [Z0c (Z44 hl C.W (by intro q; cases q))]
 exact hl
end
def cD : Nat -> Nat
 | 0 => 0
 | N + 1 => 30 + 6 * cD N
def Rm (N : Nat) (r r' : Int) (c : Nat) : Prop := (c : Int) + r' <= r /\ (r <= 1 -> r - 1 <= r') /\ (2 <= r -> 1 - 6 * (N : Int) <= r')
def Zdq (B N : Nat) : Sp := fun vs H Q _ => ∃ (d l wd nm bg : Addr) (ns : List Int) (n : Nat) (r h s lt bb : Int) (T : List Str) (ts : List Th), vs = [.ref d, .ref wd, .int lt, .int bb] /\ Cf H H d l wd nm bg ns n r h s T B ts /\ n + cD N <= 700000000000 /\ h <= 1000 /\ 0 <= lt /\ 0 <= s /\ lt + s + N <= 1000 /\ 1 <= bb /\ bb <= N /\ N <= 10 ∧
 ∀ (v : V) (t : Th) n' r' H', IsTh H' v t -> PfT (N + B) t -> Rm N r r' (cnt t) -> (ts = [] -> ∀ i ∈ hs t, ((i : Nat) : Int) < h) -> n' <= n + cD N -> Cf H H' d l wd nm bg ns n' r' h s T B ts -> Q v H'
def kinds12 : List Str := ["op", "do", "let", "call", "pick", "set", "again", "say", "op", "let", "leaf", "bag"]
theorem Zia : (["_law_below", "_law_feed_here", "_law_k", "_law_lets", "_law_world_here"] : List Str).Nodup := by decide +kernel
section
variable {P : Program} {w : World} {K : PySem.W.Frag} {mg : Str -> Option Value} {base : Heap}
theorem scForm : FnScope ["_law_feed_here", "_law_world_here", "_law_lets", "_law_below", "_law_kinds", "_law_kind", "_law_found", "_law_names_here", "_law_first", "_law_head", "_law_many"] ["_law_feed_here", "_law_world_here", "_law_lets", "_law_below"] (Z03 Z96) := ⟨rfl, rfl, rfl, by decide +kernel, rfl, by decide +kernel, by decide +kernel⟩
end
end K16
namespace L2
open PySem PySem.Spec PyProof.Rows
theorem Z5m {X : Cx} (hu : X.A.units < cLine) : OpR X (compareOp .NotEq) (fun x y H Q => ∃ a b xs, x = .ref a /\ y = .ref b /\ SqL X.K H a xs /\ SqL X.K H b [] /\ Q (.bl (!xs.isEmpty)) H) := by
 intro pins s σ H x y v u Q I rx ry h
 obtain ⟨a, b, xs, rfl, rfl, hx, hy, q⟩ := h
 cases rx
 cases ry
 obtain ⟨its, r, pl, hz⟩ := I.list hx
 obtain ⟨its2, r2, pl2, hz2⟩ := I.list hy
 have hl := r.length
 have hl2 := r2.length
 cases xs with
 | nil =>
  refine SeqAt.RcNeAt.lists (e := fun _ => true) pl.isList pl2.isList (by simp only [List.size_toArray]; simp at hl hl2; omega) hu (fun j h1 h2 => ?_) X.prog X.w _ _ ?_
  ·simp only [List.size_toArray] at h1
   simp at hl
   omega
  ·refine Z0t I q ?_
   rw [List.size_toArray, <- hl]
   rfl
 | cons z zs =>
  refine SeqAt.RcNeAt.lists_lengths pl.isList pl2.isList (by simp only [List.size_toArray, bne_iff_ne]; simp at hl hl2; omega) hu X.prog X.w _ _ ?_
  exact Z0t I q rfl
end L2
namespace K16
open PySem L2
section
variable {P : Program} {w : World} {K : PySem.W.Frag} {mg : Str -> Option Value} {base : Heap}
def MC (H : Hp) (d l wd nm bg e : Addr) (ns : List Int) (n : Nat) (r h sa lt bb : Int) (T : List Str) (B : Nat) (ts : List Th) (kd : Str) (o6 : Option V) (j : Nat) : St -> Hp -> Prop := fun σ' H' => ∃ (ha : Addr) (hd : List V) (mn : Int) (n' : Nat),
 σ' = [some (.ref d), some (.ref wd), some (.int lt), some (.int bb), some (.ref e), some (.str kd), o6, some (.ref nm), none, some (.ref ha), some (.int mn)] /\ H' ha = some (.lst (.str kd :: hd)) /\ hd.length <= 1 /\ (∀ v ∈ hd, plT (.at v) = true /\ Z54 v = true) /\ 0 <= mn /\ mn <= 6 /\ n' <= n + j /\ Cf H H' d l wd nm bg ns n' r h sa T B ts
theorem Zib {f fD fS fL fN : Addr} {fd dD dS dL dN : FuncData} (F : Fun K "_law_form" "_law_form" Z96 f fd) (b : Binds K fd ["_law_feed_here", "_law_world_here", "_law_lets", "_law_below"] []) (m : mg "_law_form" = some (.ref f)) (U : Helpers K mg fD fS dD dS) (T0 : TxtT mg)
  (GL : FnOk P w K mg base CX0 3 fL dL ["_law_feed_here", "_law_world_here", "_law_lets"] spLeaf) (FL : Fun K "_law_leaf" "_law_leaf" Zd7 fL dL) (bL : Binds K dL ["_law_feed_here", "_law_world_here", "_law_lets"] []) (mL : mg "_law_leaf" = some (.ref fL))
  (GN : ∀ N, FnOk P w K mg base CX0 (N + 2) fN dN ["_law_e"] (Zdi N)) (FN : Fun K "_law_nodes" "_law_nodes" Z6c fN dN) (bN : Binds K dN ["_law_e"] []) (mN : mg "_law_nodes" = some (.ref fN)) (B : Nat) : ∀ N, FnOk P w K mg base CX0 (N + B + 4) f fd ["_law_feed_here", "_law_world_here", "_law_lets", "_law_below"] (Zdq B N) := by
 have GD : FnOk P w K mg base CX0 1 fD dD ["_law_feed_here", "_law_many"] spDraw := Z5i U.D U.T
 intro N
 induction N with
 | zero =>
  refine F.ok scForm (fun vs H Q E h => ?_) (fun cdv A outer s H vs Q E hr h => ?_)
  ·obtain ⟨d, l, wd, nm, bg, ns, n, r, h, s, lt, bb, T, ts, rfl, _⟩ := h
   rfl
  ·obtain ⟨d, l, wd, nm, bg, ns, n, r, h, s, lt, bb, T, ts, rfl, _, _, _, _, _, _, h1, h2, _⟩ := h
   exact absurd h2 (by omega)
 | succ N ih =>
  refine F.ok scForm (fun vs H Q E h => ?_) (fun cdv A outer s H vs Q E hr h => ?_)
  ·obtain ⟨d, l, wd, nm, bg, ns, n, r, h, s, lt, bb, T, ts, rfl, _⟩ := h
   rfl
  ·obtain ⟨d, l, wd, nm, bg, ns, n, r, h, sa, lt, bb, T, ts, rfl, C0, hn, hh, hlt0, hs0, hls, hb1, hbN, hN10, k⟩ := h
   have hsz : sizeLine = 16777216 := sizeLine_eq
   have hu : (_ : Around).units + 1 < cLine := Nat.lt_of_le_of_lt (Nat.add_le_add_left (by decide) _) hr.units
   have hu0 := hr.units0
   have hr1 : Room 1 _ := hr.mono (by omega)
   have hr3 : Room 3 _ := hr.mono (by omega)
   have hrB : Room (B + 2) _ := hr.mono (by omega)
   have hrN : Room (N + B + 4) _ := hr.mono (by omega)
   refine' ⟨?tt, ?body, ?fin⟩
   case body =>
    refine' Z05 ?s1 ?r1
    case s1 => exact Z45 hu (pv 1) Z0a (Z0p Z36 (Z0y hu (pv 1) Z0a (fun _ _ => rfl)) Z04) rfl
    case r1 =>
     refine' Z05 ?s2 ?r2
     case s2 =>
      refine' Z99 (i := 4) ?ha ?hb ?hc ?hd ?he ?hf
      case ha => exact scForm.nd
      case hb => exact rfl
      case hc => exact (Or.inl rfl)
      case he => exact rfl
      case hf => exact (.inr rfl)
      case hd =>
       refine' @Z2s ((Zei CX0 P w K mg base ["_law_feed_here", "_law_world_here", "_law_lets", "_law_below", "_law_kinds", "_law_kind", "_law_found", "_law_names_here", "_law_first", "_law_head", "_law_many"] "_law_form" (Z03 Z96) f cdv A outer s H E).nox) _ (kinds12.map V.str) ?q
       case q => decide +kernel
     case r2 =>
      refine' Z0r ?s3 ?r3
      case s3 => exact Z0j (i := 5) scForm.nd rfl (Or.inl rfl) (Z15 Z1a (pv 4) (Z06 GD hr1 (by rfl) U.mD U.D.kp U.bD .nil Z0n (Z0i (pv 0) (Z1h Z04 Z00))) (fun _ _ => rfl))
      case r3 =>
       refine' Z0r ?s4 ?r4
       case s4 =>
        refine' Z10 ?c (Z05 ?e1 (Z07 ?e2)) Z0k
        case c => exact (Z3h (Z0f Z1j (pv 5) Z0a (Z0o _)) (Z2f (Z0f (Z5m hu0) (Z0y hu (pv 1) Z0a (fun _ _ => rfl)) (Z18 Z00) (Z0o _)))).pt
        case e1 => exact Z0j (i := 6) scForm.nd rfl (Or.inl rfl) (Z15 Z1a (Z0y hu (pv 1) Z0a (fun _ _ => rfl)) (Z06 GD hr1 (by rfl) U.mD U.D.kp U.bD .nil Z0n (Z0i (pv 0) (Z4c (Z0b Z0l (by rfl) U.T.len PySem.boot_len (Z0d (Z0y hu (pv 1) Z0a (fun _ _ => rfl)) Z00)) Z00))) (fun _ _ => rfl))
        case e2 =>
         refine' Z10 ?c2 (Z05 ?e3 (Z07 ?e4)) Z0k
         case c2 => exact (Z3h (Z0f Zc5 (pv 3) Z04 (Z0o _)) (Z2f (Z0f Zke (Z06 (GN B) hrB (by rfl) mN FN.kp bN .nil Z0n (Z0i (pv 6) Z00)) (Z0y hu (pv 1) Z0a (fun _ _ => rfl)) (Z0o _)))).pt
         case e3 => exact Z45 hu (pv 1) Z0a (Z0p Z36 (Z0y hu (pv 1) Z0a (fun _ _ => rfl)) (Z06 (GN B) hrB (by rfl) mN FN.kp bN .nil Z0n (Z0i (pv 6) Z00))) rfl
         case e4 => exact Z0m (pv 6)
       case r4 =>
        refine' Z0r ?s5 ?r5
        case s5 =>
         refine' Z10 ?c (Z07 ?e) Z0k
         case c => exact (Z6l (Z0f Zh0 (pv 3) Z04 (Z0o _)) (Z6l (Z0f Zh0 (Z0y hu (pv 1) Z0a (fun _ _ => rfl)) Z04 (Z0o _)) (Z5y (Z0f Z3m (pv 5) (Z0z (Z1h Z0a (Z1h Z0a Z00))) (by with_unfolding_all rfl))))).pt
         case e => exact Z0m (Z06 GL hr3 (by rfl) mL FL.kp bL .nil Z0n (Z0i (pv 0) (Z0i (pv 1) (Z0i (pv 2) Z00))))
        case r5 =>
         refine' Z05 ?s6 ?r6
         case s6 => exact Z0j (i := 7) scForm.nd rfl (Or.inl rfl) (Z0y hu (pv 1) Z0a (fun _ _ => rfl))
         case r6 =>
          refine' Z05 ?s7 ?r7
          case s7 =>
           refine' Z10 ?c (Z05 ?e1 (Z07 ?e2)) Z0k
           case c => exact Z0f Z1j (pv 5) Z0a (Z0o _)
           case e1 => exact Z0j (i := 8) scForm.nd rfl (Or.inl rfl) (Z06 ih hrN (by rfl) m F.kp b .nil Z0n (Z0i (pv 0) (Z0i (pv 1) (Z0i (pv 2) (Z0d (Z0p Z36 (pv 3) Z04) Z00)))))
           case e2 => exact Z0m (Z0z (Z1h Z0a (Z0i (pv 8) (Z4c (Z06 ih hrN (by rfl) m F.kp b .nil Z0n (Z0i (pv 0) (Z0i (pv 1) (Z0d (Z0p Z1m (pv 2) Z04) (Z0d (Z0p Z36 (pv 3) Z04) Z00))))) Z00))))
          case r7 =>
           refine' Z05 ?s8 ?r8
           case s8 => exact Z0j (i := 9) scForm.nd rfl (Or.inl rfl) (Z18 (Z0i (pv 5) Z00))
           case r8 =>
            refine' Z0r ?s9 ?r9
            case s9 => exact Z0j (i := 10) scForm.nd rfl (Or.inl rfl) Z04
            case r9 =>
             refine' Z0r ?s10 ?r10
             case s10 =>
              refine' Z10 ?c (Z05 ?e1 (Z07 ?e2)) Z0k
              case c => exact Z0f Z1j (pv 5) Z0a (Z0o _)
              case e1 => exact Z0j (i := 9) scForm.nd rfl (Or.inl rfl) (Z18 (Z1h Z0a (Z0d (Z15 Z9m Z0a (Z06 GD hr1 (by rfl) U.mD U.D.kp U.bD .nil Z0n (Z0i (pv 0) (Z1h Z04 Z00))) (fun _ _ => rfl)) Z00)))
              case e2 => exact Z0j (i := 10) scForm.nd rfl (Or.inl rfl) Z04
             case r10 =>
              refine' Z0r ?s11 ?r11
              case s11 => exact Z10 (Z0f Z1j (pv 5) Z0a (Z0o _)) (Z07 (Z0j (i := 10) scForm.nd rfl (Or.inl rfl) Z04)) Z0k
              case r11 =>
               refine' Z0r ?s12 ?r12
               case s12 =>
                refine' Z10 ?c (Z07 ?e) Z0k
                case c => exact Z0f Z1j (pv 5) Z0a (Z0o _)
                case e => exact Z7x (i := 10) (vs := [.int 2, .int 1, .int 3, .int 2, .int 6, .int 4]) scForm.nd rfl (Or.inl rfl) ⟨_, _, _, _, _, rfl, by decide +kernel⟩ (Z06 GD hr1 (by rfl) U.mD U.D.kp U.bD .nil Z0n (Z0i (pv 0) (Z1h Z04 Z00))) (fun _ _ => rfl) (.inr rfl)
               case r12 =>
                refine' Z0r ?s13 ?r13
                case s13 =>
                 refine' Z10 ?c (Z05 ?e1 (Z07 ?e2)) Z0k
                 case c => exact Z0f Z1j (pv 5) Z0a (Z0o _)
                 case e1 => exact Z0j (i := 9) scForm.nd rfl (Or.inl rfl) (Z18 (Z1h Z0a (Z0d (Z15 Z1a (pv 7) (Z06 GD hr1 (by rfl) U.mD U.D.kp U.bD .nil Z0n (Z0i (pv 0) (Z4c (Z0b Z0l (by rfl) U.T.len PySem.boot_len (Z0i (pv 7) Z00)) Z00))) (fun _ _ => rfl)) Z00)))
                 case e2 => exact Z7x (i := 10) (vs := [.int 1, .int 0, .int 2, .int 3, .int 6, .int 1]) scForm.nd rfl (Or.inl rfl) ⟨_, _, _, _, _, rfl, by decide +kernel⟩ (Z06 GD hr1 (by rfl) U.mD U.D.kp U.bD .nil Z0n (Z0i (pv 0) (Z1h Z04 Z00))) (fun _ _ => rfl) (.inr rfl)
                case r13 =>
                 refine' Z0r ?s14 ?r14
                 case s14 =>
                  refine' Z10 ?c (Z07 ?e) Z0k
                  case c => exact Z0f Z1j (pv 5) Z0a (Z0o _)
                  case e => exact Z0j (i := 9) scForm.nd rfl (Or.inl rfl) (Z18 (Z1h Z0a (Z0d (Z15 Z1a (pv 7) (Z06 GD hr1 (by rfl) U.mD U.D.kp U.bD .nil Z0n (Z0i (pv 0) (Z4c (Z0b Z0l (by rfl) U.T.len PySem.boot_len (Z0i (pv 7) Z00)) Z00))) (fun _ _ => rfl)) Z00)))
                 case r14 =>
                  refine' Z0r ?s15 ?r15
                  case s15 =>
                   refine' Z10 ?c (Z07 ?e) Z0k
                   case c => exact Z0f Z1j (pv 5) Z0a (Z0o _)
                   case e => exact Z0j (i := 9) scForm.nd rfl (Or.inl rfl) (Z18 (Z1h Z0a (Z4c (Z06 GD hr1 (by rfl) U.mD U.D.kp U.bD .nil Z0n (Z0i (pv 0) (Z1h Z04 Z00))) Z00)))
                  case r15 =>
                   refine' Z07 ?s16
                   case s16 =>
                    refine' Z0m ?r
                    case r =>
                     refine' Z19 Z0v (by rfl) T0.tup (by decide +kernel) ?a
                     case a =>
                      refine' Z0d ?x Z00
                      case x =>
                       refine' Z0p Zce (pv 9) ?y
                       case y =>
                        refine' Z1z (N' := ["_law_below", "_law_feed_here", "_law_k", "_law_lets", "_law_world_here"]) (src := [some 3, some 0, none, some 2, some 1]) ?k1 ?k5 ?k6 ?k7
                        case k1 => rfl
                        case k5 => exact Z0s (Z03 Z96) rfl ["_law_feed_here", "_law_world_here", "_law_lets", "_law_below", "_law_kinds", "_law_kind", "_law_found", "_law_names_here", "_law_first", "_law_head", "_law_many"] rfl (by decide +kernel)
                        case k6 => exact Z28 (by rfl) U.T.range (Z0i (pv 10) Z00)
                        case k7 => exact fun cl C ex s0 H0 => ⟨Z0x (i := 2) Zia rfl (Or.inl rfl), Z3b, Z06 ih hrN (by rfl) m F.kp b .nil Z0n (Z0i (pv 1) (Z0i (pv 4) (Z0i (pv 3) (Z0d (Z0p Z36 (pv 0) Z04) Z00))))⟩
   case fin =>
    have ec : cD (N + 1) = 30 + 6 * cD N := rfl
    refine ⟨_, rfl, wd, .int r, rfl, Z3z C0.W, _, _, rfl, rfl, _, rfl, wd, _, rfl, Z8g C0.W, ?_⟩
    have C1 := C0.room (r2 := r - 1)
    refine ⟨Z5h (by decide +kernel), fun e he => ?_⟩
    have C2 := C1.same (Z02 (o := .lst (kinds12.map V.str)) he)
    have E2 : upd (upd H wd (.dK (Z0q nm (r - 1) h sa bg))) e (.lst (kinds12.map V.str)) e = some (.lst (kinds12.map V.str)) := Z01
    generalize upd (upd H wd (.dK (Z0q nm (r - 1) h sa bg))) e (.lst (kinds12.map V.str)) = H2 at C2 E2 ⊢
    refine ⟨fun σ' H' => ∃ (kd : Str) (n' : Nat), σ' = [some (.ref d), some (.ref wd), some (.int lt), some (.int bb), some (.ref e), some (.str kd), none, none, none, none, none] /\ kd ∈ kinds12 /\ n' <= n + 1 /\ Cf H H' d l wd nm bg ns n' (r - 1) h sa T B ts, ?_, ?_⟩
    ·refine ⟨_, rfl, _, rfl, d, l, ns, n, _, rfl, C2.F, by omega, by decide, by decide, fun i n1 H3 i0 i1 hn1 F3 b3 => ?_⟩
     obtain ⟨v3, hv3, hat3⟩ := Z3c (xs := kinds12.map V.str) (i := i) i0 (Int.lt_of_lt_of_le i1 (by decide +kernel))
     obtain ⟨kd, hk, rfl⟩ := List.mem_map.mp hv3
     exact ⟨e, kinds12.map V.str, i, .str kd, rfl, rfl, SqL.of (C2.F.lst b3 E2), hat3, kd, n1, rfl, hk, by omega, C2.draw b3 F3⟩
    rintro σ3 H3 ⟨kd, n3, rfl, hkd, hn3, C3⟩
    refine ⟨fun σ' H' => ∃ (o6 : Option V) (n' : Nat) (r' : Int), σ' = [some (.ref d), some (.ref wd), some (.int lt), some (.int bb), some (.ref e), some (.str kd), o6, none, none, none, none] /\ n' <= n + 2 /\ r' = r - 1 /\ Cf H H' d l wd nm bg ns n' r' h sa T B ts, ?_, ?_⟩
    ·refine ⟨_, rfl, rfl, _, rfl, Z1r (fun g => ?_) (fun g => Z46 ⟨none, n3, _, rfl, by omega, rfl, C3⟩)⟩
     obtain ⟨⟨ws, hbg, hws⟩, hfew, hok⟩ := C3.G
     refine ⟨_, rfl, wd, .ref bg, rfl, Z76 C3.W, Nat.zero_le _, fun q hq => ?_⟩
     have sq := Z02 (o := .lst []) hq
     have C4 := C3.same sq
     have hbg4 := sq _ _ hbg
     have hws4 := IsThs.kp (Kp.of sq) hws
     refine ⟨bg, q, ws, rfl, rfl, SqL.of hbg4, SqL.of Z01, _, rfl, Z1r (fun g2 => ?_) (fun g2 => ⟨none, n3, _, rfl, by omega, rfl, C4⟩)⟩
     have hwl := IsThs.len _ hws
     have hpos : 0 < ws.length := by
      cases ws with
      | nil => exact absurd g2 (by decide)
      | cons _ _ => exact Nat.succ_pos _
     refine ⟨_, rfl, wd, .ref bg, rfl, Z76 C4.W, _, rfl, _, rfl, wd, .ref bg, rfl, Z76 C4.W, bg, ws, rfl, .inl (SqL.of hbg4), d, l, ns, n3, _, rfl, C4.F, by omega, by show (0 : Int) < (ws.length : Int); omega, by show (ws.length : Int) < 18446744073709551616; omega, fun i n5 H5 i0 i1 hn5 F5 b5 => ?_⟩
     have C5 := C4.draw b5 F5
     have hbg5 := C4.F.lst b5 hbg4
     have hws5 := IsThs.kp (C4.kp (But2.of b5)) hws4
     obtain ⟨x, hx, hat5⟩ := Z3c (xs := ws) (i := i) i0 i1
     obtain ⟨j, hj⟩ := List.getElem?_of_mem hx
     obtain ⟨t, htj, hxt⟩ := Z1i _ hws5 hj
     obtain ⟨tp, tc⟩ := hok t (List.mem_of_getElem? htj)
     refine ⟨bg, ws, i, x, rfl, rfl, SqL.of hbg5, hat5, ?_⟩
     refine ⟨_, rfl, _, _, rfl, rfl, _, rfl, Z1r (fun g3 => ?_) (fun g3 => Z46 ⟨some x, n5, _, rfl, by omega, rfl, C5⟩)⟩
     refine ⟨_, rfl, x, t, rfl, hxt, tp, fun H6 s6 => ?_⟩
     have C6 := C5.same s6
     refine ⟨_, rfl, wd, .int _, rfl, Z3z C6.W, _, _, rfl, rfl, _, rfl, Z1r (fun g4 => ?_) (fun g4 => ⟨some x, n5, _, rfl, by omega, rfl, C6⟩)⟩
     refine ⟨_, rfl, wd, .int _, rfl, Z3z C6.W, _, rfl, x, t, rfl, IsTh.kp (Kp.of s6) hxt, tp, fun H7 s7 => ?_⟩
     have C7 := C6.same s7
     refine ⟨_, _, rfl, rfl, _, rfl, wd, _, rfl, Z8g C7.W, _, rfl, ?_⟩
     have g5 : (cnt t : Int) <= r - 1 := by simpa using g4
     have c1 := Zjn tp
     refine k x t n5 _ _ (IsTh.kp (Zjm C7.W) (IsTh.kp (Kp.of (s6.trans s7)) hxt)) (tp.le (by omega)) ⟨by omega, by omega, by omega⟩ (fun z => by rw [z] at htj; simp at htj) (by omega) C7.room
    rintro σ4 H4 ⟨o6, n4, r4, rfl, hn4, hr4, C4⟩
    have fin5 : ∀ H5, Cf H H5 d l wd nm bg ns n4 r4 h sa T B ts -> ∀ (v : V) (t : Th) n' H', IsTh H' v t -> Zdp h t -> n' <= n4 + 5 -> Feed H' d l ns n' -> But d H5 H' -> Q v H' := by
     intro H5 C5 v t n' H' hv ht hn' F' b'
     exact k v t n' r4 H' hv (ht.1.le (by omega)) ⟨by rw [ht.2.1]; omega, by omega, by omega⟩ (fun _ => ht.2.2.2) (by omega) (C5.draw b' F')
    refine ⟨fun σ' H' => σ' = [some (.ref d), some (.ref wd), some (.int lt), some (.int bb), some (.ref e), some (.str kd), o6, none, none, none, none] /\ 2 <= bb /\ 1 <= r4 /\ Cf H H' d l wd nm bg ns n4 r4 h sa T B ts, ?_, ?_⟩
    ·refine ⟨_, rfl, _, _, rfl, rfl, _, rfl, Z1r (fun g => Zej ?_) (fun g => ?_)⟩
     ·exact ⟨_, rfl, _, rfl, _, rfl, d, l, wd, nm, bg, ns, n4, r4, h, sa, lt, T, rfl, C4.F, by omega, C4.W, C4.N, hh, by omega, fin5 _ C4⟩
     have hb2 : 2 <= bb := by
      have : ¬ bb < 2 := fun z => g (by simpa using z)
      omega
     refine ⟨_, rfl, wd, .int r4, rfl, Z3z C4.W, _, _, rfl, rfl, _, rfl, Z1r (fun g2 => Zej ?_) (fun g2 => ?_)⟩
     ·exact ⟨_, rfl, _, rfl, _, rfl, d, l, wd, nm, bg, ns, n4, r4, h, sa, lt, T, rfl, C4.F, by omega, C4.W, C4.N, hh, by omega, fin5 _ C4⟩
     have h41 : 1 <= r4 := by
      have : ¬ r4 < 6 := fun z => g2 (by simpa using z)
      omega
     refine ⟨_, rfl, (by show 2 <= sizeLine; decide), fun q hq => ?_⟩
     have C5 := C4.same (Z02 (o := .tup [.str "leaf", .str "bag"]) hq)
     refine ⟨q, [.str "leaf", .str "bag"], rfl, .inr (SqT.of Z01), rfl, rfl, _, rfl, Z1r (fun g3 => ?_) (fun g3 => ⟨rfl, hb2, h41, C5⟩)⟩
     exact ⟨_, rfl, _, rfl, _, rfl, d, l, wd, nm, bg, ns, n4, r4, h, sa, lt, T, rfl, C5.F, by omega, C5.W, C5.N, hh, by omega, fin5 _ C5⟩
    rintro σ5 H5 ⟨rfl, hb2, h41, C5⟩
    refine ⟨_, rfl, wd, .ref nm, rfl, Z4l C5.W, ?_⟩
    refine ⟨_, rfl, rfl, _, rfl, Z1r (fun g => ?_) (fun g => ?_)⟩
    ·refine ⟨_, rfl, _, rfl, _, rfl, _, rfl, _, _, rfl, rfl, d, l, wd, nm, bg, ns, n4, r4, h, sa, lt, bb - 1, T, ts, rfl, ⟨C5.F, C5.W, C5.N, C5.G, But2.refl _ _ _⟩, by omega, hh, hlt0, hs0, by omega, by omega, by omega, by omega, fun v6 t6 n6 r6 H6 hv6 pf6 cn6 hs6 hn6 C6' => ?_⟩
     have C6 := C5.go C6'.b2 C6'.F C6'.W
     refine ⟨_, rfl, _, rfl, _, rfl, _, rfl, _, _, rfl, rfl, _, rfl, _, _, rfl, rfl, d, l, wd, nm, bg, ns, n6, r6, h, sa, lt + 1, bb - 1, T, ts, rfl, ⟨C6.F, C6.W, C6.N, C6.G, But2.refl _ _ _⟩, by omega, hh, by omega, hs0, by omega, by omega, by omega, by omega, fun v7 t7 n7 r7 H7 hv7 pf7 cn7 hs7 hn7 C7' => ⟨(by show 3 <= sizeLine; decide), fun p hp => ?_⟩⟩
     have C7 := C6.go C7'.b2 C7'.F C7'.W
     have sp := Z02 (o := .tup [.str "let", v6, v7]) hp
     have hv67 := IsTh.kp (C6.kp C7'.b2) hv6
     have nk : ∀ k ∈ [t6, t7], L2.isTup k = true := fun k hk => by
      simp only [List.mem_cons, List.not_mem_nil, or_false] at hk
      rcases hk with rfl | rfl
      ·exact pf6.isTup
      ·exact pf7.isTup
     refine k (.ref p) (nd "let" [] [t6, t7]) n7 r7 _ (.tup Z01 (.cons (.at (by decide +kernel)) (.cons (IsTh.kp (Kp.of sp) hv67) (.cons (IsTh.kp (Kp.of sp) hv7) .nil)))) ?_ ?_ ?_ (by omega) (C7.same sp)
     ·rw [Nat.add_right_comm]
      refine ⟨"let", [], [t6, t7], rfl, Nat.zero_le _, fun v hv => (by cases hv), fun _ => ⟨rfl, rfl⟩, fun z => absurd z (by decide +kernel), by show 2 <= 6; decide, fun k hk => ?_⟩
      simp only [List.mem_cons, List.not_mem_nil, or_false] at hk
      rcases hk with rfl | rfl
      ·exact pf6
      ·exact pf7
     ·rw [Z2e nk]
      simp only [Z3s]
      obtain ⟨c6a, c6b, c6c⟩ := cn6
      obtain ⟨c7a, c7b, c7c⟩ := cn7
      exact ⟨by omega, by omega, by omega⟩
     ·intro z0 i hi
      obtain ⟨k, hk, hj⟩ := (Z2k (by decide +kernel)).mp hi
      simp only [List.mem_cons, List.not_mem_nil, or_false] at hk
      rcases hk with rfl | rfl
      ·exact hs6 z0 i hj
      ·exact hs7 z0 i hj
    ·have hkl : kd ≠ "let" := fun z => g (by rw [z]; decide +kernel)
     have hkh : kd ≠ "hole" := fun z => by rw [z] at hkd; exact absurd hkd (by decide +kernel)
     refine ⟨_, rfl, (by show 1 <= sizeLine; decide), fun ha hha => ?_⟩
     have C6a := C5.same (Z02 (o := .lst [.str kd]) hha)
     refine ⟨MC H d l wd nm bg e ns n4 r4 h sa lt bb T B ts kd o6 0, ⟨ha, [], 1, n4, rfl, Z01, Nat.zero_le _, fun v hv => (by cases hv), by decide, by decide, Nat.le_refl _, C6a⟩, ?_⟩
     rintro σ6 H6 ⟨ha6, hd6, mn6, n6, rfl, A6, hl6, hp6, m60, m61, hn6, C6⟩
     refine ⟨MC H d l wd nm bg e ns n4 r4 h sa lt bb T B ts kd o6 1, ?_, ?_⟩
     ·refine ⟨_, rfl, rfl, _, rfl, Z1r (fun g2 => ?_) (fun g2 => ⟨ha6, hd6, mn6, n6, rfl, A6, hl6, hp6, m60, m61, by omega, C6⟩)⟩
      have ek : kd = "op" := by
       have g' := of_decide_eq_true g2
       injection g'
      subst ek
      refine ⟨_, rfl, d, l, ns, n6, _, rfl, C6.F, by omega, by decide, by decide, fun i n7 H7 i0 i1 hn7 F7 b7 => ?_⟩
      obtain ⟨c, _, hc⟩ := Z3c (xs := ("+-*/<=" : Str).cps.toList) (i := i) i0 (Int.lt_of_lt_of_le i1 (by decide +kernel))
      refine ⟨"+-*/<=", i, c, rfl, rfl, (by decide +kernel), hc, (by show 2 <= sizeLine; decide), fun ha2 hha2 => ?_⟩
      exact ⟨ha2, [.str ⟨#[c]⟩], 2, n7, rfl, Z01, Nat.le_refl _, fun v hv => (by rw [List.mem_singleton] at hv; subst hv; exact ⟨rfl, rfl⟩), by decide, by decide, by omega, (C6.draw b7 F7).same (Z02 hha2)⟩
     rintro σ7 H7 ⟨ha7, hd7, mn7, n7, rfl, A7, hl7, hp7, m70, m71, hn7, C7⟩
     refine ⟨MC H d l wd nm bg e ns n4 r4 h sa lt bb T B ts kd o6 1, ?_, ?_⟩
     ·exact ⟨_, rfl, rfl, _, rfl, Z1r (fun g2 => ⟨ha7, hd7, 3, n7, rfl, A7, hl7, hp7, by decide, by decide, hn7, C7⟩) (fun g2 => ⟨ha7, hd7, mn7, n7, rfl, A7, hl7, hp7, m70, m71, hn7, C7⟩)⟩
     clear A7 hl7 hp7 m70 m71 hn7 C7 A6 hl6 hp6 m60 m61 hn6 C6
     rintro σ8 H8 ⟨ha8, hd8, mn8, n8, rfl, A8, hl8, hp8, m80, m81, hn8, C8⟩
     refine ⟨MC H d l wd nm bg e ns n4 r4 h sa lt bb T B ts kd o6 2, ?_, ?_⟩
     ·refine ⟨_, rfl, rfl, _, rfl, Z1r (fun g2 => ?_) (fun g2 => ⟨ha8, hd8, mn8, n8, rfl, A8, hl8, hp8, m80, m81, by omega, C8⟩)⟩
      refine ⟨(by show 6 <= sizeLine; decide), fun q hq => ?_⟩
      have sq := Z02 (o := .lst [.int 2, .int 1, .int 3, .int 2, .int 6, .int 4]) hq
      have C9 := C8.same sq
      refine ⟨_, rfl, d, l, ns, n8, _, rfl, C9.F, by omega, by decide, by decide, fun i n9 H9 i0 i1 hn9 F9 b9 => ?_⟩
      obtain ⟨v, hv, hat⟩ := Z3c (xs := ([.int 2, .int 1, .int 3, .int 2, .int 6, .int 4] : List V)) (i := i) i0 i1
      obtain ⟨z, rfl, z0, z1⟩ : ∃ z : Int, v = .int z /\ 0 <= z /\ z <= 6 := by
       simp only [List.mem_cons, List.not_mem_nil, or_false] at hv
       rcases hv with rfl | rfl | rfl | rfl | rfl | rfl <;> exact ⟨_, rfl, by decide, by decide⟩
      exact ⟨q, _, i, .int z, rfl, rfl, SqL.of (C9.F.lst b9 Z01), hat, ha8, hd8, z, n9, rfl, C9.F.lst b9 (sq _ _ A8), hl8, hp8, z0, z1, by omega, C9.draw b9 F9⟩
     clear A8 hl8 hp8 m80 m81 hn8 C8
     rintro σ9 H9 ⟨ha9, hd9, mn9, n9, rfl, A9, hl9, hp9, m90, m91, hn9, C9⟩
     have l1 := C9.N.l1
     have l2 := C9.N.l2
     have hTl : ((T.map V.str).length : Int) = (T.length : Int) := by rw [List.length_map]
     refine ⟨MC H d l wd nm bg e ns n4 r4 h sa lt bb T B ts kd o6 4, ?_, ?_⟩
     ·refine ⟨_, rfl, rfl, _, rfl, Z1r (fun g2 => ?_) (fun g2 => ⟨ha9, hd9, mn9, n9, rfl, A9, hl9, hp9, m90, m91, by omega, C9⟩)⟩
      have ek : kd = "call" := by
       have g' := of_decide_eq_true g2
       injection g'
      subst ek
      refine ⟨_, rfl, _, rfl, _, rfl, nm, T.map V.str, rfl, .inl (SqL.of C9.N.a), d, l, ns, n9, _, rfl, C9.F, by omega, by show (0 : Int) < ((T.map V.str).length : Int); omega, by show ((T.map V.str).length : Int) < 18446744073709551616; omega, fun i n10 H10 i0 i1 hn10 F10 b10 => ?_⟩
      obtain ⟨v, hv, hat⟩ := Z3c (xs := T.map V.str) (i := i) i0 i1
      obtain ⟨t, ht, rfl⟩ := List.mem_map.mp hv
      have hNm := C9.N.nm t ht
      have C10 := C9.draw b10 F10
      refine ⟨nm, T.map V.str, i, .str t, rfl, rfl, SqL.of C10.N.a, hat, (by show 2 <= sizeLine; decide), fun ha2 hha2 => ?_⟩
      have s11 := Z02 (o := .lst [.str "call", .str t]) hha2
      have C11 := C10.same s11
      refine ⟨(by show 6 <= sizeLine; decide), fun q hq => ?_⟩
      have sq := Z02 (o := .lst [.int 1, .int 0, .int 2, .int 3, .int 6, .int 1]) hq
      have C12 := C11.same sq
      refine ⟨_, rfl, d, l, ns, n10, _, rfl, C12.F, by omega, by decide, by decide, fun i n13 H13 i0 i1 hn13 F13 b13 => ?_⟩
      obtain ⟨v, hv, hat⟩ := Z3c (xs := ([.int 1, .int 0, .int 2, .int 3, .int 6, .int 1] : List V)) (i := i) i0 i1
      obtain ⟨z, rfl, z0, z1⟩ : ∃ z : Int, v = .int z /\ 0 <= z /\ z <= 6 := by
       simp only [List.mem_cons, List.not_mem_nil, or_false] at hv
       rcases hv with rfl | rfl | rfl | rfl | rfl | rfl <;> exact ⟨_, rfl, by decide, by decide⟩
      exact ⟨q, _, i, .int z, rfl, rfl, SqL.of (C12.F.lst b13 Z01), hat, ha2, [.str t], z, n13, rfl, C12.F.lst b13 (sq _ _ Z01), Nat.le_refl _, fun v hv => (by rw [List.mem_singleton] at hv; subst hv; exact ⟨rfl, decide_eq_true (Nat.le_trans hNm.1.2 (by decide))⟩), z0, z1, by omega, C12.draw b13 F13⟩
     clear A9 hl9 hp9 m90 m91 hn9 C9
     rintro σ10 H10 ⟨ha10, hd10, mn10, n10, rfl, A10, hl10, hp10, m100, m101, hn10, C10⟩
     refine ⟨MC H d l wd nm bg e ns n4 r4 h sa lt bb T B ts kd o6 5, ?_, ?_⟩
     ·refine ⟨_, rfl, rfl, _, rfl, Z1r (fun g2 => ?_) (fun g2 => ⟨ha10, hd10, mn10, n10, rfl, A10, hl10, hp10, m100, m101, by omega, C10⟩)⟩
      have ek : kd = "set" := by
       have g' := of_decide_eq_true g2
       injection g'
      subst ek
      refine ⟨_, rfl, _, rfl, _, rfl, nm, T.map V.str, rfl, .inl (SqL.of C10.N.a), d, l, ns, n10, _, rfl, C10.F, by omega, by show (0 : Int) < ((T.map V.str).length : Int); omega, by show ((T.map V.str).length : Int) < 18446744073709551616; omega, fun i n11 H11 i0 i1 hn11 F11 b11 => ?_⟩
      obtain ⟨v, hv, hat⟩ := Z3c (xs := T.map V.str) (i := i) i0 i1
      obtain ⟨t, ht, rfl⟩ := List.mem_map.mp hv
      have hNm := C10.N.nm t ht
      have C11 := C10.draw b11 F11
      refine ⟨nm, T.map V.str, i, .str t, rfl, rfl, SqL.of C11.N.a, hat, (by show 2 <= sizeLine; decide), fun ha2 hha2 => ?_⟩
      exact ⟨ha2, [.str t], mn10, n11, rfl, Z01, Nat.le_refl _, fun v hv => (by rw [List.mem_singleton] at hv; subst hv; exact ⟨rfl, decide_eq_true (Nat.le_trans hNm.1.2 (by decide))⟩), m100, m101, by omega, C11.same (Z02 hha2)⟩
     clear A10 hl10 hp10 m100 m101 hn10 C10
     rintro σ11 H11 ⟨ha11, hd11, mn11, n11, rfl, A11, hl11, hp11, m110, m111, hn11, C11⟩
     refine ⟨MC H d l wd nm bg e ns n4 r4 h sa lt bb T B ts kd o6 6, ?_, ?_⟩
     ·refine ⟨_, rfl, rfl, _, rfl, Z1r (fun g2 => ?_) (fun g2 => ⟨ha11, hd11, mn11, n11, rfl, A11, hl11, hp11, m110, m111, by omega, C11⟩)⟩
      have ek : kd = "again" := by
       have g' := of_decide_eq_true g2
       injection g'
      subst ek
      refine ⟨_, rfl, d, l, ns, n11, _, rfl, C11.F, by omega, by decide, by decide, fun i n12 H12 i0 i1 hn12 F12 b12 => ⟨(by show 2 <= sizeLine; decide), fun ha2 hha2 => ?_⟩⟩
      exact ⟨ha2, [.int i], mn11, n12, rfl, Z01, Nat.le_refl _, fun v hv => (by rw [List.mem_singleton] at hv; subst hv; exact ⟨rfl, rfl⟩), m110, m111, by omega, (C11.draw b12 F12).same (Z02 hha2)⟩
     clear A11 hl11 hp11 m110 m111 hn11 C11
     rintro σ12 H12 ⟨ha, hd, mn, n12, rfl, A12, hl12, hp12, m120, m121, hn12, C12⟩
     have hkds : Z54 (.str kd) = true := (by decide +kernel : ∀ t ∈ kinds12, Z54 (.str t) = true) kd hkd
     refine ⟨_, rfl, _, rfl, mn, rfl, by omega, by omega, Z68 (lo := 0) (n := mn.toNat) (fun j ys σc H' => ∃ (o : Option V) (n' : Nat) (r' : Int) (cs : List Th), σc = [some (.int bb), some (.ref d), o, some (.int lt), some (.ref wd)] /\ ys.length = j /\ IsThs H' ys cs /\ (∀ t ∈ cs, PfT (N + B) t /\ (ts = [] -> ∀ i ∈ hs t, ((i : Nat) : Int) < h)) /\ ((Z3s cs : Int) + r' <= r4 /\ 1 - 6 * (N : Int) - j <= r') /\ n' <= n12 + j * cD N /\ Cf H H' d l wd nm bg ns n' r' h sa T B ts /\ H' ha = some (.lst (.str kd :: hd)))
      ⟨none, n12, r4, [], rfl, rfl, .nil, fun t ht => (by cases ht), ⟨by show ((0 : Nat) : Int) + r4 <= r4; omega, by omega⟩, by omega, C12, A12⟩ ?_ ?_⟩
     ·rintro j ys σc H' hj ⟨o, n', r', cs, rfl, hyl, hys, hcs, hrm, hn', C', A'⟩
      have hj6 : j <= 5 := by omega
      have hjm := Nat.mul_le_mul_right (cD N) hj6
      refine ⟨by omega, ?_⟩
      refine ⟨_, rfl, _, rfl, _, rfl, _, rfl, _, _, rfl, rfl, d, l, wd, nm, bg, ns, n', r', h, sa, lt, bb - 1, T, ts, rfl, ⟨C'.F, C'.W, C'.N, C'.G, But2.refl _ _ _⟩, by omega, hh, hlt0, hs0, by omega, by omega, by omega, by omega, fun v t n2 r2 H2 hv pf cn hs' hn2 C2' => nx hj ⟨_, n2, r2, cs ++ [t], rfl, by rw [List.length_append, hyl]; rfl, IsThs.app _ (IsThs.kp (C'.kp C2'.b2) hys) (.cons hv .nil), fun x hx => ?_, ?_, by rw [Nat.succ_mul]; omega, C'.go C2'.b2 C2'.F C2'.W, C'.kp C2'.b2 _ _ A' (by intro kvs q; cases q)⟩⟩
      ·rcases List.mem_append.mp hx with z | z
       ·exact hcs x z
       ·rw [List.mem_singleton.mp z]
        exact ⟨pf, hs'⟩
      ·obtain ⟨ca, cb, cc⟩ := cn
       rw [Z8d]
       exact ⟨by omega, by omega⟩
     ·rintro ys σc H' ⟨o, n', r', cs, rfl, hyl, hys, hcs, hrm, hn', C', A'⟩ q hq
      have sq := Z02 (o := .lst ys) hq
      have hcl := IsThs.len _ hys
      have hm6 : mn.toNat <= 6 := by omega
      have hjm := Nat.mul_le_mul_right (cD N) hm6
      refine ⟨ha, q, .str kd :: hd, ys, rfl, rfl, sq _ _ A', Z01, by rw [List.length_cons]; omega, fun l2 hl2 => ?_⟩
      have s2 := Z02 (o := .lst ((.str kd :: hd) ++ ys)) hl2
      refine ⟨l2, _, rfl, .inl ⟨SqL.of Z01, fun p hp => ?_⟩⟩
      have s3 := Z02 (o := .tup ((.str kd :: hd) ++ ys)) hp
      have sA := (sq.trans s2).trans s3
      have nk : ∀ k ∈ cs, L2.isTup k = true := fun k hk => (hcs k hk).1.isTup
      have hhd : ∀ (H0 : Hp) (hd : List V), (∀ v ∈ hd, plT (.at v) = true /\ Z54 v = true) -> IsThs H0 hd (hd.map Th.at) := by
       intro H0 hd
       induction hd with
       | nil => intro _; exact .nil
       | cons x hd ih2 => intro hx; exact .cons (.at (hx x (List.mem_cons_self ..)).2) (ih2 fun v hv => hx v (List.mem_cons_of_mem _ hv))
      refine k (.ref p) (nd kd hd cs) n' r' _ (.tup Z01 (.cons (.at hkds) (IsThs.app _ (hhd _ hd hp12) (IsThs.kp (Kp.of sA) hys)))) ?_ ?_ ?_ (by omega) (C'.same sA)
      ·rw [Nat.add_right_comm]
       exact ⟨kd, hd, cs, rfl, hl12, fun v hv => (hp12 v hv).1, fun z => absurd z hkl, fun z => absurd z hkh, by omega, fun k hk => (hcs k hk).1⟩
      ·rw [Z2e nk]
       exact ⟨by omega, by omega, by omega⟩
      ·intro z0 i hi
       obtain ⟨k, hk, hj⟩ := (Z2k hkh).mp hi
       exact (hcs k hk).2 z0 i hj
end
end K16
namespace L2
open PySem PySem.Spec PyProof.Rows
section
variable {M : Model} {A : Around} {E : Value -> Shared -> Prop} {env : Env} {nm q : Str} {C N : Addr} {bs bm : List Value} {hdct : Bool} {sn : List Str} {sub : List Value} {ab : Bool} {col : Option Bool} {dd : Option Addr} {k0 k1 k2 k3 k5 : Option Value} {newId : String} {s : Shared}
theorem Z4p {e : Addr} {o : Obj} {Q : Value -> Shared -> Prop} (he : s.heap.get? e = some o) (h : Q o.cls s) : wpAny M A (typeOf (.ref e)) Q E s :=
 wpAny_bind (wpAny_loadPart he (wpAny_pure h))
theorem Zdr {e : Addr} {o : Obj} {vs : Array Value} {Q : Bool -> Shared -> Prop} (he : s.heap.get? e = some o) (hd : o.data = .fields vs) (h : Q false s) : wpAny M A (isType (.ref e)) Q E s := by
 refine wpAny_bind (wpAny_loadPart he (wpAny_pure ?_))
 rw [hd]
 exact h
theorem Z9d {base : Value} {Q : Bool -> Shared -> Prop} (hC : s.heap.get? C = some (excClassObj nm q C N bs bm hdct sn sub ab col dd k0 k1 k2 k3 k5 newId)) (h : Q ((Value.ref C :: bm).contains base) s) : wpAny M A (isSubtype (.ref C) base) Q E s := by
 obtain ⟨hp, g, d, t, os⟩ := s
 exact wpAny_isSubtype_exc hC h
theorem Z4x {e : Addr} {o : Obj} {base : Value} {Q : Bool -> Shared -> Prop} (hC : s.heap.get? C = some (excClassObj nm q C N bs bm hdct sn sub ab col dd k0 k1 k2 k3 k5 newId)) (he : s.heap.get? e = some o) (hc : o.cls = .ref C) (h : Q ((Value.ref C :: bm).contains base) s) :
  wpAny M A (isInstance (.ref e) base) Q E s := by
 refine wpAny_bind (Z4p he ?_)
 rw [hc]
 exact Z9d hC h
theorem Zic {e : Addr} {o : Obj} {vs : Array Value} {Q : Unit -> Shared -> Prop} (he : s.heap.get? e = some o) (hd : o.data = .fields vs) (h1 : vs[1]? = some .none) (h : Q () s) : wpAny M A (setFlight (.ref e) none) Q E s := by
 refine wpAny_bind (wpAny_field he hd h1 ?_)
 exact wpAny_pure h
theorem Z77 {Q : Bool -> Shared -> Prop} (hC : s.heap.get? C = some (excClassObj nm q C N bs bm hdct sn sub ab col dd k0 k1 k2 k3 k5 newId)) (h : Q true s) : wpAny M A (isType (.ref C)) Q E s :=
 wpAny_bind (wpAny_loadPart hC (wpAny_pure h))
theorem Zds {B initId : String} {bmB : List Value} (F : ExcBaseFacts B newId initId bmB) (hB : (Value.ref C :: bm).contains (.type B) = true) {rest : List Value} {Q : Unit -> Shared -> Prop}
  (hC : s.heap.get? C = some (excClassObj nm q C N bs bm hdct sn sub ab col dd k0 k1 k2 k3 k5 newId)) (h : Q () s) : wpAny M A (checkBuiltinCall newId { pos := .ref C :: rest }) Q E s := by
 unfold checkBuiltinCall
 rw [F.newKind, F.newSplit, F.newRow]
 refine wpAny_ite_true rfl ?_
 refine wpAny_bind (Z77 hC ?_)
 refine wpAny_ite_false rfl ?_
 refine wpAny_bind (Z9d hC ?_)
 rw [hB]
 refine wpAny_ite_false rfl ?_
 obtain ⟨hp, g, d, t, os⟩ := s
 refine wpAny_bind (wpAny_staticBase_exc hC ?_)
 refine wpAny_bind (wpAny_madeBy_exc hC ?_)
 refine wpAny_ite_false (by simp) ?_
 have hpr : ∀ (b : Bool) (sg : Manifest.Signature) (r : Option Value), Bind.printed B b sg r = pure B := fun b sg r => by
  unfold Bind.printed
  rw [F.noStar]
  rfl
 refine wpAny_bind (wpAny_of_eq (hpr _ _ _) ?_)
 refine wpAny_bind (wpAny_of_eq (hpr _ _ _) ?_)
 exact wpAny_onRaise (wpAny_pure h)
theorem Zfr {prog : Program} {w : World} {R : Result -> Shared -> Prop} {B initId : String} {bmB : List Value} (F : ExcBaseFacts B newId initId bmB) (hB : (Value.ref C :: bm).contains (.type B) = true) (hA : (Value.ref C :: bm).contains (.type "AttributeError") = false) (hN : (Value.ref C :: bm).contains (.type "NameError") = false) {rest : List Value}
  (hC : s.heap.get? C = some (excClassObj nm q C N bs bm hdct sn sub ab col dd k0 k1 k2 k3 k5 newId))
  (h : R (.ok (.ret (.ref (s.heap.objs.size + 1)))) { s with heap := (s.heap.push { cls := .type "tuple", data := .seq rest.toArray }).push { cls := .ref C, data := .fields #[.ref s.heap.objs.size, .none, .none, .none, .bool false, .none] } })
  (hl : rest.length <= sizeLine) : codeAny (model prog w) A (.builtin newId { pos := .ref C :: rest }) R s := by
 refine codeAny_builtinAt F.entry ?_
 unfold Builtin.«BaseException.__new__»
 refine PySem.wpAt_bind ?_
 refine PySem.wpAt_bind (PySem.wpAt_stack fun p below => ?_)
 refine wpAt_of_wpAny (wpAny_ite_true (decide_eq_true F.ends) (wpAny_pure ?_))
 rw [F.owner]
 refine wpAt_of_wpAny ?_
 refine wpAny_bind (Z77 hC ?_)
 refine wpAny_ite_false rfl ?_
 refine wpAny_bind (Z9d hC ?_)
 rw [hB]
 refine wpAny_ite_false rfl ?_
 obtain ⟨hp, g, d, t, os⟩ := s
 refine wpAny_bind (wpAny_madeHere_exc F.canon hC ?_)
 refine wpAny_bind (wpAny_bind (wpAny_isSubtype_exc hC ?_))
 rw [hA]
 refine wpAny_ite_false rfl (wpAny_bind (wpAny_isSubtype_exc hC ?_))
 rw [hN]
 refine wpAny_ite_false rfl (wpAny_pure ?_)
 refine wpAny_bind (wpAny_newTuple ?_ hl)
 have hC2 : (hp.push { cls := .type "tuple", data := .seq rest.toArray }).get? C = _ := Heap.get?_push_of_some _ hC
 have e1 : (#[Value.ref hp.objs.size, .none, .none, .none, .bool false, .none] ++ (List.replicate 0 (rawInt 0)).toArray) = #[Value.ref hp.objs.size, .none, .none, .none, .bool false, .none] := rfl
 refine wpAny_bind ?_
 show wpAny _ _ (newObj (.ref C) (.fields (#[Value.ref hp.objs.size, .none, .none, .none, .bool false, .none] ++ (List.replicate 0 (rawInt 0)).toArray))) _ _ _
 rw [e1]
 have e2 : ¬ (#[Value.ref hp.objs.size, .none, .none, .none, .bool false, .none] : Array Value).size > sizeLine + 2 := by
  show ¬ 6 > sizeLine + 2
  decide
 unfold newObj
 simp only [if_neg e2]
 refine wpAny_bind (wpAny_alloc' ?_)
 refine wpAny_bind (wpAny_bind (wpAny_load' (Heap.get?_push_of_some _ hC2) (wpAny_pure ?_)))
 refine wpAny_ite_false rfl ?_
 refine wpAny_pure (wpAny_pure ?_)
 show R (.ok (.ret (.ref (hp.push { cls := .type "tuple", data := .seq rest.toArray }).objs.size))) _
 rw [Heap.size_push]
 exact h
theorem Zbh {x : Sem Value} {Q : Flow -> Shared -> Prop} (hb : bm.contains (Value.type "BaseException") = true) (hh : A.handled = none)
  (h : wpAny M A x (fun v s1 => ∃ e oe vs, v = .ref e /\ s1.heap.get? C = some (excClassObj nm q C N bs bm hdct sn sub ab col dd k0 k1 k2 k3 k5 newId) /\ s1.heap.get? e = some oe /\ oe.cls = .ref C /\ oe.data = .fields vs /\ vs[1]? = some .none /\ E (.ref e) s1) E s) :
  wpAny M A (raiseStmt env (some x) none) Q E s := by
 have hb2 : (Value.ref C :: bm).contains (Value.type "BaseException") = true := by
  rw [List.contains_cons, hb, Bool.or_true]
 refine wpAny_bind (wpAny_mono h ?_ fun _ _ z => z)
 rintro v s1 ⟨e, oe, vs, rfl, hC, he, hc, hd, h1, z⟩
 refine wpAny_bind (wpAny_pure ?_)
 refine wpAny_bind (wpAny_holding ?_)
 refine wpAny_bind (wpAny_bind (Zdr he hd (wpAny_pure ?_)))
 refine wpAny_bind (Z4x hC he hc ?_)
 rw [hb2]
 refine wpAny_pure ?_
 refine wpAny_bind (Zdr he hd ?_)
 refine wpAny_bind (wpAny_bind (Z4p he ?_))
 rw [hc]
 refine wpAny_bind (Z4p hC ?_)
 refine wpAny_pure ?_
 refine wpAny_bind (Zic he hd h1 ?_)
 refine wpAny_bind (wpAny_handled ?_)
 rw [hh]
 exact wpAny_throw z
theorem Zbi {B initId nid : String} {bmB : List Value} (F : ExcBaseFacts B nid initId bmB) (hB : (Value.ref C :: bm).contains (.type B) = true) {e : Addr} {oe : Obj} {rest : List Value} {Q : Unit -> Shared -> Prop}
  (hC : s.heap.get? C = some (excClassObj nm q C N bs bm hdct sn sub ab col dd k0 k1 k2 k3 k5 newId)) (he : s.heap.get? e = some oe) (hc : oe.cls = .ref C) (h : Q () s) : wpAny M A (checkBuiltinCall initId { pos := .ref e :: rest }) Q E s := by
 unfold checkBuiltinCall
 rw [F.initKind, F.initSplit, F.initRow]
 refine wpAny_bind (Z4x hC he hc ?_)
 rw [hB]
 refine wpAny_ite_false rfl ?_
 have hpr : ∀ (b : Bool) (sg : Manifest.Signature) (r : Option Value), Bind.printed B b sg r = pure B := fun b sg r => by
  unfold Bind.printed
  rw [F.noStar]
  rfl
 refine wpAny_bind ?_
 show wpAny M A (Bind.printed "*" true _ (some (.ref e))) _ _ _
 refine wpAny_ite_false (by decide) ?_
 refine wpAny_bind (wpAny_ite_false rfl (Z4p he ?_))
 rw [hc]
 obtain ⟨hp, g, d, t, os⟩ := s
 refine wpAny_bind (wpAny_bind (wpAny_bind (wpAny_load' hC (wpAny_pure (wpAny_pure ?_)))))
 refine wpAny_pure ?_
 refine wpAny_bind (wpAny_of_eq (hpr _ _ _) ?_)
 refine wpAny_onRaise (wpAny_of_eq (check_star_args _ _ _ _ _ _) h)
theorem Zdt {prog : Program} {w : World} {R : Result -> Shared -> Prop} {B initId nid : String} {bmB : List Value} (F : ExcBaseFacts B nid initId bmB) (hq : initId.startsWith "lifetime." = false) (hB : (Value.ref C :: bm).contains (.type B) = true) {e : Addr} {oe : Obj} {vs : Array Value} {x0 : Value} {rest : List Value}
  (hC : s.heap.get? C = some (excClassObj nm q C N bs bm hdct sn sub ab col dd k0 k1 k2 k3 k5 newId)) (he : s.heap.get? e = some oe) (hc : oe.cls = .ref C) (hd : oe.data = .fields vs) (h0 : vs[0]? = some x0) (hl : rest.length <= sizeLine)
  (h : R (.ok (.ret .none)) { s with heap := (s.heap.push { cls := .type "tuple", data := .seq rest.toArray }).update e (Obj.mapFields fun a => a.setIfInBounds 0 (.ref s.heap.objs.size)) }) :
  codeAny (model prog w) A (.call (.builtin initId) ⟨.ref e :: rest, []⟩) R s := by
 refine codeAny_call_builtin_at (Code.quiet_builtin _ hq) F.initEntry (Zbi F hB hC he hc ?_)
 have h0' : 0 < vs.size := by
  rcases Nat.lt_or_ge 0 vs.size with z | z
  ·exact z
  ·rw [Array.getElem?_eq_none z] at h0; cases h0
 refine wpAny_bind (wpAny_newTuple ?_ hl)
 refine wpAny_bind (wpAny_bind (wpAny_field (Heap.get?_push_of_some _ he) hd h0 ?_))
 refine wpAny_bind (wpAny_setField (Heap.get?_push_of_some _ he) hd h0' ?_)
 cases x0 with
 | ref a => exact wpAny_letGo (wpAny_pure h)
 | _ => exact wpAny_pure (wpAny_pure h)
theorem Zfs {e : Addr} {oe : Obj} {nv : Value} {Q : Unit -> Shared -> Prop} (hB : (Value.ref C :: bm).contains (.type "BaseException") = true)
  (hC : s.heap.get? C = some (excClassObj nm q C N bs bm hdct sn sub ab col dd k0 k1 k2 k3 k5 newId)) (he : s.heap.get? e = some oe) (hc : oe.cls = .ref C) (h : Q () s) : wpAny M A (checkBuiltinCall "BaseException.__getattribute__" { pos := [.ref e, nv] }) Q E s := by
 unfold checkBuiltinCall
 rw [show builtinKind "BaseException.__getattribute__" = some Manifest.AttrKind.slot by decide +kernel, show splitId "BaseException.__getattribute__" = some ("BaseException", "__getattribute__") by decide +kernel]
 refine wpAny_bind (Z4x hC he hc ?_)
 rw [hB]
 refine wpAny_ite_false rfl ?_
 exact wpAny_of_eq (F.args_bexc_ga _ _) h
theorem Zft {prog : Program} {w : World} {K : PySem.W.Frag} {R : Result -> Shared -> Prop} {B initId : String} {bmB : List Value} {fI : Addr} {us : List Value} (F : ExcBaseFacts B newId initId bmB) (hB : (Value.ref C :: bm).contains (.type B) = true) (hA : (Value.ref C :: bm).contains (.type "AttributeError") = false) (hN : (Value.ref C :: bm).contains (.type "NameError") = false)
  (KX : K.In s.heap) (hk : K.lookup C = some (excClassObj nm q C N bs bm hdct sn sub ab col dd k0 k1 k2 k3 k5 newId)) (hi : PySem.W.findIn K (.ref C) "__init__" = some (some (.ref fI))) (hf : PySem.W.typeIn K (.ref fI) = some (.type "function")) (hl : us.length <= sizeLine)
  (h : codeAny (model prog w) (A.under (.builtin "type.__call__" ⟨.ref C :: us, []⟩)) (.call (.ref fI) ⟨.ref (s.heap.objs.size + 1) :: us, []⟩) (PySem.W.InitBack (s.heap.objs.size + 1) R)
   { s with heap := (s.heap.push { cls := .type "tuple", data := .seq us.toArray }).push { cls := .ref C, data := .fields #[.ref s.heap.objs.size, .none, .none, .none, .bool false, .none] } }) :
  codeAny (model prog w) A (.call (.ref C) ⟨us, []⟩) R s := by
 have hC := KX _ _ hk
 refine codeAny_of_tree ?_
 refine wpAny_bind ?_
 obtain ⟨hp, g, d, t, os⟩ := s
 refine wpAny_load' hC ?_
 refine wpAny_bind (wpAny_bind (Z4p hC (wpAny_of_eq tc_lookup ?_)))
 refine wpAny_bind (wpAny_of_eq (tc_bind _) ?_)
 refine wpAny_bind (wpAny_pure ?_)
 refine wpAny_ite_true rfl (wpAny_pure ⟨?_, ?_⟩)
 ·rfl
 refine codeAny_call_builtin_at (Code.quiet_builtin _ (by decide +kernel)) entry_typeCall (wpAny_check_type_call_sub hC ?_)
 unfold Builtin.«type.__call__»
 refine wpAny_ite_false rfl ?_
 refine wpAny_bind (wpAny_bind (wpAny_bind (wpAny_load' hC (wpAny_pure (wpAny_pure ?_)))))
 refine wpAny_ite_false rfl ?_
 refine wpAny_bind (wpAny_madeBy_exc hC ?_)
 refine wpAny_bind (wpAny_pure ?_)
 refine wpAny_bind (wpAny_holding (wpAny_call (codeAny_of_tree ?_)))
 refine wpAny_bind (Zds F hB hC ?_)
 refine wpAny_pure ⟨Code.quiet_builtin _ F.quiet, ?_⟩
 refine Zfr F hB hA hN hC ?_ hl
 have k1 : ∀ b o, hp.get? b = some o -> ((hp.push { cls := .type "tuple", data := .seq us.toArray }).push { cls := .ref C, data := .fields #[.ref hp.objs.size, .none, .none, .none, .bool false, .none] }).get? b = some o := fun b o e => Heap.get?_push_of_some _ (Heap.get?_push_of_some _ e)
 have KX2 := KX.keeps k1
 have he : ((hp.push { cls := .type "tuple", data := .seq us.toArray }).push { cls := .ref C, data := .fields #[.ref hp.objs.size, .none, .none, .none, .bool false, .none] }).get? (hp.objs.size + 1) = some { cls := .ref C, data := .fields #[.ref hp.objs.size, .none, .none, .none, .bool false, .none] } := by
  have := Heap.get?_push_size (hp.push { cls := .type "tuple", data := .seq us.toArray }) (o := { cls := .ref C, data := .fields #[.ref hp.objs.size, .none, .none, .none, .bool false, .none] }) rfl
  rwa [Heap.size_push] at this
 refine wpAny_bind (Z4x (k1 _ _ hC) he rfl ?_)
 refine wpAny_ite_false (by rw [List.contains_cons]; simp) ?_
 refine wpAny_bind (wpAny_holding (wpAny_bind (wpAny_bind (Z4p he ?_))))
 refine PySem.W.looks_findIn KX2 hi _ _ _ _ (fun b o e => e) ?_
 refine wpAny_holding (wpAny_bind (PySem.W.bind_fn KX2 _ hf _ _ _ _ (fun b o e => e) ?_))
 refine wpAny_bind (wpAny_call (codeAny_mono h fun r s' hr => ?_))
 cases r with
 | error e => exact hr
 | ok fl =>
  cases fl with
  | ret v =>
   obtain ⟨rfl, z⟩ := hr
   exact wpAny_pure (wpAny_ite_false rfl (wpAny_pure z))
  | next => exact hr
  | brk => exact hr
  | cont => exact hr
end
section
variable {M : Model} {A : Around} {E : Value -> Shared -> Prop} {s : Shared} {base : Heap} {env : Env} {outer : List Env} {L e d C : Addr}
end
section
variable {P : Program} {w : World} {S : Addr -> Prop} {fs fs' : List Addr} {H H' : Hp} {h h1 h2 : Heap}
end
theorem ObjOk.get {P : Program} {w : World} {H : Hp} {h : Heap} {a : Addr} {o : HO} (x : ObjOk P w H h a o) : ∃ ob, h.get? a = some ob := by
 cases o with
 | lst xs => obtain ⟨_, _, _, _, e⟩ := x; exact ⟨_, e⟩
 | tup xs => obtain ⟨_, _, _, ob, e, _⟩ := x; exact ⟨_, e⟩
 | dK kvs => obtain ⟨_, _, _, _, o, _, _, e, _⟩ := x; exact ⟨_, e⟩
 | dT kvs => obtain ⟨_, _, _, _, o, _, _, e, _⟩ := x; exact ⟨_, e⟩
 | set S n => obtain ⟨o, _, _, _, e, _⟩ := x; exact ⟨_, e⟩
 | ins C dx fs => obtain ⟨_, _, _, e, _⟩ := x; exact ⟨_, e⟩
 | own y => obtain ⟨_, e⟩ := x; exact ⟨_, e⟩
 | xd fs => obtain ⟨_, ⟨_, _, _, e, _⟩, _⟩ := x; exact ⟨_, e⟩
 | met f x' => exact ⟨_, x⟩
 | rng lo hi => obtain ⟨_, _, _, e⟩ := x; exact ⟨_, e⟩
 | frz o u => exact ⟨_, x.1⟩
 | tbl ps => exact ⟨_, x⟩
 | ext φ => exact x.2.1
theorem HOk.unk {P : Program} {w : World} {H : Hp} {h : Heap} {a : Addr} (x : HOk P w H h) (n : h.get? a = none) : H a = none := by
 cases z : H a with
 | none => rfl
 | some o =>
  obtain ⟨ob, e⟩ := (x a o z).get
  rw [n] at e
  cases e
section
variable {X : Cx} {pins : List (Addr × Obj)} {σ : St} {H : Hp} {s : Shared} {C a d T : Addr} {E : XK}
end
section
variable {X : Cx} {pins : List (Addr × Obj)} {σ : St} {H : Hp} {s : Shared}
theorem Zdu {M : Model} {A : Around} {E : Value -> Shared -> Prop} {j : Nat} {x : Str} {v : V} {Q : Unit -> Shared -> Prop} (I : Inv X pins σ H s) (hN : X.N.Nodup) (hj : X.N[j]? = some x) (hx : X.env.scope.names.lookup x = some .local) (hv : σ[j]? = some (some v))
  (h : ∀ s', Inv X pins (σ.set j none) H s' -> Q () s') : wpAny M A (unbindName X.env x) Q E s := by
 obtain ⟨m, hn, hl⟩ := id I.loc
 have hcls : (X.env.scope.kind == .class || (X.env.scope.kind == .module && X.env.locals != X.env.globals)) = false := by rw [I.ok.kind]; rfl
 have cne := I.cne
 obtain ⟨u, ru, lu⟩ := hl j x v hj hv (.inl hx)
 have hm : m x = some u := by
  rcases lu with ⟨_, q⟩ | ⟨k, _⟩
  ·exact q
  ·have hx' : X.env.kindOf x = some .local := hx
   rcases k with k | k <;> (rw [hx'] at k; cases k)
 refine wpAny_unbindName_local hx hn hm hcls fun h' u' hn' hs => ?_
 obtain ⟨oL, _, _, hoL, _⟩ := id hn
 refine h _ ⟨I.ok, I.os, I.bare, ⟨fun b o e n hb hx => ?_, fun b o e n hb hx => ?_, I.base.free, fun b o e hx => ?_, I.base.tups, I.base.frzs, I.base.tbls⟩, ⟨_, hn', fun i y v' e1 e2 e3 => ?_⟩, fun y c e => ?_, I.free, I.freeC, fun p hp => ?_, fun b ob e => ?_, by simpa using I.len⟩
 ·exact (hs.2 b (Nat.ne_of_lt (Nat.lt_of_lt_of_le (Heap.lt_size e) I.ok.above))).trans (I.base.keep b o e n hb hx)
 ·obtain ⟨sl, e1⟩ := I.base.slot b o e n hb hx
  exact ⟨sl, (hs.2 b (Nat.ne_of_lt (Nat.lt_of_lt_of_le (Heap.lt_size e) I.ok.above))).trans e1⟩
 ·obtain ⟨o', e1⟩ := I.base.there b o e hx
  exact ⟨o', (hs.2 b (Nat.ne_of_lt (Nat.lt_of_lt_of_le (Heap.lt_size e) I.ok.above))).trans e1⟩
 ·by_cases hij : i = j
  ·subst hij
   have hiσ : i < σ.length := by rw [I.len]; exact (List.getElem?_eq_some_iff.mp hj).1
   rw [List.getElem?_set_self hiσ] at e2
   cases e2
  ·rw [List.getElem?_set_ne (Ne.symm hij)] at e2
   obtain ⟨w', r', q⟩ := hl i y v' e1 e2 e3
   refine ⟨w', r', ?_⟩
   rcases q with ⟨k, e⟩ | ⟨k, c, e, z⟩
   ·refine .inl ⟨k, ?_⟩
    have : y ≠ x := fun e => hij (Z6j hN e1 (e ▸ hj))
    simp [this, e]
   ·exact .inr ⟨k, c, e, z.sameBut hs (cne y c e)⟩
 ·obtain ⟨w', z⟩ := I.cell y c e
  exact ⟨w', z.sameBut hs (cne y c e)⟩
 ·obtain ⟨e, n, ne, nf, d⟩ := I.pin p hp
  exact ⟨(hs.2 p.1 ne).trans e, n, ne, nf, d⟩
 ·refine (I.hok b ob e).stay (fun c w' hc q => (hs.2 c ?_).trans q) (fun _ q => q) fun _ _ q => q
  rintro rfl
  rcases hc with hc | hc
  ·rw [<- hc, I.free] at e; cases e
  ·rw [I.free] at hc; cases hc
end
section
variable {prog : Program} {w : World} {A : Around} {E : Value -> Shared -> Prop} {env : Env} {nm q : Str} {C N : Addr} {bs bm : List Value} {hdct : Bool} {sn : List Str} {sub : List Value} {ab : Bool} {col : Option Bool} {dd : Option Addr} {k0 k1 k2 k3 k5 : Option Value} {newId : String} {s : Shared}
end
section
variable {P : Program} {w : World} {fs : List Addr} {H H' : Hp} {h h2 : Heap} {C a d T : Addr}
end
section
variable {X : Cx} {pins : List (Addr × Obj)} {σ : St} {H : Hp} {s : Shared}
end
section
variable {X : Cx} {nm q : Str} {C N : Addr} {bs bm : List Value} {hdct : Bool} {sn : List Str} {sub : List Value} {ab : Bool} {col : Option Bool} {dd : Option Addr} {k0 k1 k2 k3 k5 : Option Value} {newId : String}
end
def Zid (C e : Addr) : HO := .ext fun h => ∃ t, h.get? e = some { cls := .ref C, data := .fields #[.ref t, .none, .none, .none, .bool false, .none] }
structure ExC (K : PySem.W.Frag) (C fI : Addr) : Prop where
 lk : ∃ nm q N bs bm sn sub ab col dd k0 k1 k2 k3 k5, K.lookup C = some (excClassObj nm q C N bs bm true sn sub ab col dd k0 k1 k2 k3 k5 "ValueError.__new__") /\ (Value.ref C :: bm).contains (.type "ValueError") = true /\ bm.contains (.type "BaseException") = true ∧
  (Value.ref C :: bm).contains (.type "AttributeError") = false /\ (Value.ref C :: bm).contains (.type "NameError") = false /\ (∀ self, refuseLoop self (Str.ofString "__setattr__") (Value.ref C :: bm) = pure ()) /\ (Value.ref C :: bm).contains (.type "object") = true
 ini : PySem.W.findIn K (.ref C) "__init__" = some (some (.ref fI))
 fn : PySem.W.typeIn K (.ref fI) = some (.type "function")
 sa : PySem.W.findIn K (.ref C) "__setattr__" = some (some (.builtin "object.__setattr__"))
 ga : PySem.W.findIn K (.ref C) "__getattribute__" = some (some (.builtin "BaseException.__getattribute__"))
 gn : PySem.W.findIn K (.ref C) "__getattr__" = some none
 hd : PySem.W.hasDictIn K C = true
 kp : PySem.W.keepIn K (.ref C) = true
section
variable {X : Cx} {C e fI : Addr}
theorem Zbj (c : ExC X.K C fI) : Z34 X (.builtin "ValueError.__init__") (fun xs H Q => ∃ e v, xs = [.ref e, v] /\ H e = some (Zid C e) /\ Q .non H) := by
 intro pins s σ H xs us Q I r h
 obtain ⟨e, v, rfl, He, z⟩ := h
 obtain ⟨u, w', rfl, ru, rw'⟩ := Zet r
 cases ru
 obtain ⟨nm, q, N, bs, bm, sn, sub, ab, col, dd, k0, k1, k2, k3, k5, hk, hB, hB2, _, _, _, _⟩ := c.lk
 obtain ⟨⟨t, he⟩, _, _⟩ := I.hok e _ He
 refine wpAny_call (Zdt F.excBase_ValueError (by decide +kernel) hB (I.kIn _ _ hk) he rfl rfl rfl (by show 1 <= sizeLine; rw [sizeLine_eq]; decide) ?_)
 refine ⟨.non, H, ?_, rfl, z⟩
 have he2 := Heap.get?_push_of_some (h := s.heap) { cls := .type "tuple", data := .seq [w'].toArray } he
 have I2 : Inv X pins σ H { s with heap := s.heap.push { cls := .type "tuple", data := .seq [w'].toArray } } := I.kept (t' := s.toks) fun b o q => Heap.get?_push_of_some _ q
 have e3 : ((s.heap.push { cls := .type "tuple", data := .seq [w'].toArray }).update e (Obj.mapFields fun a => a.setIfInBounds 0 (.ref s.heap.objs.size))).get? e = some { cls := .ref C, data := .fields #[.ref s.heap.objs.size, .none, .none, .none, .bool false, .none] } := Heap.get?_update_self _ he2 rfl
 have hu : upd H e (Zid C e) = H := by
  funext b
  unfold upd
  split
  ·next z => rw [z, He]
  ·rfl
 have J := I2.write (t' := s.toks) (x := e) (e := e) (o := Zid C e) (h' := (s.heap.push { cls := .type "tuple", data := .seq [w'].toArray }).update e (Obj.mapFields fun a => a.setIfInBounds 0 (.ref s.heap.objs.size))) (by rw [He]; exact True.intro) (.inl rfl)
  (fun b o hb q => (Heap.get?_update_other _ _ (Ne.symm hb)).trans q) ⟨_, e3⟩ ⟨⟨_, e3⟩, ⟨_, e3⟩, fun g1 g2 ⟨t, q⟩ k => ⟨t, k _ q⟩⟩
 rw [hu] at J
 exact J
end
section
variable {X : Cx} {C fI : Addr}
theorem Zfu {x m : Str} {p apos pos : Pos} {e : Expr} {es : List Expr} {t : TA} {T id : String} {r : List V -> Hp -> VK -> Prop} {pl : Sem Bool} (hc : Z34 X (.builtin id) r) (hg : Gl X x) (hm : X.mg x = none) (hv : bootBuiltins x = some (.type T)) (hty : typeOf (.type T) = pure (.type "type")) (hsb : Manifest.isStub T = false)
  (hfc : PySem.W.findCls X.K (.type T) (.type "type") m = some (.val (.builtin id))) (hh : PySem.W.handedIn (.builtin id) = true) (ha : PA X (e :: es) t) (hn : x ≠ "__name__" := by decide) (hdb : (x == ("__debug__" : Str)) = false := by decide)
  (he : starEach (e :: es) X.env = (false, eval e X.env) :: starEach es X.env := by rfl) (hpl : (backTo pos (starEach es X.env)).any (·.1) = false := by rfl)
  (ht : eval (.Call (.Attribute (.Name x p) m apos) (e :: es) [] pos) X.env = (do
   let ov ← eval (.Name x p) X.env
   standAt apos.atName
   let (f, first) ← holding [ov] (getMethod ov m pl)
   callWith pos f first (backTo pos (starEach (e :: es) X.env)) (backToKw pos (keywordEach [] X.env))) := by rfl) :
  PE X (.Call (.Attribute (.Name x p) m apos) (e :: es) [] pos) (tCB r t) := by
 intro pins s σ H Q I h
 refine PySem.W.methodCall_KW (pl := pl) (Z5x I hg hm hv ?_ hn hdb) ht
 obtain ⟨m', hfr⟩ := I.fr
 refine PySem.W.method_type hfr I.mod.kin hty hsb hfc hh ?_
 have I1 := I.tok (s.toks + 1)
 exact PyProof.Rows.callWith_builtin1 (thn (ha pos pins _ σ H _ I1 h) fun us s1 ⟨vs, H1, I2, r1, q1⟩ => hc pins s1 σ H1 vs us Q I2 r1 q1) he hpl
end
def Zek (a : Addr) (H : Hp) : Hp := fun b => if b = a then none else H b
section
variable {X : Cx} {pins : List (Addr × Obj)} {σ : St} {H : Hp} {s : Shared} {C fI a d : Addr}
theorem Inv.untrack {φ : Heap -> Prop} (I : Inv X pins σ H s) (Ha : H a = some (.ext φ)) : Inv X pins σ (Zek a H) s := by
 have ne : ∀ b o, H b = some o -> (∀ φ, o ≠ .ext φ) -> Zek a H b = some o := fun b o q hb => by
  unfold Zek
  rw [if_neg (fun z => by rw [z, Ha] at q; cases q; exact hb _ rfl)]
  exact q
 have nn : ∀ b, H b = none -> Zek a H b = none := fun b q => by
  unfold Zek
  split
  ·rfl
  ·exact q
 refine ⟨I.ok, I.os, I.bare, ⟨I.base.keep, I.base.slot, fun b o q n x => nn b (I.base.free b o q n x), I.base.there, fun b xs q => ne b _ (I.base.tups b xs q) (by intro φ z; cases z), fun b o u q => ne b _ (I.base.frzs b o u q) (by intro φ z; cases z), fun b ps q => ?_⟩, I.loc, I.cell, nn _ I.free, fun x c e => nn c (I.freeC x c e), fun p hp => ?_, fun b o q => ?_, I.len⟩
 ·obtain ⟨more, e⟩ := I.base.tbls b ps q
  exact ⟨more, ne b _ e (by intro φ z; cases z)⟩
 ·obtain ⟨e, n, r⟩ := I.pin p hp
  exact ⟨e, nn _ n, r⟩
 ·have q' : H b = some o := by
   unfold Zek at q
   split at q
   ·cases q
   ·exact q
  exact (I.hok b o q').stay (fun _ _ _ e => e) (fun c e => ne c _ e (by intro φ z; cases z)) fun c xs e => ne c _ e (by intro φ z; cases z)
end
end L2
namespace L2
open PySem PySem.Spec PyProof.Rows
open Sem (wp)
open AutoSeq1 (wpAny_loadPart')
section
variable {P : Program} {w : World} {A : Around} {E : Value -> Shared -> Prop} {s : Shared}
end
section
variable {X : Cx}
end
end L2
namespace L2
open PySem PySem.Spec PyProof.Rows PySem.Builtin PySem.AutoSeq1
section
variable {prog : Program} {w : World} {A : Around} {E : Value -> Shared -> Prop} {s : Shared}
end
section
variable {prog : Program} {w : World} {A : Around} {E : Value -> Shared -> Prop} {s : Shared}
end
end L2
namespace L2
open PySem PySem.Spec PyProof.Rows
section
variable {X : Cx}
end
section
variable {K : PySem.W.Frag} {a b : Addr} {xs ys : List V} {σ0 : St} {H : Hp} {g : TG} {tt : TT} {te : TE} {Q : List V -> Hp -> Prop}
end
end L2
namespace L2
open PySem PySem.Spec PyProof.Rows PySem.Builtin PySem.AutoSeq1
theorem Z4q : mroOf (.type "reversed") = pure [.type "reversed", .type "object"] := by rw [mroOf_type]; kernel_rfl
theorem Z3e : typeLookup (.type "reversed") "__new__" = pure (some (.builtin "reversed.__new__")) := by rw [typeLookup_type, builtinLookup_eq_fast]; kernel_rfl
theorem Z78 : Bind.madeBy (.type "reversed") = pure (some "reversed.__new__") := madeBy_type Z4q Z3e (by decide +kernel)
theorem Z8j : isSubtype (.type "reversed") (.type "reversed") = pure true := by rw [isSubtype_type]; kernel_rfl
theorem Zbk : isSubtype (.type "list_reverseiterator") (.type "reversed") = pure false := by rw [isSubtype_type]; kernel_rfl
theorem Z40 : entryFor table "reversed.__new__" = some Builtin.«reversed.__new__» := entryFor_of_tree (by kernel_rfl)
theorem Z4m (a : Value) : checkTypeCall "reversed" ⟨[a], []⟩ = pure () := by kernel_rfl
theorem Z4s (a : Value) : checkBuiltinCall "reversed.__new__" ⟨[.type "reversed", a], []⟩ = pure () := by kernel_rfl
section
variable {prog : Program} {w : World} {A : Around} {E : Value -> Shared -> Prop} {s : Shared}
theorem Z5u {T U newId : String} {Bn : Builtin} {args : List Value} {S : PySem.Spec} {Q : Value -> Shared -> Prop} {c : Value} {tl : List Value} (h1 : (Value.type T == Value.type "type") = false)
  (h2 : ((Manifest.find? T).bind (·.mro.findSome? fun t => (Manifest.find? t).bind fun b => if b.noNew then some true else if b.attrs.any (·.1 == "__new__") then some false else none)).getD false = false)
  (hmro : mroOf (.type T) = pure (c :: tl)) (hmade : Bind.madeBy (.type T) = pure (some newId)) (plain : plainId newId = true) (hsub : isSubtype (.type U) (.type T) = pure false)
  (hct : checkTypeCall T ⟨args, []⟩ = pure ()) (hcn : checkBuiltinCall newId ⟨.type T :: args, []⟩ = pure ())
  (entryN : entryFor table newId = some Bn) (g : Meets (Bn ⟨.type T :: args, []⟩) S)
  (h : S A.in1 (wants (fun obj s₁ => s₁.TypeIs obj U /\ Q obj s₁) E) s) : wpAny (model prog w) A (call (.type T) args) Q E s := by
 refine wpAny_call (codeAny_of_tree ?_)
 show wpAny _ _ (callAny (.type T) _) _ _ _
 refine wpAny_pure ⟨Code.quiet_builtin _ (by decide +kernel), codeAny_builtin F.entry_type_call ?_⟩
 rw [Around.under_plain (weight_type_call_type T args []) (units_type_call_type T args [])]
 repeat (any_goals (first | assumption | wp_step))
 refine codeAny_mono (codeAny_call_builtin plain entryN (wpAny_of_eq hcn (g prog w A.in1 _ s h))) fun r s₁ hr => ?_
 cases r with
 | error e => exact hr
 | ok fl =>
  cases fl with
  | ret obj =>
   obtain ⟨hT, hq⟩ := hr
   repeat (any_goals (first | assumption | wp_step))
  | _ => exact hr.elim
end
theorem Zfv {prog : Program} {w : World} {A : Around} {s : Shared} {R : Result -> Shared -> Prop} {l : Addr} {items : Array Value} {n : Nat} (hl : s.heap.get? l = some { cls := .type "list", dict := none, data := .seq items n, slots := #[] })
  (h : R (.ok (.ret (Value.ref s.heap.objs.size))) { s with heap := s.heap.push { cls := Value.type "list_reverseiterator", data := .fields #[.ref l, rawInt ((items.size : Int) - 1)] } }) :
  codeAny (model prog w) A (.call (.builtin "list.__reversed__") ⟨[.ref l], []⟩) R s :=
 codeAny_call_builtin F.slot_list_reversed.plain F.entry_list_reversed (F.slot_list_reversed.check _ _ _ _ _ _ _ _ ⟨_, hl, rfl⟩ (F.args_list_reversed_1 _) (PySem.AutoListH.list___reversed___list_0 l items n prog w A R s ⟨hl, h⟩))
theorem Z41 (l : Addr) (items : Array Value) (n : Nat) :
  Meets (Builtin.«reversed.__new__» ⟨[.type "reversed", .ref l], []⟩) (fun _ R s => s.heap.get? l = some { cls := .type "list", dict := none, data := .seq items n, slots := #[] } ∧
   R (.ok (.ret (Value.ref s.heap.objs.size))) { s with heap := s.heap.push { cls := Value.type "list_reverseiterator", data := .fields #[.ref l, rawInt ((items.size : Int) - 1)] } }) :=
 .of_wp fun prog w A R s h => by
  obtain ⟨hp, g, d, tk, os⟩ := s; obtain ⟨hl, h⟩ := h
  have hsub := Z8j
  have hT : Shared.TypeIs ⟨hp, g, d, tk, os⟩ (.ref l) "list" := ⟨_, hl, rfl⟩
  have hlk := F.slot_list_reversed.lookup
  have hbd := F.slot_list_reversed.bind (.ref l)
  wp_walk
  refine Zfv hl ?_
  exact wpAny_pure ⟨_, rfl, h⟩
section
variable {prog : Program} {w : World} {A : Around} {E : Value -> Shared -> Prop} {s : Shared}
theorem Z79 {l : Addr} {items : Array Value} {n : Nat} {Q : Value -> Shared -> Prop} (hl : s.heap.get? l = some { cls := .type "list", dict := none, data := .seq items n, slots := #[] })
  (h : Q (.ref s.heap.objs.size) { s with heap := s.heap.push { cls := Value.type "list_reverseiterator", data := .fields #[.ref l, rawInt ((items.size : Int) - 1)] } }) :
  wpAny (model prog w) A (call (.type "reversed") [.ref l]) Q E s :=
 Z5u (U := "list_reverseiterator") (by decide +kernel) (by decide +kernel) Z4q Z78 (by decide +kernel) Zbk (Z4m _) (Z4s _) Z40 (Z41 l items n)
  ⟨hl, ⟨_, Heap.get?_push_size _ rfl, rfl⟩, h⟩
def IsRevIter (h : Heap) (it l : Addr) (k : Int) : Prop := ∃ o, h.get? it = some o /\ o.cls = .type "list_reverseiterator" /\ o.data = .fields #[.ref l, .int k 0]
theorem IsRevIter.typeIs {it l : Addr} {k : Int} (x : IsRevIter s.heap it l k) : s.TypeIs (.ref it) "list_reverseiterator" := let ⟨o, ho, hc, _⟩ := x; ⟨o, ho, hc⟩
theorem slot_rev_next : Slot "list_reverseiterator" "__next__" "list_reverseiterator.__next__" :=
 .of (owner := "list_reverseiterator") (n := "__next__") (by rw [typeLookup_type, builtinLookup_eq_fast]; kernel_rfl) (by decide +kernel) (by decide +kernel) (by decide +kernel)
  (by first | exact .inl (by decide +kernel) | exact .inr (by decide +kernel)) (by rw [isSubtype_type]; kernel_rfl)
theorem Z42 : Slot "list_reverseiterator" "__iter__" "list_reverseiterator.__iter__" :=
 .of (owner := "list_reverseiterator") (n := "__iter__") (by rw [typeLookup_type, builtinLookup_eq_fast]; kernel_rfl) (by decide +kernel) (by decide +kernel) (by decide +kernel)
  (by first | exact .inl (by decide +kernel) | exact .inr (by decide +kernel)) (by rw [isSubtype_type]; kernel_rfl)
theorem Z38 : entryFor table "list_reverseiterator.__next__" = some Builtin.«list_reverseiterator.__next__» := entryFor_of_tree (by kernel_rfl)
theorem Z5v : entryFor table "list_reverseiterator.__iter__" = some Builtin.«dict_keyiterator.__iter__» :=
 entryFor_alias (id' := "dict_keyiterator.__iter__") (by kernel_rfl) (by first | rfl | decide +kernel | (unfold String.splitOn; simp +decide [String.splitOnAux])) (by decide +kernel) (by kernel_rfl)
theorem Z43 (a : Value) : argsOk "list_reverseiterator.__next__" ⟨[a], []⟩ := by unfold argsOk; kernel_rfl
theorem Z7a (a : Value) : argsOk "list_reverseiterator.__iter__" ⟨[a], []⟩ := by unfold argsOk; kernel_rfl
theorem Z6g {it l : Addr} {k : Int} {Q : Value -> Shared -> Prop} (hz : IsRevIter s.heap it l k) (h : Q (.ref it) s) : wpAny (model prog w) A (pyIter (.ref it)) Q E s := by
 refine wpAny_pyIter_slot hz.typeIs Z42 (wpAny_call_entry Z42 hz.typeIs Z5v ?_ (Z7a _))
 show wpAny _ _ (ret (.ref it)) _ _ s
 exact wpAny_pure ⟨_, rfl, "list_reverseiterator", _, hz.typeIs, slot_rev_next.lookup, h⟩
theorem Z7b {it l : Addr} {k : Nat} {items : Array Value} {x : Value} {Q : Option Value -> Shared -> Prop} (hit : IsRevIter s.heap it l k) (hl : s.heap.IsList l items) (hx : items[k]? = some x)
  (hQ : ∀ h', IsRevIter h' it l ((k : Int) - 1) -> Heap.SameBut it s.heap h' -> Q (some x) { s with heap := h' }) : wpAny (model prog w) A (pyNext (.ref it)) Q E s := by
 obtain ⟨o, ho, hc, hd⟩ := id hit
 obtain ⟨ol, hol, _, nl, hdl⟩ := hl
 unfold pyNext
 refine wpAny_bind (wpAny_attempt (wpAny_callSpecial?_slot (name := Str.ofString "__next__") hit.typeIs slot_rev_next
  (wpAny_call_entry slot_rev_next hit.typeIs Z38 ?_ (Z43 _))))
 show wpAny _ _ (field (.ref it) 1 >>= _) _ _ s
 refine wpAny_bind (wpAny_field ho hd (x := .int k 0) rfl ?_)
 show wpAny _ _ (if ((k : Int) < 0) then _ else _) _ _ s
 rw [if_neg (by omega)]
 show wpAny _ _ (field (.ref it) 0 >>= _) _ _ s
 refine wpAny_bind (wpAny_field ho hd (x := .ref l) rfl ?_)
 refine wpAny_bind (wpAny_seqItems hol hdl ?_)
 simp only [Int.toNat_natCast, hx]
 refine wpAny_bind (wpAny_setField ho hd (by simp) (wpAny_pure ⟨x, rfl, wpAny_pure (hQ _ ?_ (Heap.SameBut.update ..))⟩))
 exact ⟨_, Heap.get?_update_self _ ho (Obj.isFreed_of_fields (Obj.data_mapFields hd _)), (Obj.cls_mapFields ..).trans hc, by
  rw [Obj.data_mapFields hd]; simp [rawInt]⟩
theorem Z8k {it l : Addr} {Q : Option Value -> Shared -> Prop} (hh : A.handled = none) (hit : IsRevIter s.heap it l (-1))
  (hQ : ∀ h', (∀ b o, s.heap.get? b = some o -> h'.get? b = some o) -> Q none { s with heap := h' }) : wpAny (model prog w) A (pyNext (.ref it)) Q E s := by
 obtain ⟨o, ho, hc, hd⟩ := id hit
 unfold pyNext
 refine wpAny_bind (wpAny_attempt (wpAny_callSpecial?_slot (name := Str.ofString "__next__") hit.typeIs slot_rev_next
  (wpAny_call_entry slot_rev_next hit.typeIs Z38 ?_ (Z43 _))))
 show wpAny _ _ (field (.ref it) 1 >>= _) _ _ s
 refine wpAny_bind (wpAny_field ho hd (x := .int (-1) 0) rfl ?_)
 show wpAny _ _ (if ((-1 : Int) < 0) then _ else _) _ _ s
 rw [if_pos (by decide)]
 refine wpAny_bind (wpAny_rule ?_)
 refine wpAny_bind ?_
 show wpAny _ _ (newExc (.type "StopIteration") [] >>= _) _ _ _
 refine wpAny_bind ?_
 simp only [newExc, newTuple]
 refine wpAny_bind (wpAny_newObj_type ?_ (by size_fits))
 refine wpAny_bind (m := firstArgMember _ _) (wpAny_of_eq (a := Value.none) (by first | rfl | (simp only [firstArgMember]; rfl)) ?_)
 refine wpAny_newObj_type ?_ (by size_fits)
 simp only [raiseNew]
 refine wpAny_bind (wpAny_handled ?_)
 rw [show A.in1.handled = none from hh]
 refine wpAny_bind (wpAny_pure (wpAny_throw ?_))
 refine wpAny_bind (wpAny_isInstance (T := "StopIteration") (b := true) ⟨_, Heap.get?_push_size _ rfl, rfl⟩ isSubtype_stop ?_)
 exact wpAny_pure (hQ _ fun b o e => Heap.get?_push_of_some _ (Heap.get?_push_of_some _ e))
end
def Itv (K : PySem.W.Frag) (a : Addr) (n : Nat) : It :=
 ⟨fun i H => i < n /\ ∃ xs x, SqL K H a xs /\ xs[n - 1 - i]? = some x, fun i H x H' => H' = H /\ ∀ xs, SqL K H a xs -> xs[n - 1 - i]? = some x, fun i H => i = n⟩
theorem Zfw {P : Program} {w : World} {K : PySem.W.Frag} {tg : Expr} (a it : Addr) (n : Nat) : Turn P w K tg (Itv K a n) [it] it (fun i h => IsRevIter h it a ((n : Int) - 1 - i)) where
 mem := by simp
 obj := fun i h st b hb => by
  have e : b = it := by simpa using hb
  subst e
  obtain ⟨o, e, c, d⟩ := st
  exact ⟨o, e, fun v z => by rw [d] at z; cases z⟩
 keep := fun i h h' st k => by
  obtain ⟨o, e, c, d⟩ := st
  exact ⟨o, k it (by simp) o e, c, d⟩
 item := by
  intro X hP hw hK hc i pins s σ H E I hf st hg
  subst hP hw hK
  obtain ⟨hin, xs, x, hq, hx⟩ := hg
  obtain ⟨its, rv, p, hz⟩ := I.list hq
  obtain ⟨u, hu, ru⟩ := rv.get hx
  obtain ⟨f0, f1, f2, f3, f4, f5⟩ := hf it (by simp)
  have ek : (n : Int) - 1 - i = ((n - 1 - i : Nat) : Int) := by omega
  rw [ek] at st
  refine Z7b st p.isList (x := u) (by simpa using hu) fun h' st' sb => ?_
  have I1 : Inv X pins σ H { s with heap := h' } := I.turned (t' := s.toks) (fun b o hb e => (sb.2 b hb).trans e) f0 f1 f3 f4 f5
  have e2 : ((n - 1 - i : Nat) : Int) - 1 = (n : Int) - 1 - ((i + 1 : Nat) : Int) := by omega
  rw [e2] at st'
  obtain ⟨o, e, c, d⟩ := id st'
  exact ⟨u, rfl, Zeo (s := { s with heap := h' }) e c d (by decide) ⟨x, H, I1, ru, ⟨rfl, fun ys hy => by rw [I.list_inj hy hq]; exact hx⟩, st', fun b hb => (hf b hb).1⟩⟩
 done := by
  intro X hP hw hK hc i pins s σ H E I hf st hg
  subst hP hw hK
  have e : i = n := hg
  subst e
  have ek : (i : Int) - 1 - i = -1 := by omega
  rw [ek] at st
  exact Z8k (I.ok.hd hc) st fun h' kk => ⟨rfl, I.kept (t' := s.toks) kk⟩
 self := fun _ _ _ _ _ st h => Z6g st h
def Zm0 (K : PySem.W.Frag) (ta : TA) : TI := fun σ H R => ta σ H fun vs H1 => ∃ a xs, vs = [.ref a] /\ H1 a = some (.lst xs) /\ R (Itv K a xs.length) H1
section
variable {X : Cx}
theorem Zjy {tg : Expr} {a : Expr} {ta : TA} {p pos : Pos} (hg : Gl X "reversed") (hm : X.mg "reversed" = none) (ha : PA X [a] ta) (hs : starEach [a] X.env = [(false, eval a X.env)] := by rfl) :
  PI X tg (.Call (.Name "reversed" p) [a] [] pos) (Zm0 X.K ta) := by
 intro pins s σ H R I h
 refine wpAny_Call_Name_kw (Z5x I hg hm (by decide +kernel : bootBuiltins "reversed" = some (.type "reversed")) ?_)
 refine PyProof.Rows.callWith_type1 (thn (ha pos pins s σ H _ I h) fun us s1 ⟨vs, H1, I1, r1, q1⟩ => ?_) hs (by rfl)
 obtain ⟨l, xs, rfl, hl, hR⟩ := q1
 cases r1 with
 | cons r rr =>
  cases rr
  cases r
  obtain ⟨_, its, n, rv, h1⟩ := (show ObjOk X.prog X.w H1 s1.heap l (.lst xs) from I1.hok l _ hl)
  refine Z79 h1 ?_
  have hlen := rv.length
  have st : IsRevIter (s1.heap.push { cls := Value.type "list_reverseiterator", data := .fields #[.ref l, rawInt ((its.toArray.size : Int) - 1)] }) s1.heap.objs.size l ((xs.length : Int) - 1 - ((0 : Nat) : Int)) := by
   refine ⟨_, Heap.get?_push_size _ rfl, rfl, ?_⟩
   rw [List.size_toArray, <- hlen]
   simp [rawInt]
  refine Z6g st ?_
  refine ⟨s1.heap.objs.size, [s1.heap.objs.size], _, _, H1, rfl, I1.kept (t' := s1.toks) fun b o e => Heap.get?_push_of_some _ e, Zfw l _ xs.length, st, fun b hb => ?_, hR⟩
  have e : b = s1.heap.objs.size := by simpa using hb
  subst e
  exact I1.fpOk (Nat.le_refl _) (I1.hok.fresh (Nat.le_refl _))
end
section
variable {prog : Program} {w : World} {A : Around} {E : Value -> Shared -> Prop} {s : Shared}
end
section
variable {X : Cx} {pins : List (Addr × Obj)} {σ : St}
end
section
variable {X : Cx}
end
end L2
namespace L2
open PySem PySem.Spec PyProof.Rows
section
variable {A : Around} {E : Value -> Shared -> Prop} {nm q : Str} {C N : Addr} {bs bm : List Value} {hdct : Bool} {sn : List Str} {sub : List Value} {ab : Bool} {col : Option Bool} {dd : Option Addr} {k0 k1 k2 k3 k5 : Option Value} {newId : String} {s : Shared}
end
structure ExI (K : PySem.W.Frag) (C : Addr) : Prop where
 ca : PySem.W.findIn K (.ref C) "__class__" = some (some (.builtin "object.__class__"))
 sp : PySem.W.specialIn K (.builtin "object.__class__") "__get__" = some (some (.builtin "getset_descriptor.__get__"))
 tk : PySem.W.takesIn K (.builtin "object.__class__") = some true
 mr : PySem.W.mroIn K C (.type "object") = some true
section
variable {X : Cx} {C fI : Addr}
theorem Zjz : ∀ {as : List Addr} {us : List Value}, Vals (as.map V.ref) us -> us = as.map Value.ref
 | [], us, r => by cases r; rfl
 | a :: as, us, r => by
  cases r with
  | cons r1 r2 => cases r1; rw [Zjz r2]; rfl
end
section
variable {M : Model} {A : Around} {E : Value -> Shared -> Prop} {nm q nm' q' : Str} {C N B N' : Addr} {bs bm bs' bm' : List Value} {hdct hdct' : Bool} {sn sn' : List Str} {sub sub' : List Value} {ab ab' : Bool} {col col' : Option Bool} {dd dd' : Option Addr} {k0 k1 k2 k3 k5 k0' k1' k2' k3' k5' : Option Value} {newId newId' : String}
theorem Zie {h : Heap} {g : Array GenState} {d : Drawn} {t : Nat} {os : OsState} {e : Addr} {oe : Obj} {Q : Bool -> Shared -> Prop}
  (hC : h.get? C = some (excClassObj nm q C N bs bm hdct sn sub ab col dd k0 k1 k2 k3 k5 newId)) (hBo : h.get? B = some (excClassObj nm' q' B N' bs' bm' hdct' sn' sub' ab' col' dd' k0' k1' k2' k3' k5' newId')) (he : h.get? e = some oe) (hcls : oe.cls = .ref C)
  (hbase : bm'.contains (.type "BaseException") = true) (hCB : bm.contains (.ref B) = true) (hq : Q true ⟨h, g, d, t, os⟩) : wpAny M A (excMatches (.ref e) (.ref B)) Q E ⟨h, g, d, t, os⟩ := by
 have hcB : (Value.ref B :: bm').contains (.type "BaseException") = true := by rw [List.contains_cons, hbase, Bool.or_true]
 have hcC : (Value.ref C :: bm).contains (.ref B) = true := by rw [List.contains_cons, hCB, Bool.or_true]
 have f := tc_notTuple
 unfold excMatches
 repeat (first | (with_reducible refine wpAny_loadPart_at he ?_; rw [hcls]) | with_reducible refine wpAny_loadPart_at hBo ?_ | (with_reducible refine wpAny_isSubtype_exc hBo ?_; rw [hcB]) | (with_reducible refine wpAny_isSubtype_exc hC ?_; rw [hcC]) | wp_step)
 exact hq
end
section
variable {prog : Program} {w : World} {A : Around} {E : Value -> Shared -> Prop} {env : Env} {nm q nm' q' : Str} {C N B N' : Addr} {bs bm bs' bm' : List Value} {hdct hdct' : Bool} {sn sn' : List Str} {sub sub' : List Value} {ab ab' : Bool} {col col' : Option Bool} {dd dd' : Option Addr} {k0 k1 k2 k3 k5 k0' k1' k2' k3' k5' : Option Value} {newId newId' : String} {s : Shared}
theorem Zbl {e : Addr} {t : Expr} {n : Str} {b0 : Stmt} {suite : List Stmt} {pos : Pos} {rest : List ExceptHandler} {Q : Flow -> Shared -> Prop} (hCB : bm.contains (.ref B) = true) (hb : bm'.contains (Value.type "BaseException") = true)
  (h : wpAny (model prog w) (A.mark (some (.ref e))) (eval t env) (fun c s1 => c = .ref B /\ s1.heap.get? C = some (excClassObj nm q C N bs bm hdct sn sub ab col dd k0 k1 k2 k3 k5 newId) /\ s1.heap.get? B = some (excClassObj nm' q' B N' bs' bm' hdct' sn' sub' ab' col' dd' k0' k1' k2' k3' k5' newId') /\ (∃ oe, s1.heap.get? e = some oe /\ oe.cls = .ref C) ∧
   wpAny (model prog w) (A.mark (some (.ref e))) (setFlight (.ref e) none) (fun _ s2 => wpAny (model prog w) (A.mark (some (.ref e))) (storeName env n (.ref e)) (fun _ s3 => wpAny (model prog w) (A.mark (some (.ref e))) (execs (b0 :: suite) env)
    (fun f s4 => wpAny (model prog w) A (do bindName env n Value.none; unbindBehindTheSuite env n pos) (fun _ s5 => Q f s5) E s4) (fun _ _ => False) s3) (fun _ _ => False) s2) (fun _ _ => False) s1) (fun _ _ => False) s) :
  wpAny (model prog w) A (handleBy (.ref e) env (ExceptHandler.ExceptHandler (some t) (some n) (b0 :: suite) pos :: rest)) Q E s := by
 refine wpAny_handleBy_cons (codeAny_handlers_test (wpAny_mono h ?_ fun _ _ z => z.elim)) (by intro z; cases z)
 rintro c ⟨hp, g, d, tk, os⟩ ⟨rfl, hC, hBo, ⟨oe, he, hc⟩, z⟩
 refine Zie hC hBo he hc hb hCB ?_
 refine codeAny_handlers_suite_as (wpAny_mono z ?_ fun _ _ z => z.elim)
 intro _ s2 z2
 refine wpAny_mono z2 ?_ fun _ _ z => z.elim
 intro _ s3 z3
 exact wpAny_mono z3 (fun f s4 z4 => z4) fun _ _ z => z.elim
end
section
variable {X : Cx} {C : Addr}
end
section
variable {X : Cx} {nm q nm' q' : Str} {C N B N' : Addr} {bs bm bs' bm' : List Value} {hdct hdct' : Bool} {sn sn' : List Str} {sub sub' : List Value} {ab ab' : Bool} {col col' : Option Bool} {dd dd' : Option Addr} {k0 k1 k2 k3 k5 k0' k1' k2' k3' k5' : Option Value} {newId newId' : String}
end
theorem Zif {K : PySem.W.Frag} {a : Addr} {xs : List V} {g : TG} {tb : TS} {D : Ends} {σ : St} {H : Hp} (Pv : Nat -> St -> Hp -> Prop) (h0 : Pv 0 σ H) (hl : ∀ i σ H, i <= xs.length -> Pv i σ H -> SqL K H a xs)
  (hs : ∀ i x σ H, i < xs.length -> xs[xs.length - 1 - i]? = some x -> Pv i σ H -> g x σ H fun σ2 H2 => tb { D with nx := Pv (i + 1), ct := Pv (i + 1), bk := D.nx } σ2 H2) (hd : ∀ σ H, Pv xs.length σ H -> D.nx σ H) :
  ∃ W : Nat -> Nat -> St -> Hp -> Prop, (∃ m, W 0 m σ H) /\ ∀ i m σ H, W i m σ H →
   ((Itv K a xs.length).stop i H /\ D.nx σ H) ∨ ((Itv K a xs.length).go i H /\ ∃ N : St -> Hp -> Prop, (∀ σ' H', N σ' H' -> ∃ m', m' < m /\ W (i + 1) m' σ' H') /\ ∀ x H', (Itv K a xs.length).yld i H x H' -> g x σ H' fun σ2 H2 => tb { D with nx := N, ct := N, bk := D.nx } σ2 H2) := by
 refine ⟨fun i m σ H => m = xs.length - i /\ i <= xs.length /\ Pv i σ H, ⟨xs.length, by simp, Nat.zero_le _, h0⟩, ?_⟩
 rintro i m σ H ⟨rfl, hi, p⟩
 have q := hl i σ H hi p
 by_cases hlt : i < xs.length
 ·have hj : xs.length - 1 - i < xs.length := by omega
  refine .inr ⟨⟨hlt, xs, xs[xs.length - 1 - i], q, List.getElem?_eq_getElem hj⟩, Pv (i + 1), fun σ' H' p' => ⟨xs.length - (i + 1), by omega, rfl, hlt, p'⟩, fun x H' y => ?_⟩
  obtain ⟨e, y⟩ := y
  subst e
  exact hs i x σ _ hlt (y xs q) p
 ·have e : i = xs.length := by omega
  subst e
  exact .inl ⟨rfl, hd σ H p⟩
theorem Z6h {xs : List V} {z : Int} (h0 : 0 <= z) (h1 : z.toNat <= xs.length) : Z5r xs (some z) none = xs.drop z.toNat := by
 have e : HT.sIx xs.length 0 (some z) = z.toNat := by
  show (if z < 0 then (z + (xs.length : Int)).toNat else min z.toNat xs.length) = _
  rw [if_neg (by omega)]
  omega
 unfold Z5r
 rw [e]
 show (xs.drop z.toNat).take (xs.length - z.toNat) = _
 rw [List.take_of_length_le (by rw [List.length_drop]; omega)]
theorem Zah {H : Hp} : ∀ (n : Nat) {vs : List V} {ts : List Th}, IsThs H vs ts -> IsThs H (vs.take n) (ts.take n)
 | 0, _, _, _ => by simp only [List.take_zero]; exact .nil
 | _ + 1, _, _, .nil => .nil
 | n + 1, _, _, .cons h r => .cons h (Zah n r)
theorem Zai {H : Hp} : ∀ (n : Nat) {vs : List V} {ts : List Th}, IsThs H vs ts -> IsThs H (vs.drop n) (ts.drop n)
 | 0, _, _, h => h
 | _ + 1, _, _, .nil => .nil
 | n + 1, _, _, .cons h r => Zai n r
section
variable {X : Cx}
end
section
variable {X : Cx}
end
section
variable {prog : Program} {w : World} {A : Around} {E : Value -> Shared -> Prop} {s : Shared}
theorem Z9e {a n : Nat} (ha : a <= n) : sliceBounds (some (a : Int)) none none n = ((a : Int), (n : Int), 1) := by
 simp only [sliceBounds, Option.getD_none]
 have h1 : ¬ ((a : Int) < 0) := by omega
 simp only [h1, if_false, show (1 : Int) > 0 by decide, if_true]
 congr 1
 ·omega
theorem Zdv : ∀ (xs : List Value) (b : Nat) (p : Nat -> Bool) (a : Nat), (∀ k, b <= k -> k < b + xs.length -> p k = decide (a <= k)) -> ((xs.zipIdx b).filterMap fun x => if p x.snd = true then none else some x.fst) = xs.take (a - b) := by
 intro xs
 induction xs with
 | nil => intro b p a _; simp
 | cons x xs ih =>
  intro b p a h
  have h0 := h b (Nat.le_refl _) (by rw [List.length_cons]; omega)
  have h1 := ih (b + 1) p a (fun k h1 h2 => h k (by omega) (by rw [List.length_cons]; omega))
  rw [List.zipIdx_cons]
  by_cases ha : a <= b
  ·rw [List.filterMap_cons_none (by simp [h0, ha]), h1, show a - (b + 1) = 0 by omega, show a - b = 0 by omega]
   simp
  ·rw [List.filterMap_cons_some (b := x) (by simp [h0, ha]), h1, show a - b = (a - (b + 1)) + 1 by omega]
   simp
theorem Zdw (items : Array Value) (a : Nat) (p : Nat -> Bool) (h : ∀ k, k < items.size -> p k = decide (a <= k)) : (items.toList.zipIdx.filterMap fun x => if p x.snd = true then none else some x.fst).toArray = (items.toList.take a).toArray := by
 rw [Zdv items.toList 0 p a (fun k _ hk => h k (by rw [Array.length_toList] at hk; omega)), Nat.sub_zero]
theorem Z7c {l sl : Addr} {items : Array Value} {n : Nat} {vl : Value} {a : Nat} {Q : Unit -> Shared -> Prop}
  (e : s.heap.get? l = some { cls := .type "list", data := .seq items n })
  (hs : s.heap.IsSliceOf sl vl .none .none) (pl : IsPart vl (some (a : Int))) (ha : a <= items.size)
  (hsz : items.size <= sizeLine) (h : ∀ f : Array Value -> Array Value, f items = (items.toList.take a).toArray -> Q () { s with heap := s.heap.update l (Obj.mapSeq f) }) :
  wpAny (model prog w) A (delItem (.ref l) (.ref sl)) Q E s := by
 have hl : s.heap.IsList l items := PySem.IsL.isList e
 obtain ⟨os, hos, hcs, hds⟩ := id hs
 have hTs : s.TypeIs (.ref sl) "slice" := ⟨os, hos, hcs⟩
 have hstep : ¬ ((rawPart none == rawInt 0) = true) := Bool.false_ne_true
 refine wpAny_delItem_slot hl.typeIs (by decide) PySem.F.slot_list_delitem (wpAny_call_entry PySem.F.slot_list_delitem hl.typeIs PySem.F.entry_list_delitem ?_ (PySem.F.args_list_delitem_2 _ _))
 show wpAny _ _ (Builtin.List.listSubscript? (.ref sl) >>= _) _ _ s
 refine wpAny_bind ?_
 unfold Builtin.List.listSubscript?
 refine wpAny_bind (wpAny_specialOf hTs slice_no_index ?_)
 simp only [Option.isNone_none, if_true]
 refine wpAny_pure ?_
 show wpAny _ _ (typeOf (.ref sl) >>= _) _ _ s
 refine wpAny_bind (wpAny_typeOf hTs ?_)
 first
  | rw [if_neg (by decide)]
  | refine PySem.W.KFB.if_not (by decide) ?_
 rw [listSliceParts_eq]
 refine wpAny_bind (wpAny_bind (wpAny_field hos hds (x := .none) rfl (wpAny_bind (wpAny_listPart .none ?_))))
 rw [if_neg hstep]
 refine wpAny_bind (wpAny_field hos hds (x := vl) rfl (wpAny_bind (wpAny_listPart pl ?_)))
 refine wpAny_bind (wpAny_field hos hds (x := .none) rfl (wpAny_bind (wpAny_listPart .none (wpAny_pure ?_))))
 unfold Builtin.List.listItems
 refine wpAny_bind (wpAny_bind (wpAny_seqItems e rfl (wpAny_pure ?_)))
 refine wpAny_bind (wpAny_of_eq ((sliceIndices_raw (some (a : Int)) none none items.size (by simp)).trans (congrArg (pure : Int × Int × Int -> Sem (Int × Int × Int)) (Z9e ha))) ?_)
 refine wpAny_bind (wpAny_rule ?_)
 have key : ∀ k, k < items.size -> (if (1 : Int) > 0 then decide ((a : Int) <= k) && decide ((k : Int) < (items.size : Int)) && ((k : Int) - a) % 1 == 0 else decide ((items.size : Int) < k) && decide ((k : Int) <= a) && ((a : Int) - k) % (-1) == 0) = decide (a <= k) := by
  intro k hk
  rw [if_pos (by decide)]
  have h1 : decide ((k : Int) < (items.size : Int)) = true := decide_eq_true (by omega)
  have h2 : (((k : Int) - a) % 1 == 0) = true := by rw [Int.emod_one]; rfl
  rw [h1, h2, Bool.and_true, Bool.and_true]
  exact decide_eq_decide.mpr (by omega)
 have key2 := Zdw items a _ key
 refine wpAny_bind (wpAny_updateSeq (hz := hsz) (_hz' := ?_) e rfl ?_)
 ·refine wpAny_bind (wpAny_letGo ?_)
  first
   | exact wpAny_pure ⟨.none, rfl, h _ key2⟩
   | exact wpAny_bind (wpAny_pure (wpAny_pure ⟨.none, rfl, h _ key2⟩))
   | exact wpAny_bind (wpAny_pure (wpAny_pure ⟨.none, rfl, wpAny_pure (h _ key2)⟩))
 ·refine Nat.le_trans (Nat.le_of_eq (congrArg Array.size key2)) ?_
  rw [List.size_toArray, List.length_take, Array.length_toList]
  omega
end
section
variable {X : Cx}
theorem Zdx {pins : List (Addr × Obj)} {s : Shared} {σ : St} {H : Hp} {l sl : Addr} {xs : List V} {a : Int} {vl : Value} {Q : Unit -> Shared -> Prop} (I : Inv X pins σ H s)
  (hH : H l = some (.lst xs)) (hs : s.heap.IsSliceOf sl vl .none .none) (ra : IsPart vl (some a)) (h0 : 0 <= a) (hc : a <= xs.length)
  (h : ∀ s', Inv X pins σ (upd H l (.lst (xs.take a.toNat))) s' -> Q () s') :
  wpAny (model X.prog X.w) X.A (delItem (.ref l) (.ref sl)) Q X.xe s := by
 obtain ⟨z, its, n, r, hl, e⟩ := I.lstM hH
 obtain ⟨a', rfl⟩ := Int.eq_ofNat_of_zero_le h0
 simp only [Int.toNat_natCast] at h
 refine Z7c (a := a') e hs ra (by rw [List.size_toArray]; omega) (by rw [List.size_toArray]; omega) (fun f hf => h _ ?_)
 refine I.lset (its' := its.take a') (t' := s.toks) hH e hf (r.take _) ?_
 rw [List.length_take]
 omega
def Zfx (te : TE) (tl : TO) : TS := fun D σ H => te σ H fun x H1 => tl σ H1 fun lo H2 => ∃ (l : Addr) (xs : List V) (a : Int), x = .ref l /\ lo = some a /\ H2 l = some (.lst xs) /\ 0 <= a /\ a <= xs.length /\ D.nx σ (upd H2 l (.lst (xs.take a.toNat)))
theorem Zbm {o : Expr} {lo : Option Expr} {te : TE} {tl : TO} {p2 tpos pos : Pos} (ho : PE X o te) (hl : PO X lo tl) : PS X (.Delete [.Subscript o (.Slice lo none none p2) tpos] pos) (Zfx te tl) := by
 intro pins s σ H D I h
 refine wpAny_Delete (wpAny_deleteEach_cons (wpAny_delete_Subscript (thn (ho pins s σ H _ I h) fun u s1 ⟨x, H1, I1, rx, q1⟩ => ?_)))
 refine wpAny_Slice (thn (hl pins s1 σ H1 _ I1 q1) fun vl s2 ⟨l, H2, I2, pl, q2⟩ => ?_)
 rw [evalPart_none]
 refine wpAny_pure (wpAny_pure ?_)
 obtain ⟨la, xs, a, rfl, rfl, hH, h0, hc, q3⟩ := q2
 obtain rfl : u = Value.ref la := rx
 have I4 : Inv X pins σ H2 { s2 with heap := s2.heap.push { cls := .type "slice", data := .fields #[vl, .none, .none] } } := I2.kept (t' := s2.toks) fun b ob q => Heap.get?_push_of_some _ q
 exact Zdx I4 hH (Heap.IsSliceOf.new ..) pl h0 hc fun s5 I5 => wpAny_deleteEach_nil ⟨σ, _, I5, q3⟩
end
end L2
namespace HT
open PySem PySem.Spec PyProof.Rows
section
variable {prog : Program} {w : World} {A : Around} {E : Value -> Shared -> Prop} {s : Shared}
end
end HT
namespace L2
open PySem PySem.Spec PyProof.Rows
section
variable {X : Cx}
end
end L2
namespace HT
open PySem PySem.Spec PyProof.Rows
section
variable {prog : Program} {w : World} {A : Around} {E : Value -> Shared -> Prop}
end
end HT
namespace L2
open PySem PySem.Spec PyProof.Rows PySem.Builtin
section
variable {X : Cx} {pins : List (Addr × Obj)} {σ : St}
end
end L2
namespace L2
open PySem PySem.Spec PyProof.Rows
section
variable {prog : Program} {w : World} {A : Around} {E : Value -> Shared -> Prop} {R : Result -> Shared -> Prop} {s : Shared}
end
section
variable {X : Cx} {kx vx tg iter : Expr} {ifs : List Expr} {scope : Scope} {pos : Pos} {N' : List Str} {src : List (Option Nat)} {wi : TI} {g : TG} {tt : TT} {tk tv : TE}
end
section
variable {X : Cx} {kx vx tg iter : Expr} {ifs : List Expr} {scope : Scope} {pos : Pos} {N' : List Str} {src : List (Option Nat)} {wi : TI} {g : TG} {tt : TT} {tk tv : TE}
end
section
variable {K : PySem.W.Frag} {a : Addr} {xs : List V} {σ0 : St} {H : Hp} {g : TG} {tt : TT} {tk tv : TE} {Q : List (Key × V) -> Hp -> Prop}
end
end L2
namespace L2
open PySem PySem.Spec PyProof.Rows Srt
theorem Z8l (elt target iter : Expr) (ifs : List Expr) (scope : Scope) (pos : Pos) (it : Value) (D : Addr) (env : Env) :
  compTurn (.SetComp elt [⟨target, iter, ifs, 0⟩] scope pos) 0 it (.ref D) env = (do
   standAt iter.pos
   match ← pyNext it with
   | none => pure (.done .next)
   | some v =>
    letOwnedTupleGo target it v
    assign target env v
    let mut ok := true
    for c in ifs do
     if ok then ok ← isTrue c env (eval c env)
    if ok then
     (do
      let v ← eval elt env
      standAt elt.pos
      let _ ← call (.builtin "set.add") [.ref D, v])
    again (.compLoop (.SetComp elt [⟨target, iter, ifs, 0⟩] scope pos) 0 it (.ref D) env)) := by rfl
section
variable {prog : Program} {w : World} {A : Around} {E : Value -> Shared -> Prop} {R : Result -> Shared -> Prop} {s : Shared}
theorem Z2x {elt target iter ifs rest scope pos it acc env}
  (h0 : codeAny (model prog w) A (.compLoop (.SetComp elt (⟨target, iter, ifs, 0⟩ :: rest) scope pos) 0 it acc env) R s)
  (h : wpAny (model prog w) A (pyIter it) (fun it' s' => codeAny (model prog w) A (.compLoop (.SetComp elt (⟨target, iter, ifs, 0⟩ :: rest) scope pos) 0 it' acc env) R s')
   (notedBy (model prog w) A env fun x s' => R (.error x) s') s) :
  codeAny (model prog w) A (.compStart (.SetComp elt (⟨target, iter, ifs, 0⟩ :: rest) scope pos) 0 it acc env) R s := by
 refine codeAny_of_tree ?_
 show wpAny _ A ((compStart (.SetComp elt (⟨target, iter, ifs, 0⟩ :: rest) scope pos) 0 it acc env).onRaise (fun x => do noteFrame x env; standAt theWindowsPlace)) _ _ s
 refine wpAny_notedAt ?_
 unfold compStart
 show wpAny _ A (ask >>= _) _ _ s
 refine wpAny_bind (wpAny_askSetting (wpAny_ite ?_))
 split
 ·first
   | exact wpAny_bind (wpAny_pure (wpAny_pure (And.intro rfl h0)))
   | exact wpAny_pure (And.intro rfl h0)
 ·first
   | exact wpAny_bind (wpAny_rule (wpAny_bind (wpAny_standAt (wpAny_bind (wpAny_mono h (fun it' s' h' => wpAny_pure (And.intro rfl h')) fun _ _ x => x)))))
   | (refine wpAny_bind (wpAny_rule ?_); show wpAny _ _ (standAt iter.pos >>= _) _ _ s; exact wpAny_bind (wpAny_standAt (wpAny_bind (wpAny_mono h (fun it' s' h' => wpAny_pure (And.intro rfl h')) fun _ _ x => x))))
theorem Z7d {elt target iter : Expr} {ifs : List Expr} {scope : Scope} {pos : Pos} {it : Value} {D : Addr} {env : Env} (I : Nat -> Shared -> Prop)
  (turn : ∀ n s, I n s -> wpAny (model prog w) A (pyNext it) (fun r s1 => match r with
   | none => R (.ok .next) s1
   | some v => wpAny (model prog w) A (letOwnedTupleGo target it v) (fun _ s1' => wpAny (model prog w) A (assign target env v) (fun _ s2 =>
     wpAny (model prog w) A (forIn ifs true fun c r => if r = true then do let ok ← isTrue c env (eval c env); pure (ForInStep.yield ok) else pure (ForInStep.yield r)) (fun ok s3 =>
      if ok = true then wpAny (model prog w) A (eval elt env) (fun vv s5 =>
       wpAny (model prog w) A (call (.builtin "set.add") [.ref D, vv]) (fun _ s6 => ∃ m, m < n /\ I m s6) (fun _ _ => False) s5) (fun _ _ => False) s3
      else ∃ m, m < n /\ I m s3) (fun _ _ => False) s2) (fun _ _ => False) s1') (fun _ _ => False) s1) (fun _ _ => False) s)
  (n : Nat) (h : I n s) :
  codeAny (model prog w) A (.compLoop (.SetComp elt [⟨target, iter, ifs, 0⟩] scope pos) 0 it (.ref D) env) R s := by
 refine codeAny_loop rfl I (fun n s hI => ?_) n h
 show wpAny _ A ((compTurn (.SetComp elt [⟨target, iter, ifs, 0⟩] scope pos) 0 it (.ref D) env).onRaise (fun x => do noteFrame x env; theTreesLotGoes x)) _ _ s
 refine wpAny_noted ?_
 rw [Z8l]
 refine wpAny_bind (wpAny_standAt (wpAny_bind (wpAny_mono (turn n s hI) (fun r s₁ h₁ => ?_) fun _ _ h' => h'.elim)))
 cases r with
 | none => exact wpAny_pure h₁
 | some v =>
  refine wpAny_bind (wpAny_mono h₁ (fun _ s1' h1' => ?_) fun _ _ h' => h'.elim)
  refine wpAny_bind (wpAny_mono h1' (fun _ s₂ h₂ => wpAny_bind (wpAny_mono h₂ (fun ok s₃ h₃ => ?_) fun _ _ h' => h'.elim)) fun _ _ h' => h'.elim)
  cases ok with
  | false => exact wpAny_pure ⟨rfl, h₃⟩
  | true =>
   exact wpAny_bind (wpAny_bind (wpAny_mono h₃ (fun vv s₅ h₅ => wpAny_bind (wpAny_standAt (wpAny_bind (wpAny_mono h₅ (fun _ s₆ h₆ => wpAny_pure (wpAny_pure ⟨rfl, h₆⟩)) fun _ _ h' => h'.elim)))) fun _ _ h' => h'.elim))
end
theorem Zig {P : Program} {w : World} {A : Around} {E : Value -> Shared -> Prop} {s : Shared} {Q : Value -> Shared -> Prop} (h : Q (.ref s.heap.objs.size) { s with heap := s.heap.push (Zkv w) }) : wpAny (model P w) A (newSet (.type "set")) Q E s := by
 unfold newSet setsByText
 refine wpAny_bind (wpAny_bind (wpAny_askSetting (wpAny_pure ?_)))
 simp only [newObj]
 exact wpAny_bind (wpAny_alloc (wpAny_pure h))
def Zk0 (P : Program) (w : World) (src : List (Option Nat)) (wi : TI) (g : TG) (tt : TT) (te : TE) : TE := fun σ H Q => wi σ H fun J H1 => ∃ W : Nat -> Nat -> List Int -> St -> Hp -> Prop, (∃ m, W 0 m [] (Zcn src σ) H1) /\ ∀ i m kvs σc H, W i m kvs σc H →
 (J.stop i H /\ ∀ l, H l = none -> Q (.ref l) (upd H l (Zhn P w l kvs))) ∨
 (J.go i H /\ kvs.length < 1000 /\ ∀ x H', J.yld i H x H' -> g x σc H' fun σ2 H2 => tt σ2 H2 fun b H3 =>
  if b = true then te σ2 H3 fun vv H5 => ∃ y : Int, vv = .int y /\ ∃ m', m' < m /\ W (i + 1) m' (Z94 kvs y) σ2 H5 else ∃ m', m' < m /\ W (i + 1) m' kvs σ2 H3)
section
variable {X : Cx} {elt tg iter : Expr} {ifs : List Expr} {scope : Scope} {pos : Pos} {N' : List Str} {src : List (Option Nat)} {wi : TI} {g : TG} {tt : TT} {te : TE}
theorem Z9f {cl : List (Str × Addr)} {C D : Addr} {fp : List Addr} {pins pinsY : List (Addr × Obj)} {σ σc : St} {H H' : Hp} {s3 s4 : Shared} {h' : Heap} {kvs : List Int} (I3 : Inv X pins σ H s3) (hC : C = s3.heap.objs.size)
  (hf : ∀ b ∈ D :: fp, Z3i X pins H b) (hlt : ∀ b ∈ D :: fp, b < s3.heap.objs.size) (IY : Inv (Z11 X N' scope cl C (D :: fp) s3 H) pinsY σc H' s4) (hD : H' D = none) (dd : IS X.prog X.w s4.heap D kvs)
  (hs : Heap.SameBut C s4.heap h') : Inv X pins σ (upd H' D (Zhn X.prog X.w D kvs)) { s4 with heap := h' } := by
 have J : Inv X pins σ H' s4 := I3.call' IY.os IY.base IY.hok IY.bare (ch := D :: fp) fun b hb => ⟨(hf b hb).2.2.2.1, (hf b hb).2.1, (hf b hb).2.2.2.2.1, (hf b hb).2.2.2.2.2⟩
 have fC : Z3i X pins H' C := I3.fpOk (Nat.le_of_eq hC.symm) IY.free
 have J2 : Inv X pins σ H' { s4 with heap := h' } := J.turned (t' := s4.toks) (fun b o hb e => (hs.2 b hb).trans e) fC.1 fC.2.1 fC.2.2.2.1 fC.2.2.2.2.1 fC.2.2.2.2.2
 have hDC : D ≠ C := by rw [hC]; exact Nat.ne_of_lt (hlt D List.mem_cons_self)
 have fD := hf D List.mem_cons_self
 exact J2.track ⟨hD, fD.2⟩ (Zho (dd.keep fun o e => (hs.2 D hDC).trans e))
theorem Zdy {cl : List (Str × Addr)} {C D it : Addr} {fp : List Addr} {tn : Nat -> Heap -> Prop} {J : It} {pins : List (Addr × Obj)} {σ σ0 : St} {H : Hp} {s3 s4 : Shared} {R : Result -> Shared -> Prop} {W : Nat -> Nat -> List Int -> St -> Hp -> Prop} {m0 : Nat} {Q : List Int -> Hp -> Prop}
  (hc : X.calm = true) (T : Turn X.prog X.w X.K tg J fp it tn) (I3 : Inv X pins σ H s3) (hC : C = s3.heap.objs.size)
  (hf : ∀ b ∈ D :: fp, Z3i X pins H b) (hlt : ∀ b ∈ D :: fp, b < s3.heap.objs.size) (hDf : D ∉ fp) (IY : Inv (Z11 X N' scope cl C (D :: fp) s3 H) [] σ0 H s4) (st : tn 0 s4.heap) (dd0 : IS X.prog X.w s4.heap D [])
  (hg : PG (Z11 X N' scope cl C (D :: fp) s3 H) tg g) (ht : PTs (Z11 X N' scope cl C (D :: fp) s3 H) ifs tt) (he : PE (Z11 X N' scope cl C (D :: fp) s3 H) elt te) (w0 : W 0 m0 [] σ0 H)
  (turn : ∀ i m kvs σc H, W i m kvs σc H -> (J.stop i H /\ Q kvs H) ∨ (J.go i H /\ kvs.length < 1000 /\ ∀ x H', J.yld i H x H' -> g x σc H' fun σ2 H2 => tt σ2 H2 fun b H3 =>
   if b = true then te σ2 H3 fun vv H5 => ∃ y : Int, vv = .int y /\ ∃ m', m' < m /\ W (i + 1) m' (Z94 kvs y) σ2 H5 else ∃ m', m' < m /\ W (i + 1) m' kvs σ2 H3))
  (fin : ∀ s5 σc H' kvs pinsY, Inv (Z11 X N' scope cl C (D :: fp) s3 H) pinsY σc H' s5 -> H' D = none -> IS X.prog X.w s5.heap D kvs -> Q kvs H' -> R (.ok .next) s5) :
  codeAny (model X.prog X.w) X.A (.compLoop (.SetComp elt [⟨tg, iter, ifs, 0⟩] scope pos) 0 (.ref it) (.ref D) (compEnvC scope cl C X.env)) R s4 := by
 have eY : (Z11 X N' scope cl C (D :: fp) s3 H).env = compEnvC scope cl C X.env := rfl
 generalize hY : Z11 X N' scope cl C (D :: fp) s3 H = Y at *
 have e1 : Y.prog = X.prog := by rw [<- hY]; rfl
 have e2 : Y.w = X.w := by rw [<- hY]; rfl
 have e3 : Y.K = X.K := by rw [<- hY]; rfl
 have e4 : Y.A = X.A := by rw [<- hY]; rfl
 have e5 : Y.calm = true := by rw [<- hY]; exact hc
 have e6 : Y.xe = fun _ _ => False := by rw [<- hY]; rfl
 have e7 : Y.env.locals = C := by rw [eY]; rfl
 have e8 : Y.ex = D :: fp := by rw [<- hY]; rfl
 have e9 : Y.pn = [] := by rw [<- hY]; rfl
 have e10 : Y.fs = frs X.stack := by rw [<- hY]; rfl
 have e11 : ∀ x c, Y.env.cells.lookup x = some c -> ∀ b ∈ D :: fp, c ≠ b := fun x c e b hb => (IY.ok.exf b (by rw [e8]; exact hb)).2 x c e
 have nst : ∀ b ∈ D :: fp, b ∉ Y.fs := fun b hb => IY.ok.exfs b (by rw [e8]; exact hb)
 have fpY : ∀ (pinsY : List (Addr × Obj)) (H' : Hp), (∀ p ∈ pinsY, p.1 = D) -> ∀ b ∈ fp, H' b = none -> Z3i Y pinsY H' b := fun pinsY H' hp b hb hn =>
  ⟨hn, by rw [e7, hC]; exact Nat.ne_of_lt (hlt b (List.mem_cons_of_mem _ hb)), nst b (List.mem_cons_of_mem _ hb), .inl (by rw [e8]; exact List.mem_cons_of_mem _ hb), fun x c e => e11 x c e b (List.mem_cons_of_mem _ hb), fun p hp' z => by
   rw [e9, List.nil_append] at hp'
   have q := hp p hp'
   rw [z] at q
   rw [q] at hb
   exact hDf hb⟩
 have fpD : ∀ (pinsY : List (Addr × Obj)) (H' : Hp), (∀ p ∈ pinsY, p.1 ≠ D) -> H' D = none -> Z3i Y pinsY H' D := fun pinsY H' hp hn =>
  ⟨hn, by rw [e7, hC]; exact Nat.ne_of_lt (hlt D List.mem_cons_self), nst D List.mem_cons_self, .inl (by rw [e8]; exact List.mem_cons_self), fun x c e => e11 x c e D List.mem_cons_self, fun p hp' => by
   rw [e9, List.nil_append] at hp'
   exact hp p hp'⟩
 have T' : Turn Y.prog Y.w Y.K tg J fp it tn := by rw [e1, e2, e3]; exact T
 rw [<- eY, <- e1, <- e2, <- e4]
 refine Z7d (fun n s' => ∃ i kvs σc H', Inv Y [] σc H' s' /\ tn i s'.heap /\ (∀ b ∈ fp, H' b = none) /\ H' D = none /\ IS X.prog X.w s'.heap D kvs /\ W i n kvs σc H') ?_ m0
  ⟨0, [], σ0, H, IY, st, fun b hb => (hf b (List.mem_cons_of_mem _ hb)).1, (hf D List.mem_cons_self).1, dd0, w0⟩
 rintro n s5 ⟨i, kvs, σc, H5, I5, st5, fr5, hD5, dd5, w5⟩
 obtain ⟨ob, hob, hnc⟩ : ∃ ob, s5.heap.get? D = some ob /\ ∀ v, ob.data ≠ .cell v := by
  obtain ⟨o, es, ep, t, h1, _, h3, _⟩ := dd5
  exact ⟨o, h1, fun v z => by rw [h3] at z; cases z⟩
 have hdo : ∀ {h' : Heap}, h'.get? D = some ob -> IS X.prog X.w h' D kvs := fun {h'} e => dd5.keep fun o z => by rw [hob] at z; cases z; exact e
 have I5' : Inv Y [(D, ob)] σc H5 s5 := I5.pins_of fun p hp => by
  rw [List.mem_singleton] at hp
  subst hp
  exact ⟨hob, hD5, by rw [e7, hC]; exact Nat.ne_of_lt (hlt D List.mem_cons_self), nst D List.mem_cons_self, fun v z => hnc v z⟩
 have f5 : ∀ b ∈ fp, Z3i Y [(D, ob)] H5 b := fun b hb => fpY _ _ (fun p hp => by rw [List.mem_singleton] at hp; rw [hp]) b hb (fr5 b hb)
 rcases turn i n kvs σc H5 w5 with ⟨stop, q⟩ | ⟨go, hz, step⟩
 ·refine thn (T'.done Y rfl rfl rfl e5 i _ s5 σc H5 (fun _ _ => False) I5' f5 st5 stop) fun r s6 ⟨hr, I6⟩ => ?_
  subst hr
  exact fin s6 σc H5 kvs _ I6 hD5 (hdo (I6.pin (D, _) (List.mem_append_right _ List.mem_cons_self)).1) q
 ·refine thn (T'.item Y rfl rfl rfl e5 i _ s5 σc H5 (fun _ _ => False) I5' f5 st5 go) fun r s6 ⟨u, hr, h6⟩ => ?_
  subst hr
  refine thn h6 fun _ s7 ⟨x, H7, I7, r7, y7, st7, fr7⟩ => ?_
  have f7 : ∀ b ∈ fp, Z3i Y [(D, ob)] H7 b := fun b hb => fpY _ _ (fun p hp => by rw [List.mem_singleton] at hp; rw [hp]) b hb (fr7 b hb)
  have I7' := I7.pinned f7 (T.obj _ _ st7)
  have hx := hg _ s7 σc H7 x u _ I7' r7 (step x H7 y7)
  rw [e6] at hx
  refine thn hx fun _ s8 ⟨σ8, H8, I8, q8⟩ => ?_
  have hx2 := ht _ s8 σ8 H8 _ I8 q8
  rw [e6] at hx2
  have keepT : ∀ {σ9 : St} {H9 : Hp} {s9 : Shared}, Inv Y ([(D, ob)] ++ Z5z fp s7.heap) σ9 H9 s9 -> tn (i + 1) s9.heap /\ (∀ b ∈ fp, H9 b = none) /\ H9 D = none /\ s9.heap.get? D = some ob := fun {σ9 H9 s9} I9 => by
   have pD := I9.pin (D, _) (List.mem_append_right _ (List.mem_append_left _ List.mem_cons_self))
   refine ⟨T.keep _ _ _ st7 fun b hb o e => (I9.pin (b, o) (List.mem_append_right _ (List.mem_append_right _ (Z1y hb e)))).1, fun b hb => ?_, pD.2.1, pD.1⟩
   obtain ⟨o, e, d⟩ := T.obj _ _ st7 b hb
   exact (I9.pin (b, o) (List.mem_append_right _ (List.mem_append_right _ (Z1y hb e)))).2.1
  refine thn hx2 fun ok s9 ⟨H9, I9, q9⟩ => ?_
  cases ok with
  | false =>
   rw [if_neg Bool.false_ne_true] at q9
   rw [if_neg Bool.false_ne_true]
   obtain ⟨m', hm, w9⟩ := q9
   obtain ⟨k1, k2, k3, k4⟩ := keepT I9
   exact ⟨m', hm, i + 1, kvs, σ8, H9, I9.pins_of (fun p hp => nomatch hp), k1, k2, k3, hdo k4, w9⟩
  | true =>
   rw [if_pos rfl] at q9
   rw [if_pos rfl]
   have hx4 := he _ s9 σ8 H9 _ I9 q9
   rw [e6] at hx4
   refine thn hx4 fun vv s11 ⟨vy, H11, I11, rvv, y, ey, m', hm, w11⟩ => ?_
   subst ey
   obtain ⟨tk, rfl⟩ := rvv
   obtain ⟨k1, k2, k3, k4⟩ := keepT I11
   rw [e1, e2]
   refine Zf7 (hdo k4) (by show kvs.length + 1 < 4096; omega) fun h' sb is' => ?_
   have fD := fpD [] H11 (fun p hp => nomatch hp) k3
   have I12 : Inv Y [] σ8 H11 { s11 with heap := h', toks := s11.toks + 1 } := (I11.pins_of (pins' := []) fun p hp => nomatch hp).turned (t' := s11.toks + 1) (fun b o hb e => (sb.2 b hb).trans e) fD.1 fD.2.1 fD.2.2.2.1 fD.2.2.2.2.1 fD.2.2.2.2.2
   refine ⟨m', hm, i + 1, Z94 kvs y, σ8, H11, I12, T.keep _ _ _ k1 (fun b hb o e => (sb.2 b ?_).trans e), k2, k3, is', w11⟩
   intro z; rw [z] at hb; exact hDf hb
theorem Zfy (hc : X.calm = true) (S : CompScope X scope N' src) (hi : PI X tg iter wi)
  (hb : ∀ cl C ex s0 H0, PG (Z11 X N' scope cl C ex s0 H0) tg g /\ PTs (Z11 X N' scope cl C ex s0 H0) ifs tt /\ PE (Z11 X N' scope cl C ex s0 H0) elt te)
  (hs : ∀ x, foldedSetIterable iter X.env x = pure x := by intro _; rfl) : PE X (.SetComp elt [⟨tg, iter, ifs, 0⟩] scope pos) (Zk0 X.prog X.w src wi g tt te) := by
 intro pins s σ H Q I h
 obtain ⟨cl, hclos, hcl1, hcl2⟩ := Z48 (scope := scope) (env := X.env) fun n hn => I.ok.has n (S.fr n hn)
 rw [arm_eval_SetComp]
 show wpAny _ _ (comprehension (.SetComp elt [⟨tg, iter, ifs, 0⟩] scope pos) scope X.env _ (newSet (.type "set")) false (eval iter X.env)) _ _ s
 refine wpAny_comprehension_free (use := none) rfl hs hclos S.kind S.names ?_
 refine thn (hi pins s σ H _ I h) fun v s1 h1 => thn h1 fun itv s2 h2 => ?_
 obtain ⟨it, fp, tn, J, H2, e, I2, T, st2, f2, W, ⟨m0, w0⟩, turn⟩ := h2
 subst e
 refine Zig (wpAny_newFunctionEnv S.cell (by intro y hy; simp at hy) (fun h₁ hns₁ hsb₁ => ?_) S.kind)
 dsimp only at hns₁ hsb₁ ⊢
 generalize hH3 : s2.heap.push (Zkv X.w) = H3 at hns₁ hsb₁ ⊢
 have hsz : H3.objs.size = s2.heap.objs.size + 1 := by rw [<- hH3, Heap.size_push]
 have I3 : Inv X pins σ H2 { s2 with heap := H3 } := I2.kept (t' := s2.toks) fun b o e => by rw [<- hH3]; exact Heap.get?_push_of_some _ e
 have fD : Z3i X pins H2 s2.heap.objs.size := I2.fpOk (Nat.le_refl _) (I2.hok.fresh (Nat.le_refl _))
 have hDf : s2.heap.objs.size ∉ fp := fun hm => by
  obtain ⟨o, e, _⟩ := T.obj 0 _ st2 _ hm
  exact Nat.lt_irrefl _ (Heap.lt_size e)
 have hf : ∀ b ∈ s2.heap.objs.size :: fp, Z3i X pins H2 b := fun b hb => by
  rcases List.mem_cons.mp hb with z | z
  ·rw [z]; exact fD
  ·exact f2 b z
 have hlt : ∀ b ∈ s2.heap.objs.size :: fp, b < H3.objs.size := fun b hb => by
  rcases List.mem_cons.mp hb with z | z
  ·rw [z, hsz]; exact Nat.lt_succ_self _
  ·obtain ⟨o, e, _⟩ := T.obj 0 _ st2 b z
   rw [hsz]; exact Nat.lt_succ_of_lt (Heap.lt_size e)
 have kp : ∀ b o, H3.get? b = some o -> h₁.get? b = some o := fun b o e => hsb₁.extBut b o (Nat.ne_of_lt (Heap.lt_size e)) (Heap.get?_push_of_some _ e)
 have kp0 : ∀ b o, s2.heap.get? b = some o -> h₁.get? b = some o := fun b o e => kp b o (by rw [<- hH3]; exact Heap.get?_push_of_some _ e)
 have hacc : IS X.prog X.w h₁ s2.heap.objs.size [] := by
  have h0 : IS X.prog X.w H3 s2.heap.objs.size [] := by rw [<- hH3]; exact IS.new (Heap.get?_push_size _ rfl)
  exact h0.keep fun o e => kp _ o e
 have st1 : tn 0 h₁ := T.keep _ _ _ st2 fun b _ o e => kp0 b o e
 have IY := Z4a (N' := N') (src := src) (scope := scope) (cl := cl) (C := H3.objs.size) (D := s2.heap.objs.size) (fp := fp) (s3 := { s2 with heap := H3 }) (h1 := h₁) (tk := s2.toks) S I3 hcl1 hcl2 rfl hf hlt hns₁ kp
 obtain ⟨hg, ht, he⟩ := hb cl H3.objs.size (s2.heap.objs.size :: fp) { s2 with heap := H3 } H2
 have loop := Zdy (R := compPost (model X.prog X.w) X.A X.xe none (EP X pins σ Q) (.ref s2.heap.objs.size) H3.objs.size) (elt := elt) (iter := iter) (ifs := ifs) (pos := pos) (Q := fun kvs H => ∀ l, H l = none -> Q (.ref l) (upd H l (Zhn X.prog X.w l kvs)))
  hc T I3 rfl hf hlt hDf IY st1 hacc hg ht he w0 turn (fun s5 σc H' kvs pinsY IY5 hD dd q => by
   obtain ⟨m, hn, _⟩ := IY5.loc
   refine ⟨m, hn, fun h' hs' => ⟨.ref s2.heap.objs.size, upd H' s2.heap.objs.size (Zhn X.prog X.w s2.heap.objs.size kvs), ?_, rfl, q _ hD⟩⟩
   exact Z9f I3 rfl hf hlt IY5 hD dd hs')
 exact Z2x loop (T.self _ 0 _ _ _ st1 loop)
end
section
variable {K : PySem.W.Frag} {a : Addr} {xs : List V} {σ0 : St} {H : Hp} {g : TG} {tt : TT} {te : TE} {Q : List Int -> Hp -> Prop}
theorem Zbn (Pv : Nat -> List Int -> St -> Hp -> Prop) (h0 : Pv 0 [] σ0 H) (hl : ∀ i ys σc H, Pv i ys σc H -> SqL K H a xs)
  (hs : ∀ i x ys σc H, xs[i]? = some x -> i < xs.length -> Pv i ys σc H -> ys.length < 1000 /\ g x σc H fun σ2 H2 => tt σ2 H2 fun b H3 =>
   if b = true then te σ2 H3 fun v H4 => ∃ y : Int, v = .int y /\ Nx xs.length i (Pv (i + 1) (Z94 ys y) σ2 H4) else Nx xs.length i (Pv (i + 1) ys σ2 H3))
  (hd : ∀ ys σc H, Pv xs.length ys σc H -> Q ys H) :
  ∃ W : Nat -> Nat -> List Int -> St -> Hp -> Prop, (∃ m, W 0 m [] σ0 H) /\ ∀ i m ys σc H, W i m ys σc H →
   ((Itl K a).stop i H /\ Q ys H) ∨ ((Itl K a).go i H /\ ys.length < 1000 /\ ∀ v H', (Itl K a).yld i H v H' -> g v σc H' fun σ2 H2 => tt σ2 H2 fun b H3 =>
    if b = true then te σ2 H3 fun v H4 => ∃ y : Int, v = .int y /\ ∃ m', m' < m /\ W (i + 1) m' (Z94 ys y) σ2 H4 else ∃ m', m' < m /\ W (i + 1) m' ys σ2 H3) := by
 refine ⟨fun i m ys σc H => m = xs.length - i /\ i <= xs.length /\ Pv i ys σc H, ⟨_, rfl, Nat.zero_le _, h0⟩, ?_⟩
 rintro i m ys σc H ⟨rfl, hi, p⟩
 have q := hl i ys σc H p
 by_cases hlt : i < xs.length
 ·have hx : xs[i]? = some xs[i] := List.getElem?_eq_getElem hlt
  obtain ⟨z, _⟩ := hs i _ ys σc H hx hlt p
  refine .inr ⟨⟨xs, xs[i], q, hx⟩, z, fun v H' y => ?_⟩
  obtain ⟨e, y⟩ := y
  subst e
  exact (hs i v ys σc _ (y xs q) hlt p).2
 ·have e : i = xs.length := by omega
  subst e
  exact .inl ⟨⟨xs, q, Nat.le_refl _⟩, hd ys σc H p⟩
end
end L2
namespace L2.X0
open PySem PySem.Spec PyProof.Rows L2
structure Fly (C e : Addr) (d : Option Addr) (T : Addr) (fl : Value) (h : Heap) : Prop where
 obj : ∃ vs, h.get? e = some { cls := .ref C, dict := d, data := .fields vs } /\ vs[1]? = some (.ref T)
 ent : ∃ oT ts, h.get? T = some oT /\ oT.data = .fields ts /\ ts[3]? = some fl
 ne : T ≠ e
structure Nt (fs : List Addr) (e : Addr) (T : Option Addr) (h h' : Heap) : Prop where
 keep : ∀ b o, h.get? b = some o -> b ∉ fs -> b ≠ e -> some b ≠ T -> h'.get? b = some o
 slot : ∀ b o, h.get? b = some o -> b ≠ e -> some b ≠ T -> ∃ sl, h'.get? b = some { o with slots := sl }
section
variable {M : Model} {A : Around} {E : Value -> Shared -> Prop} {s : Shared} {base : Heap} {env : Env} {outer : List Env} {L e : Addr} {d : Option Addr} {C : Addr}
theorem Z8m {vs : Array Value} {head : Value} {had : Bool} {Q : Unit -> Shared -> Prop} (fr : A.frames = some (env :: outer)) (ff : s.heap.FunFrames base (env :: outer)) (hL : env.frame = some L)
  (he : s.heap.get? e = some { cls := .ref C, dict := d, data := .fields vs }) (h1 : 1 < vs.size)
  (h : ∀ h' T, s.heap.get? T = none -> Fly C e d T (rawInt L) h' -> Nt (frs (env :: outer)) e none s.heap h' -> Q () { s with heap := h' }) :
  wpAny M A (do
   let a ← frameOf env
   let pl ← entryPlaceOf L had
   let b ← EntryCells.newEntry head a Value.none (rawInt L) Value.none pl
   setField (Value.ref e) 1 b) Q E s := by
 have hne : e ∉ frs (env :: outer) := fun z => by
  obtain ⟨_, o, ho, hn⟩ := ff.mem z
  rw [he] at ho
  cases ho
  exact hn vs rfl
 refine wpAny_bind (wpAny_frameOf_fun fr ff hL fun h1' so => ?_)
 obtain ⟨sz, sk, ss⟩ := so
 refine wpAny_bind (wpAny_entryPlaceOf fun pl ip => ?_)
 refine wpAny_bind (wpAny_newObj_type ?_ (ip.sizeOk5 _ _ _ _ _))
 have he1 : h1'.get? e = some { cls := .ref C, dict := d, data := .fields vs } := (sk e hne).trans he
 have he2 := Heap.get?_push_of_some (h := h1') { cls := .type "traceback", data := .fields ([head, .ref L, .none, rawInt L, .none] ++ if pl.isEmpty = true then List.replicate 6 Value.none else pl).toArray } he1
 refine wpAny_setField he2 rfl h1 ?_
 have hT0 : h1'.objs.size ≠ e := fun z => absurd (Heap.lt_size he1) (by rw [<- z]; exact Nat.lt_irrefl _)
 have hTn : s.heap.get? h1'.objs.size = none := by
  rw [sz]
  exact Heap.get?_none_of_le (Nat.le_refl _)
 refine h _ h1'.objs.size hTn ⟨⟨_, Heap.get?_update_self _ he2 rfl, ?_⟩, ⟨_, _, (Heap.get?_update_other _ _ (Ne.symm hT0)).trans (Heap.get?_push_size h1' rfl), rfl, ?_⟩, hT0⟩ ⟨fun b o q nf hb _ => ?_, fun b o q hb _ => ?_⟩
 ·simp [h1]
 ·simp
 ·exact (Heap.get?_update_other _ _ (Ne.symm hb)).trans (Heap.get?_push_of_some _ ((sk b nf).trans q))
 ·obtain ⟨sl, q2⟩ := ss b o q
  exact ⟨sl, (Heap.get?_update_other _ _ (Ne.symm hb)).trans (Heap.get?_push_of_some _ q2)⟩
theorem Fly.update {T : Addr} {fl fl' : Value} {h : Heap} (F : Fly C e d T fl h) : Fly C e d T fl' (h.update T (Obj.mapFields fun a => a.setIfInBounds 3 fl')) /\ ∀ b o, h.get? b = some o -> b ≠ T -> (h.update T (Obj.mapFields fun a => a.setIfInBounds 3 fl')).get? b = some o := by
 obtain ⟨⟨vs, he, hv⟩, ⟨oT, ts, hT, hd, ht⟩, ne⟩ := F
 have k : ∀ b o, h.get? b = some o -> b ≠ T -> (h.update T (Obj.mapFields fun a => a.setIfInBounds 3 fl')).get? b = some o := fun b o q hb => (Heap.get?_update_other _ _ (Ne.symm hb)).trans q
 have h3 : 3 < ts.size := by
  rcases Nat.lt_or_ge 3 ts.size with z | z
  ·exact z
  ·rw [Array.getElem?_eq_none z] at ht; cases ht
 refine ⟨⟨⟨vs, k _ _ he (Ne.symm ne), hv⟩, ⟨_, ts.setIfInBounds 3 fl', Heap.get?_update_self _ hT (Obj.isFreed_of_fields (Obj.data_mapFields hd _)), Obj.data_mapFields hd _, ?_⟩, ne⟩, k⟩
 simp [h3]
theorem Z6i {T : Addr} {fl fl' : Value} {Q : Unit -> Shared -> Prop} (F : Fly C e d T fl s.heap) (h : ∀ h', Fly C e d T fl' h' -> (∀ b o, s.heap.get? b = some o -> b ≠ T -> h'.get? b = some o) -> Q () { s with heap := h' }) : wpAny M A (setField (.ref T) 3 fl') Q E s := by
 obtain ⟨F2, k⟩ := F.update (fl' := fl')
 obtain ⟨⟨vs, he, hv⟩, ⟨oT, ts, hT, hd, ht⟩, ne⟩ := F
 have h3 : 3 < ts.size := by
  rcases Nat.lt_or_ge 3 ts.size with z | z
  ·exact z
  ·rw [Array.getElem?_eq_none z] at ht; cases ht
 exact wpAny_setField hT hd h3 (h _ F2 k)
theorem Z3f {T : Addr} {fl : Value} {Q : Unit -> Shared -> Prop} (F : Fly C e d T fl s.heap) (h : ∀ h', Fly C e d T .none h' -> (∀ b o, s.heap.get? b = some o -> b ≠ T -> h'.get? b = some o) -> Q () { s with heap := h' }) : wpAny M A (setFlight (.ref e) none) Q E s := by
 obtain ⟨vs, he, hv⟩ := F.obj
 refine wpAny_bind (wpAny_field he rfl hv ?_)
 exact wpAny_ite_true rfl (Z6i F h)
theorem Zfz {vs : Array Value} {Q : Unit -> Shared -> Prop} (fr : A.frames = some (env :: outer)) (ff : s.heap.FunFrames base (env :: outer)) (hL : env.frame = some L)
  (he : s.heap.get? e = some { cls := .ref C, dict := d, data := .fields vs }) (hv : vs[1]? = some .none)
  (h : ∀ h' T, s.heap.get? T = none -> Fly C e d T (rawInt L) h' -> Nt (frs (env :: outer)) e none s.heap h' -> Q () { s with heap := h' }) : wpAny M A (noteFrame (.ref e) env) Q E s := by
 have h1 : 1 < vs.size := by
  rcases Nat.lt_or_ge 1 vs.size with z | z
  ·exact z
  ·rw [Array.getElem?_eq_none z] at hv; cases hv
 unfold noteFrame
 rw [hL]
 refine wpAny_bind (wpAny_field he rfl hv ?_)
 exact wpAny_ite_false rfl (Z8m fr ff hL he h1 h)
theorem Zih {T : Addr} {Q : Unit -> Shared -> Prop} (fr : A.frames = some (env :: outer)) (ff : s.heap.FunFrames base (env :: outer)) (hL : env.frame = some L) (F : Fly C e d T .none s.heap)
  (h : ∀ h' T', s.heap.get? T' = none -> Fly C e d T' (rawInt L) h' -> Nt (frs (env :: outer)) e (some T) s.heap h' -> Q () { s with heap := h' }) : wpAny M A (noteFrame (.ref e) env) Q E s := by
 obtain ⟨vs, he, hv⟩ := F.obj
 obtain ⟨oT, ts, hT, hd, ht⟩ := F.ent
 unfold noteFrame
 rw [hL]
 refine wpAny_bind (wpAny_field he rfl hv ?_)
 refine wpAny_ite_true rfl ?_
 refine wpAny_bind (wpAny_field hT hd ht ?_)
 refine wpAny_ite_false rfl ?_
 refine wpAny_bind (Z6i F fun h2 F2 k2 => ?_)
 obtain ⟨vs2, he2, hv2⟩ := F2.obj
 have h1 : 1 < vs2.size := by
  rcases Nat.lt_or_ge 1 vs2.size with z | z
  ·exact z
  ·rw [Array.getElem?_eq_none z] at hv2; cases hv2
 have ff2 : h2.FunFrames base (env :: outer) := Heap.FunFrames.of_keeps (fun b o q nf => ⟨o, k2 b o q (fun z => by rw [z, hT] at q; cases q; exact nf ts hd), rfl⟩) ff
 refine Z8m (s := { s with heap := h2 }) fr ff2 hL he2 h1 fun h' T' hn F' nt => h h' T' ?_ F' ⟨fun b o q nf hb hx => ?_, fun b o q hb hx => ?_⟩
 ·cases z : s.heap.get? T' with
  | none => rfl
  | some o =>
   by_cases hz : T' = T
   ·obtain ⟨oT2, ts2, hT2, _, _⟩ := F2.ent
    rw [hz] at hn
    have : h2.get? T = none := hn
    rw [hT2] at this
    cases this
   ·have : h2.get? T' = none := hn
    rw [k2 T' o z hz] at this
    cases this
 ·exact nt.keep b o (k2 b o q fun z => hx (by rw [z])) nf hb (by simp)
 ·exact nt.slot b o (k2 b o q fun z => hx (by rw [z])) hb (by simp)
end
structure Ch (S : Addr -> Prop) (fs : List Addr) (h h' : Heap) : Prop where
 keep : ∀ b o, h.get? b = some o -> ¬ S b -> b ∉ fs -> h'.get? b = some o
 slot : ∀ b o, h.get? b = some o -> ¬ S b -> ∃ sl, h'.get? b = some { o with slots := sl }
theorem Ch.trans {S : Addr -> Prop} {fs : List Addr} {h h1 h2 : Heap} (a : Ch S fs h h1) (b : Ch S fs h1 h2) : Ch S fs h h2 :=
 ⟨fun c o q n f => b.keep c o (a.keep c o q n f) n f, fun c o q n => by
  obtain ⟨sl, q1⟩ := a.slot c o q n
  obtain ⟨sl2, q2⟩ := b.slot c _ q1 n
  exact ⟨sl2, q2⟩⟩
theorem Nt.ch {fs : List Addr} {e : Addr} {T : Option Addr} {S : Addr -> Prop} {h h' : Heap} (n : Nt fs e T h h') (he : S e) (hT : ∀ t, T = some t -> S t) : Ch S fs h h' :=
 ⟨fun b o q ns nf => n.keep b o q nf (fun z => ns (z ▸ he)) fun z => ns (hT b z.symm), fun b o q ns => n.slot b o q (fun z => ns (z ▸ he)) fun z => ns (hT b z.symm)⟩
theorem Ch.one {fs : List Addr} {t : Addr} {S : Addr -> Prop} {h h' : Heap} (k : ∀ b o, h.get? b = some o -> b ≠ t -> h'.get? b = some o) (ht : S t) : Ch S fs h h' :=
 ⟨fun b o q ns _ => k b o q fun z => ns (z ▸ ht), fun b o q ns => ⟨o.slots, k b o q fun z => ns (z ▸ ht)⟩⟩
section
variable {P : Program} {w : World} {S : Addr -> Prop} {fs fs' : List Addr} {H H' : Hp} {h h1 h2 : Heap}
theorem Ch.un (c : Ch S fs' h1 h2) (u : Un fs [] H H' h h1) (hS : ∀ b, S b -> h.get? b = none) (hf : ∀ b o, h.get? b = some o -> b ∈ fs' -> b ∈ fs) : Un fs [] H H' h h2 := by
 have ns : ∀ b o, h.get? b = some o -> ¬ S b := fun b o q z => by rw [hS b z] at q; cases q
 refine ⟨fun b o q n nf ne => c.keep b o (u.keep b o q n nf ne) (ns b o q) fun z => nf (hf b o q z), fun b o q n f ne => ?_, u.free, fun b o q ne => ?_, u.tups, u.frzs, u.tbls⟩
 ·obtain ⟨sl, q1⟩ := u.slot b o q n f ne
  obtain ⟨sl2, q2⟩ := c.slot b _ q1 (ns b o q)
  exact ⟨sl2, q2⟩
 ·obtain ⟨o', q1⟩ := u.there b o q ne
  obtain ⟨sl2, q2⟩ := c.slot b _ q1 (ns b o q)
  exact ⟨_, q2⟩
theorem Ch.hok (c : Ch S fs' h1 h2) (x : HOk P w H' h1) (hS : ∀ b, S b -> H' b = none) (hf : ∀ b ∈ fs', H' b = none) : HOk P w H' h2 := fun a o e =>
 (x a o e).stay (fun b u hb q => c.keep b u q (fun z => by
  rcases hb with r | r
  ·rw [r] at z; rw [hS a z] at e; cases e
  ·rw [hS b z] at r; cases r) fun z => by
  rcases hb with r | r
  ·rw [r] at z; rw [hf a z] at e; cases e
  ·rw [hf b z] at r; cases r) (fun _ q => q) fun _ _ q => q
end
def CXN (P : Program) (w : World) (C : Addr) : CXT := fun outer H s E e s' => ∃ (a : Addr) (d : Option Addr) (T : Addr) (H' : Hp), e = .ref a /\ s'.os = s.os /\ AllBare s'.gens /\ Un (frs outer) [] H H' s.heap s'.heap /\ HOk P w H' s'.heap /\ Fly C a d T .none s'.heap /\ s.heap.get? a = none /\ s.heap.get? T = none /\ H' a = none /\ H' T = none /\ E (.ref C) d H'
section
variable {X : Cx} {pins : List (Addr × Obj)} {σ : St} {H : Hp} {s : Shared} {C a : Addr} {d : Option Addr} {T : Addr} {E : XK}
def Zgt (X : Cx) (C : Addr) (E : XK) : Prop := X.xe = fun e s' => wpAny (model X.prog X.w) X.A (leaving X.env e) (fun _ s'' => CXN X.prog X.w C X.outer X.H₀ X.s₀ E e s'') (fun e' s'' => CXN X.prog X.w C X.outer X.H₀ X.s₀ E e' s'') s'
theorem Zdz {T0 : Option Addr} {T1 : Addr} {h1 : Heap} {Z : Value -> Shared -> Prop} (I : Inv X pins σ H s) (hst : X.stack = X.env :: X.outer) (hfr : X.env.frame = some X.env.locals) (hex : X.ex = [])
  (ha : X.s₀.heap.get? a = none) (Ha : H a = none) (hT : ∀ t, T0 = some t -> X.s₀.heap.get? t = none /\ H t = none) (hn : s.heap.get? T1 = none) {L : Addr} (F : Fly C a d T1 (rawInt L) h1) (nt : Nt (frs X.stack) a T0 s.heap h1) (hE : E (.ref C) d H) :
  wpAny (model X.prog X.w) X.A (setFlight (.ref a) none) (fun _ s'' => CXN X.prog X.w C X.outer X.H₀ X.s₀ E (.ref a) s'') Z { s with heap := h1 } := by
 have HT1 : H T1 = none := I.hok.unk hn
 have hT1 : X.s₀.heap.get? T1 = none := by
  cases z : X.s₀.heap.get? T1 with
  | none => rfl
  | some o =>
   obtain ⟨o', q⟩ := I.base.there T1 o z (by rw [hex]; simp)
   rw [hn] at q
   cases q
 refine Z3f (s := { s with heap := h1 }) F fun h2 F2 k2 => ?_
 have c : Ch (fun b => b = a ∨ b = T1 ∨ T0 = some b) (frs X.stack) s.heap h2 := (nt.ch (.inl rfl) fun t z => .inr (.inr z)).trans (Ch.one k2 (.inr (.inl rfl)))
 have un := I.base
 rw [hex] at un
 refine ⟨a, d, T1, H, rfl, I.os, I.bare, c.un un (fun b z => ?_) (fun b o q z => ?_), c.hok I.hok (fun b z => ?_) I.env0.frf, F2, ha, hT1, Ha, HT1, hE⟩
 ·rcases z with rfl | rfl | z
  ·exact ha
  ·exact hT1
  ·exact (hT b z).1
 ·rw [hst] at z
  have z' : b = X.env.locals ∨ b ∈ frs X.outer := by
   unfold frs at z ⊢
   rw [List.filterMap_cons, hfr] at z
   exact List.mem_cons.mp z
  rcases z' with z' | z'
  ·have := Heap.lt_size q
   rw [z'] at this
   exact absurd this (Nat.not_lt.mpr I.ok.above)
  ·exact z'
 ·rcases z with rfl | rfl | z
  ·exact Ha
  ·exact HT1
  ·exact (hT b z).2
theorem Zbo {vs : Array Value} (lv : Zgt X C E) (I : Inv X pins σ H s) (hst : X.stack = X.env :: X.outer) (hfr : X.env.frame = some X.env.locals) (hex : X.ex = [])
  (ha : X.s₀.heap.get? a = none) (Ha : H a = none) (he : s.heap.get? a = some { cls := .ref C, dict := d, data := .fields vs }) (hv : vs[1]? = some .none) (hE : E (.ref C) d H) : X.xe (.ref a) s := by
 rw [lv]
 have fr := I.env0.frames
 have ff := I.env0.funs
 rw [hst] at fr ff
 refine wpAny_bind (Zfz fr ff hfr he hv fun h1 T1 hn F nt => ?_)
 exact Zdz (T0 := none) I hst hfr hex ha Ha (fun t z => by cases z) hn F (by rw [hst]; exact nt) hE
end
def excO (C a : Addr) (d : Option Addr) : HO := .ext fun h => ∃ vs, h.get? a = some { cls := .ref C, dict := d, data := .fields vs }
section
variable {P : Program} {w : World} {fs : List Addr} {H H' : Hp} {h h2 : Heap} {C a : Addr} {d : Option Addr} {T : Addr}
theorem Zg0 {o : HO} (x : HOk P w H h) (u : Un fs [] H H' h h2) (ha : h.get? a = none) : Un fs [] H (upd H' a o) h h2 := by
 have n1 : ∀ b ob, h.get? b = some ob -> b ≠ a := fun b ob q z => by rw [z, ha] at q; cases q
 have n2 : ∀ b ob, H b = some ob -> b ≠ a := fun b ob q z => by
  obtain ⟨u, e⟩ := (x b ob q).get
  exact n1 b u e z
 refine ⟨u.keep, u.slot, fun b ob q n ne => ?_, u.there, fun b xs q => ?_, fun b ob v q => ?_, fun b ps q => ?_⟩
 ·rw [Z0c (n1 b ob q)]; exact u.free b ob q n ne
 ·rw [Z0c (n2 b _ q)]; exact u.tups b xs q
 ·rw [Z0c (n2 b _ q)]; exact u.frzs b ob v q
 ·rw [Z0c (n2 b _ q)]; exact u.tbls b ps q
theorem Ze0 (x : HOk P w H' h2) (Ha : H' a = none) (F : ∃ vs, h2.get? a = some { cls := .ref C, dict := d, data := .fields vs }) : HOk P w (upd H' a (excO C a d)) h2 := fun b o e => by
 by_cases hb : b = a
 ·subst hb
  rw [Z01] at e
  cases e
  exact ⟨F, ⟨_, F.choose_spec⟩, fun g1 g2 ⟨vs, q⟩ k => ⟨vs, k _ q⟩⟩
 ·rw [Z0c hb] at e
  refine (x b o e).stay (fun _ _ _ q => q) (fun c q => ?_) fun c xs q => ?_
  ·rw [Z0c (fun z => by rw [z, Ha] at q; cases q)]; exact q
  ·rw [Z0c (fun z => by rw [z, Ha] at q; cases q)]; exact q
end
section
variable {X : Cx} {pins : List (Addr × Obj)} {σ : St} {H : Hp} {s : Shared}
theorem Zk1 {A : Around} {E : Value -> Shared -> Prop} {i : Nat} {x : Str} {v : V} {pos : Pos} {Q : Value -> Shared -> Prop} (I : Inv X pins σ H s) (hN : X.N[i]? = some x) (hv : Vis X.env.scope x) (e : σ[i]? = some (some v)) (h : ∀ u, RelV v u -> Q u s)
  (hd : (x == ("__debug__" : Str)) = false) (hcd : (x == ("__classdict__" : Str)) = false) : wpAny (model X.prog X.w) A (eval (.Name x pos) X.env) Q E s := by
 obtain ⟨m, hn, hl⟩ := I.loc
 obtain ⟨u, r, l⟩ := hl i x v hN e hv
 rcases l with ⟨hk, hm⟩ | ⟨hk, c, hc, hcell⟩
 ·exact wpAny_Name (wpAny_loadName_local I.ok.kind hk hn hm (h u r)) hd
 ·rcases hk with hk | hk
  ·exact wpAny_Name (wpAny_loadName_cell I.ok.kind hk hc hcell (h u r)) hd
  ·exact wpAny_Name (wpAny_loadName_free I.ok.kind hk hc hcell (h u r) hcd) hd
end
section
variable {X : Cx} {nm q nm' q' : Str} {C N B N' : Addr} {bs bm bs' bm' : List Value} {hdct hdct' : Bool} {sn sn' : List Str} {sub sub' : List Value} {ab ab' : Bool} {col col' : Option Bool} {dd dd' : Option Addr} {k0 k1 k2 k3 k5 k0' k1' k2' k3' k5' : Option Value} {newId newId' : String}
theorem ps_try0 {x cls y er : Str} {p cpos epos np yp ep ap hpos tp : Pos} {e0 : Expr} {es : List Expr} {t : TA} {i j k : Nat} {f : Addr} {fd : FuncData} {ps : List Str} {sp : Sp}
  (F : FnOk X.prog X.w X.K X.mg X.base (CXN X.prog X.w C) k f fd ps sp) (hr : Room k X.A) (hg : Gl X x) (hm : X.mg x = some (.ref f)) (hk : PySem.W.keepIn X.K (.ref f) = true) (hb : Binds X.K fd ps [])
  (ha : PA X.nox (e0 :: es) t) (hst : X.stack = X.env :: X.outer) (hfr : X.env.frame = some X.env.locals) (hN : X.N.Nodup) (hi : X.N[i]? = some y) (hy : Loc X.env.scope y) (hj : X.N[j]? = some er) (hij : i ≠ j) (he : X.env.scope.names.lookup er = some .local)
  (hgC : Gl X cls) (hmC : X.mg cls = some (.ref B)) (hkC : X.K.lookup C = some (excClassObj nm q C N bs bm hdct sn sub ab col dd k0 k1 k2 k3 k5 newId)) (hCB : bm.contains (.ref B) = true) (hkB : X.K.lookup B = some (excClassObj nm' q' B N' bs' bm' hdct' sn' sub' ab' col' dd' k0' k1' k2' k3' k5' newId')) (hB : bm'.contains (Value.type "BaseException") = true)
  (hdb : (x == ("__debug__" : Str)) = false := by decide) (hdc : (cls == ("__debug__" : Str)) = false := by decide) (hde : (er == ("__debug__" : Str)) = false := by decide) (hdf : (er == ("__classdict__" : Str)) = false := by decide) (hse : starEach (e0 :: es) X.env = (false, eval e0 X.env) :: starEach es X.env := by rfl) (hpl : (backTo cpos (starEach es X.env)).any (·.1) = false := by rfl)
  (hsw : swapsWith (.Call (.Name x p) (e0 :: es) [] cpos) none epos.line X.env = pure false := by rfl) (hsv : swapsWith (.Name er ep) (some (.Name y yp)) ap.line X.env = pure false := by rfl) (hfy : X.fn y = true ∨ X.env.scope.names.lookup y = some .local := by first | exact .inl rfl | exact .inr rfl | assumption) :
  PS X (.Try [.Expr (.Call (.Name x p) (e0 :: es) [] cpos) epos] [.ExceptHandler (some (.Name cls np)) (some er) [.Assign [.Name y yp] (.Name er ep) ap] hpos] [] [] tp)
   (fun D σ H => t σ H fun vs H1 => sp (vs ++ []) H1 (fun _ _ => False) (fun c od H2 => ∀ a, H2 a = none -> D.nx ((((σ.set j (some (.ref a))).set i (some (.ref a))).set j (some .non)).set j none) (upd H2 a (excO C a od)))) := by
 intro pins s σ H D I h
 refine wpAny_Try_except (wpAny_execs_cons (wpAny_Expr_any ?_ I.quiet hsw))
 refine wpAny_Call_Name_kw (Z6k I hg hm ?_ hdb)
 refine PySem.W.callWith_K (h₀ := X.base) I.ok.mod.kin hk (wpAny_mono (ha cpos pins s σ H _ (I.wish _) h) ?_ (fun _ _ z => z.elim)) hse hpl
 rintro us s1 ⟨vs, H1, I1, r, z⟩
 have I1 := I1.unwish
 refine ⟨I1.kIn, ?_⟩
 have hl : us.length = ps.length := by
  rw [<- r.length]
  have := F.len _ _ _ _ z
  rwa [List.append_nil] at this
 rw [List.append_nil] at z
 refine wpAny_call (codeAny_mono (F.run X.A X.stack s1 H1 ⟨us, []⟩ us vs _ _ hr I1.env0 (by have := hb s1 us I1.kIn (by rw [List.append_nil]; exact hl); rwa [List.append_nil] at this) r z) fun rs s2 hq => ?_)
 cases rs with
 | ok fl =>
  cases fl with
  | ret u => obtain ⟨v, H', _, _, _, _, _, zz⟩ := hq; exact zz.elim
  | next => exact hq.elim
  | brk => exact hq.elim
  | cont => exact hq.elim
 | error e =>
  obtain ⟨a, d, T, H', rfl, os, bare, un, hok, Fl, ha1, hT, Ha, HT, post⟩ := hq
  obtain ⟨hh, g, dr, tk, os'⟩ := s2
  obtain rfl : os' = s1.os := os
  have J := I1.call (h' := hh) (g' := g) (d' := dr) (t' := tk) (ch := []) un hok bare (fun b z => absurd z (by simp))
  have fr := J.env0.frames
  have ff := J.env0.funs
  rw [hst] at fr ff
  refine Zih fr ff hfr Fl fun h1 T1 hn F1 nt => ?_
  rw [<- hst] at nt
  have hT1 : s1.heap.get? T1 = none := by
   cases z : s1.heap.get? T1 with
   | none => rfl
   | some o =>
    obtain ⟨o', q1⟩ := un.there T1 o z (by simp)
    have : hh.get? T1 = none := hn
    rw [q1] at this
    cases this
  have HT1 : H' T1 = none := hok.unk hn
  refine Z3f (s := ⟨h1, g, dr, tk, _⟩) F1 fun h2 F2 k2 => ?_
  have c1 : Ch (fun b => b = a ∨ b = T1 ∨ b = T) (frs X.stack) hh h2 := (nt.ch (.inl rfl) fun t z => by cases z; exact .inr (.inr rfl)).trans (Ch.one k2 (.inr (.inl rfl)))
  have fin : ∀ h3 (tk3 : Nat), Ch (fun b => b = a ∨ b = T1 ∨ b = T) (frs X.stack) hh h3 -> (∃ vs, h3.get? a = some { cls := .ref C, dict := d, data := .fields vs }) -> Inv X pins σ (upd H' a (excO C a d)) ⟨h3, g, dr, tk3, s1.os⟩ := fun h3 tk3 c fo => by
   have u3 : Un (frs X.stack) [] H1 H' s1.heap h3 := c.un un (fun b z => by rcases z with rfl | rfl | rfl <;> assumption) fun b o _ z => z
   have k3 : HOk X.prog X.w H' h3 := c.hok hok (fun b z => by rcases z with rfl | rfl | rfl <;> assumption) J.env0.frf
   exact I1.call (h' := h3) (g' := g) (d' := dr) (t' := tk3) (ch := []) (Zg0 I1.hok u3 ha1) (Ze0 k3 Ha fo) bare (fun b z => absurd z (by simp))
  have J2 := fin h2 tk c1 (let ⟨vs, q, _⟩ := F2.obj; ⟨vs, q⟩)
  refine Zbl hCB hB (Calls.Name_function_global I.ok.kind hgC (Calls.loadGlobal_global (by rw [I.ok.glob]; exact I.mod.glob.keeps J2.bk) hmC ⟨rfl, J2.kIn _ _ hkC, J2.kIn _ _ hkB, let ⟨vs, q, _⟩ := F2.obj; ⟨_, q, rfl⟩, ?_⟩) hdc)
  refine Z3f (s := ⟨h2, g, dr, tk, _⟩) F2 fun h3 F3 k3 => ?_
  have J3 := fin h3 tk (c1.trans (Ch.one k3 (.inr (.inl rfl)))) (let ⟨vs, q, _⟩ := F3.obj; ⟨vs, q⟩)
  have hjσ : j < σ.length := by rw [I1.len]; exact (List.getElem?_eq_some_iff.mp hj).1
  refine Z3g J3 hN hj (.inl he) (v := .ref a) rfl (fun s4 J4 => ?_) (.inr he)
  refine wpAny_execs_cons (wpAny_Assign_Name (Zk1 J4 hj (.inl he) (List.getElem?_set_self hjσ) (fun u ru => ?_) hde hdf) hsv)
  refine Z3g J4 hN hi hy ru (fun s5 J5 => ?_) hfy
  refine wpAny_execs_nil ?_
  refine wpAny_bind (wpAny_bindName (Z3g J5 hN hj (.inl he) (v := .non) (u := .none) rfl (fun s6 J6 => ?_) (.inr he)))
  refine wpAny_onRaise (Zdu J6 hN hj he (v := .non) (List.getElem?_set_self (by rw [List.length_set, List.length_set]; exact hjσ)) fun s7 J7 => ?_)
  exact ⟨_, _, J7, post a Ha⟩
end
end L2.X0
namespace L2.X0
open PySem PySem.Spec PyProof.Rows L2
section
variable {X : Cx} {pins : List (Addr × Obj)} {σ : St} {H : Hp} {s : Shared} {C fI a d : Addr}
theorem ps_raiseL {E : XK} {x : Str} {np cpos pos : Pos} {e0 : Expr} {es : List Expr} {t : TA} {k : Nat} {fd : FuncData} {ps : List Str} {sp : Sp} (c : ExC X.K C fI) (F : FnOk X.prog X.w X.K X.mg X.base CX0 k fI fd ps sp) (hr : Room (k + 1) X.A) (hg : Gl X x) (hm : X.mg x = some (.ref C)) (hb : Binds X.K fd ps [])
  (ha : PA X (e0 :: es) t) (lv : Zgt X C E) (hst : X.stack = X.env :: X.outer) (hfr : X.env.frame = some X.env.locals) (hex : X.ex = []) (hcm : X.calm = true)
  (hdb : (x == ("__debug__" : Str)) = false := by decide) (he : starEach (e0 :: es) X.env = (false, eval e0 X.env) :: starEach es X.env := by rfl) (hpl : (backTo cpos (starEach es X.env)).any (·.1) = false := by rfl) :
  PS X (.Raise (some (.Call (.Name x np) (e0 :: es) [] cpos)) none pos) (fun D σ H => t σ H fun vs H1 => vs.length <= 10 /\ ∀ a, H1 a = none -> sp (.ref a :: vs) (upd H1 a (Zid C a)) (fun v H2 => v = .non /\ H2 a = some (Zid C a) /\ E (.ref C) none (Zek a H2)) E0) := by
 intro pins s σ H D I h
 obtain ⟨nm, q, N, bs, bm, sn, sub, ab, col, dd, k0, k1, k2, k3, k5, hk, hB, hB2, hA, hNe, _, _⟩ := c.lk
 rw [arm_exec_Raise]
 refine wpAny_bind (wpAny_standAt ?_)
 refine Zbh (nm := nm) (q := q) (C := C) (N := N) (bs := bs) (hdct := true) (sn := sn) (sub := sub) (ab := ab) (col := col) (dd := dd) (k0 := k0) (k1 := k1) (k2 := k2) (k3 := k3) (k5 := k5) (newId := "ValueError.__new__") hB2 (I.ok.hd hcm) (wpAny_bind ?_)
 refine wpAny_Call_Name_kw (Z6k I hg hm ?_ hdb)
 refine PySem.W.callWith_K (h₀ := X.base) I.ok.mod.kin c.kp (thn (ha cpos pins s σ H _ I h) fun us s1 ⟨vs, H1, I1, r, hv10, z⟩ => ⟨I1.kIn, ?_⟩) he hpl
 have hlen := r.length
 have hn : H1 (s1.heap.objs.size + 1) = none := I1.hok.fresh (Nat.le_succ _)
 have z := z _ hn
 have kk1 : ∀ b o, s1.heap.get? b = some o -> ((s1.heap.push { cls := .type "tuple", data := .seq us.toArray }).push { cls := .ref C, data := .fields #[.ref s1.heap.objs.size, .none, .none, .none, .bool false, .none] }).get? b = some o := fun b o e => Heap.get?_push_of_some _ (Heap.get?_push_of_some _ e)
 have he1 : ((s1.heap.push { cls := .type "tuple", data := .seq us.toArray }).push { cls := .ref C, data := .fields #[.ref s1.heap.objs.size, .none, .none, .none, .bool false, .none] }).get? (s1.heap.objs.size + 1) = some { cls := .ref C, data := .fields #[.ref s1.heap.objs.size, .none, .none, .none, .bool false, .none] } := by
  have := Heap.get?_push_size (s1.heap.push { cls := .type "tuple", data := .seq us.toArray }) (o := { cls := .ref C, data := .fields #[.ref s1.heap.objs.size, .none, .none, .none, .bool false, .none] }) rfl
  rwa [Heap.size_push] at this
 have I2 : Inv X pins σ (upd H1 (s1.heap.objs.size + 1) (Zid C (s1.heap.objs.size + 1))) { s1 with heap := (s1.heap.push { cls := .type "tuple", data := .seq us.toArray }).push { cls := .ref C, data := .fields #[.ref s1.heap.objs.size, .none, .none, .none, .bool false, .none] } } :=
  I1.laid (t' := s1.toks) kk1 (Nat.le_succ _) ⟨⟨_, he1⟩, ⟨_, he1⟩, fun g1 g2 ⟨t, q⟩ kk => ⟨t, kk _ q⟩⟩
 have r2 : Vals (V.ref (s1.heap.objs.size + 1) :: vs) (Value.ref (s1.heap.objs.size + 1) :: us) := .cons rfl r
 have hl : (Value.ref (s1.heap.objs.size + 1) :: us).length = ps.length := by
  have e := r2.length
  rw [F.len _ _ _ _ z] at e
  exact e.symm
 have hb2 := hb { s1 with heap := (s1.heap.push { cls := .type "tuple", data := .seq us.toArray }).push { cls := .ref C, data := .fields #[.ref s1.heap.objs.size, .none, .none, .none, .bool false, .none] } } (Value.ref (s1.heap.objs.size + 1) :: us) I2.kIn (by rw [List.append_nil]; exact hl)
 rw [List.append_nil] at hb2
 refine wpAny_call (Zft PySem.F.excBase_ValueError hB hA hNe I1.kIn hk c.ini c.fn (by show us.length <= sizeLine; rw [<- hlen, sizeLine_eq]; omega) (codeAny_mono (F.run _ X.stack _ _ ⟨Value.ref (s1.heap.objs.size + 1) :: us, []⟩ _ _ _ _ (hr.make C us []) (I2.env0.make C us []) hb2 r2 z) fun rs s' hq => ?_))
 cases rs with
 | error e => exact hq.elim
 | ok fl =>
  cases fl with
  | ret u =>
   obtain ⟨v, H', I3, rv, rfl, Hd, hE⟩ := I2.after hq
   cases rv
   refine ⟨rfl, ?_⟩
   refine wpAny_bind (wpAny_standAt (wpAny_pure ?_))
   obtain ⟨⟨t2, ho⟩, _, _⟩ := I3.hok _ _ Hd
   refine ⟨_, _, _, rfl, I3.kIn _ _ hk, ho, rfl, rfl, rfl, ?_⟩
   have I4 := I3.untrack Hd
   refine Zbo lv I4 hst hfr hex ?_ (by unfold Zek; rw [if_pos rfl]) ho rfl hE
   cases zz : X.s₀.heap.get? (s1.heap.objs.size + 1) with
   | none => rfl
   | some o =>
    have h1 := Heap.lt_size zz
    have h2 := I1.sz
    exact absurd (Nat.lt_of_lt_of_le h1 h2) (by omega)
  | next => exact hq.elim
  | brk => exact hq.elim
  | cont => exact hq.elim
end
end L2.X0
namespace L2.X0
open PySem PySem.Spec PyProof.Rows L2
section
variable {A : Around} {E : Value -> Shared -> Prop} {nm q : Str} {C N : Addr} {bs bm : List Value} {hdct : Bool} {sn : List Str} {sub : List Value} {ab : Bool} {col : Option Bool} {dd : Option Addr} {k0 k1 k2 k3 k5 : Option Value} {newId : String} {s : Shared}
theorem Zg1 {K : PySem.W.Frag} {a g : Value} {name : Str} (hc : (PySem.W.clsIn K C).isSome = true) (ha : PySem.W.findIn K (.ref C) name = some (some a)) (hg : PySem.W.specialIn K a "__get__" = some (some g)) (ht : PySem.W.takesIn K a = some true) : PySem.W.findObj K C none name = some (.bind g a) := by
 obtain ⟨cd, hc⟩ := Option.isSome_iff_exists.mp hc
 unfold PySem.W.findObj
 rw [hc, Option.bind_some, ha, Option.bind_some]
 simp [hg, ht]
theorem Ze1? {prog : Program} {w : World} {K : PySem.W.Frag} {x : Addr} {ox : Obj} {Q : Option Value -> Shared -> Prop} (KX : K.In s.heap) (hk : K.lookup C = some (excClassObj nm q C N bs bm hdct sn sub ab col dd k0 k1 k2 k3 k5 newId))
  (hB : (Value.ref C :: bm).contains (.type "BaseException") = true) (J : PySem.W.InstAt s.heap x ox C none) (hg : PySem.W.findIn K (.ref C) "__getattribute__" = some (some (.builtin "BaseException.__getattribute__"))) (hn : PySem.W.findIn K (.ref C) "__getattr__" = some none)
  (hf : PySem.W.findObj K C none "__class__" = some (.bind (.builtin "getset_descriptor.__get__") (.builtin "object.__class__"))) (hm : PySem.W.mroIn K C (.type "object") = some true) (h : Q (some (.ref C)) { s with toks := s.toks + 1 }) : wpAny (model prog w) A (getAttr? (.ref x) "__class__") Q E s := by
 have hC := KX _ _ hk
 obtain ⟨hx, hc, hno, _⟩ := id J
 have stay : ∀ b o, s.heap.get? b = some o -> s.heap.get? b = some o := fun _ _ e => e
 unfold getAttr? getAttrBy? getAttrBy
 refine wpAny_bind (wpAny_mkText ?_)
 refine wpAny_bind (wpAny_attempt (wpAny_holding ?_))
 refine wpAny_bind (Z4p hx ?_)
 rw [hc]
 refine wpAny_bind (PySem.W.looks_findIn KX hg _ _ _ _ stay ?_)
 refine wpAny_ite_false rfl ?_
 refine wpAny_bind (wpAny_ite_true rfl (PySem.W.looks_findIn KX hn _ _ _ _ stay ?_))
 refine wpAny_bind (wpAny_attempt (wpAny_holding ?_))
 refine wpAny_ite_false rfl ?_
 refine wpAny_bind (wpAny_of_eq (F.attr_ValueError.ga.bind _) ?_)
 refine wpAny_call (codeAny_call_builtin F.attr_ValueError.ga.plain F.entry_bexc_ga (Zfs hB hC hx hc ?_))
 refine wpAny_bind ?_
 unfold slotArgs
 refine wpAny_ite_false rfl (wpAny_ite_false rfl (wpAny_pure ?_))
 refine wpAny_bind (wpAny_pure ?_)
 refine wpAny_bind (Z4p hx ?_)
 rw [hc]
 refine wpAny_bind (PySem.W.looks_find KX J hf _ _ _ _ stay ?_)
 show wpAny _ _ (Builtin.ObjectAttr.bindTo _ _ _ _) _ _ _
 show wpAny _ _ (holding [Value.builtin "object.__class__"] (call (.builtin "getset_descriptor.__get__") [.builtin "object.__class__", .ref x, .ref C]) >>= ret) _ _ _
 refine wpAny_bind (wpAny_holding (wpAny_call (PySem.W.class_get (s := { s with toks := s.toks + 1 }) (ox := ox) (od := none) KX J hm ?_)))
 refine wpAny_pure ?_
 exact wpAny_of_eq (PySem.W.handedOut_of (v := .ref C) rfl) (wpAny_pure h)
theorem Zaj {K : PySem.W.Frag} {x : Addr} (hk : K.lookup C = some (excClassObj nm q C N bs bm hdct sn sub ab col dd k0 k1 k2 k3 k5 newId))
  (hB : (Value.ref C :: bm).contains (.type "BaseException") = true) (hg : PySem.W.findIn K (.ref C) "__getattribute__" = some (some (.builtin "BaseException.__getattribute__"))) (hn : PySem.W.findIn K (.ref C) "__getattr__" = some none)
  (ha : PySem.W.findIn K (.ref C) "__class__" = some (some (.builtin "object.__class__")))
  (hs : PySem.W.specialIn K (.builtin "object.__class__") "__get__" = some (some (.builtin "getset_descriptor.__get__"))) (htk : PySem.W.takesIn K (.builtin "object.__class__") = some true) (hm : PySem.W.mroIn K C (.type "object") = some true) :
  PySem.W.KitX K (.ref x) (.ref C) (fun h => ∃ ox, PySem.W.InstAt h x ox C none) where
 ty := fun _ _ _ ⟨_, I⟩ => I.type
 it := fun _ _ X _ => by
  intro A' Q' E' s' k z
  exact Z77 (k _ _ (X _ _ hk)) z
 ne := fun h tp dd its n sl X htp => by
  refine Bool.eq_false_iff.mpr fun z => ?_
  have e : C = tp := Value.ref.inj (beq_iff_eq.mp z)
  subst e
  have z := congrArg (Option.map Obj.data) ((X _ _ hk).symm.trans htp)
  cases z
 ca := fun X ⟨ox, I⟩ k => Ze1? X hk hB I hg hn (Zg1 (by unfold PySem.W.clsIn; rw [hk]; rfl) ha hs htk) hm k
end
section
variable {X : Cx} {C fI : Addr}
theorem call_isi0 (c : ExC X.K C fI) (i : ExI X.K C) : Z34 X (.builtin "isinstance") (fun xs H Q => ∃ (a : Addr) (D : V) (cv : Value) (b : Bool), xs = [.ref a, D] /\ H a = some (excO C a none) /\ (∀ u, RelV D u -> u = cv) /\ PySem.W.kitOne X.K (.ref C) cv = some b /\ Q (.bl b) H) := by
 intro pins s σ H xs us Q I r h
 obtain ⟨a, D, cv, b, rfl, Ha, hcv, e, z⟩ := h
 obtain ⟨u, w', rfl, ru, rw'⟩ := Zet r
 cases ru
 cases hcv _ rw'
 obtain ⟨nm, q, N, bs, bm, sn, sub, ab, col, dd, k0, k1, k2, k3, k5, hk, hB, hB2, _, _, _, _⟩ := c.lk
 obtain ⟨⟨vs, ho⟩, _, _⟩ := I.hok a _ Ha
 have J : PySem.W.InstAt s.heap a { cls := .ref C, dict := none, data := .fields vs } C none := ⟨ho, rfl, rfl, trivial⟩
 exact PySem.W.kia_one (Zaj hk (by rw [List.contains_cons, hB2, Bool.or_true]) c.ga c.gn i.ca i.sp i.tk i.mr) I.kIn ⟨_, J⟩ e (fun z => nomatch z) fun tk => ⟨.bl b, H, I.tok _, rfl, z⟩
theorem call_isi0T (c : ExC X.K C fI) (i : ExI X.K C) : Z34 X (.builtin "isinstance") (fun xs H Q => ∃ (a tp : Addr) (as : List Addr) (b : Bool), xs = [.ref a, .ref tp] /\ H a = some (excO C a none) /\ H tp = some (.tup (as.map V.ref)) /\ PySem.W.kitAny X.K (.ref C) (as.map Value.ref) = some b /\ Q (.bl b) H) := by
 intro pins s σ H xs us Q I r h
 obtain ⟨a, tp, as, b, rfl, Ha, Ht, e, z⟩ := h
 obtain ⟨u, w', rfl, ru, rw'⟩ := Zet r
 cases ru
 cases rw'
 obtain ⟨nm, q, N, bs, bm, sn, sub, ab, col, dd, k0, k1, k2, k3, k5, hk, hB, hB2, _, _, _, _⟩ := c.lk
 obtain ⟨⟨vs, ho⟩, _, _⟩ := I.hok a _ Ha
 have J : PySem.W.InstAt s.heap a { cls := .ref C, dict := none, data := .fields vs } C none := ⟨ho, rfl, rfl, trivial⟩
 obtain ⟨_, its, rv, p⟩ := (show ObjOk X.prog X.w H s.heap tp (.tup (as.map V.ref)) from I.hok tp _ Ht)
 obtain ⟨o, h1, h2, n, h3⟩ := p
 cases Zjz rv
 obtain ⟨oc, od', oda, osl⟩ := o
 cases h2
 cases h3
 exact PySem.W.kia_tup (Zaj hk (by rw [List.contains_cons, hB2, Bool.or_true]) c.ga c.gn i.ca i.sp i.tk i.mr) I.kIn ⟨_, J⟩ h1 e (fun z => nomatch z) fun tk => ⟨.bl b, H, I.tok _, rfl, z⟩
end
end L2.X0
namespace L2
open PySem PySem.Spec PyProof.Rows
structure FunD (K : PySem.W.Frag) (x qual : Str) (st : Stmt) (dV : Value) (f : Addr) (fd : FuncData) : Prop where
 ex : ∃ (oc : Value) (od : Option Addr) (kV doc pm : Value) (an : Option Addr) (cdv ct : Value) (osl : Array (Option Value)),
  fd = PySem.W.fnOf x qual (Z0g st) (Z0e st) (Z03 st) dV kV doc pm an cdv ct /\ K.lookup f = some ⟨oc, od, .func fd, osl⟩ /\ PySem.W.codeIn K cdv qual = true
 kp : PySem.W.keepIn K (.ref f) = true
section
variable {P : Program} {w : World} {K : PySem.W.Frag} {mg : Str -> Option Value} {base : Heap}
theorem FunD.ok {x qual : Str} {st : Stmt} {dV : Value} {f : Addr} {fd : FuncData} {N ps : List Str} {k : Nat} {sp : Sp} (F : FunD K x qual st dV f fd) (S : FnScope N ps (Z03 st)) (len : ∀ vs H Q E, sp vs H Q E -> vs.length = ps.length)
  (hbody : ∀ (cdv : Value) (A : Around) (outer : List Env) (s : Shared) (H : Hp) (vs : List V) (Q : VK) (E : XK), Room k (A.deeper (envOfC qual (Z03 st) s.heap.objs.size f cdv)) -> sp vs H Q E →
   ∃ t, PSs (Zei CX0 P w K mg base N qual (Z03 st) f cdv A outer s H E).nox (Z0e st) t /\ t { nx := fun _ H' => Q .non H', rt := Q } (start N vs) H) : FnOk P w K mg base CX0 (k + 1) f fd ps sp := by
 obtain ⟨oc, od, kV, doc, pm, an, cdv, ct, osl, rfl, lk, hcd⟩ := F.ex
 refine Zh2 lk hcd S len fun A outer s H vs Q E hr hsp => ?_
 obtain ⟨t, h, q⟩ := hbody cdv A outer s H vs Q E hr hsp
 exact ⟨t, h.nox, q⟩
theorem FunD.okX {x qual : Str} {st : Stmt} {dV : Value} {f : Addr} {fd : FuncData} {CX : CXT} {N ps : List Str} {k : Nat} {sp : Sp} (F : FunD K x qual st dV f fd) (S : FnScope N ps (Z03 st)) (len : ∀ vs H Q E, sp vs H Q E -> vs.length = ps.length)
  (hbody : ∀ (cdv : Value) (A : Around) (outer : List Env) (s : Shared) (H : Hp) (vs : List V) (Q : VK) (E : XK), Room k (A.deeper (envOfC qual (Z03 st) s.heap.objs.size f cdv)) -> sp vs H Q E →
   ∃ t, PSs (Zei CX P w K mg base N qual (Z03 st) f cdv A outer s H E) (Z0e st) t /\ t { nx := fun _ H' => Q .non H', rt := Q } (start N vs) H) : FnOk P w K mg base CX (k + 1) f fd ps sp := by
 obtain ⟨oc, od, kV, doc, pm, an, cdv, ct, osl, rfl, lk, hcd⟩ := F.ex
 exact Zh2 lk hcd S len fun A outer s H vs Q E hr hsp => hbody cdv A outer s H vs Q E hr hsp
theorem Fun.d {x qual : Str} {st : Stmt} {f : Addr} {fd : FuncData} (F : Fun K x qual st f fd) : FunD K x qual st .none f fd := ⟨F.ex, F.kp⟩
end
end L2
namespace K16
open PySem L2
def TO (H : Hp) : Hp := fun c => match H c with
 | some (.tup vs) => some (.tup vs)
 | _ => none
theorem Z5w {H : Hp} {c : Addr} {vs : List V} (h : H c = some (.tup vs)) : TO H c = some (.tup vs) := by
 unfold TO; rw [h]
theorem Ze2 {H : Hp} {c : Addr} {o : HO} (h : TO H c = some o) : H c = some o /\ ∃ vs, o = .tup vs := by
 unfold TO at h
 split at h
 ·next vs e => cases h; exact ⟨e, _, rfl⟩
 ·cases h
theorem Z5n {H : Hp} : Same (TO H) H := fun _ _ e => (Ze2 e).1
theorem Z4n {H H' : Hp} (s : Same H H') : Same (TO H) (TO H') := fun c o e => by
 obtain ⟨h, vs, rfl⟩ := Ze2 e
 exact Z5w (s _ _ h)
theorem Ze3 {H : Hp} {a : Addr} {xs : List V} {o : HO} (h : H a = some (.lst xs)) : Same (TO H) (TO (upd H a o)) := fun c u e => by
 obtain ⟨h1, vs, rfl⟩ := Ze2 e
 refine Z5w ?_
 rw [Z0c (Z44 h1 h (by intro q; cases q))]
 exact h1
def bst : Th -> List Th -> Option (List Th)
 | .tup [.tup ls, .at (.int m)], D => if m.toNat <= D.length then some (D.take (D.length - m.toNat) ++ [.tup (ls ++ (D.drop (D.length - m.toNat)).reverse)]) else none
 | _, _ => none
def Zbp (R : List Th) (x : Option (List Th)) : Option (List Th) := R.foldr (fun row acc => acc.bind (bst row)) x
theorem Zak (A B : List Th) (x : Option (List Th)) : Zbp (A ++ B) x = Zbp A (Zbp B x) := by
 unfold Zbp; rw [List.foldr_append]
theorem Z5o (a : Th) (B : List Th) (x : Option (List Th)) : Zbp (a :: B) x = (Zbp B x).bind (bst a) := rfl
theorem Ze4 : ∀ {A : List Th} {x : Option (List Th)} {D : List Th}, Zbp A x = some D -> ∃ D', x = some D' := by
 intro A
 induction A with
 | nil => intro x D h; exact ⟨D, h⟩
 | cons a A ih =>
  intro x D h
  rw [Z5o] at h
  obtain ⟨D1, h1, _⟩ := Option.bind_eq_some_iff.mp h
  exact ih h1
theorem Ze5 (ls D K : List Th) (m : Nat) (hm : K.length = m) : bst (.tup [.tup ls, .at (.int (m : Nat))]) (D ++ K.reverse) = some (D ++ [.tup (ls ++ K)]) := by
 unfold bst
 dsimp only
 rw [Int.toNat_natCast, List.length_append, List.length_reverse, hm, if_pos (by omega), show D.length + m - m = D.length by omega, List.take_left, List.drop_left, List.reverse_reverse]
mutual
theorem Zgu {H : Hp} : ∀ {v : V} {t : Th}, IsTh H v t -> plT t = true -> IsTh (TO H) v t
 | _, _, .at f, _ => .at f
 | _, _, .tup e r, p => by
  rw [plT] at p
  exact .tup (Z5w e) (Z7e r p)
 | _, _, .lst e r, p => by rw [plT] at p; cases p
theorem Z7e {H : Hp} : ∀ {vs : List V} {ts : List Th}, IsThs H vs ts -> Z5t ts = true -> IsThs (TO H) vs ts
 | _, _, .nil, _ => .nil
 | _, _, .cons e r, p => by
  rw [Z5t, Bool.and_eq_true] at p
  exact .cons (Zgu e p.1) (Z7e r p.2)
end
def Zl5 (r : Th) : Prop := ∃ (ls : List Th) (m : Nat), r = .tup [.tup ls, .at (.int (m : Nat))] /\ m <= 6 /\ ls.length <= 1000 /\ Z5t ls = true
def spBuilt : Sp := fun vs H Q _ => ∃ (ra : Addr) (ws : List V) (R : List Th) (u : Th), vs = [.ref ra] /\ H ra = some (.lst ws) /\ IsThs H ws R /\ (∀ r ∈ R, Zl5 r) /\ Zbp R (some []) = some [u] /\ R.length <= 100000 ∧
 ∀ (v : V) H', Same H H' -> IsTh H' v u -> Q v H'
theorem Ze6 {r : Th} (h : Zl5 r) : plT r = true := by
 obtain ⟨ls, m, rfl, _, _, hp⟩ := h
 simp [plT, Z5t, hp]
section
variable {P : Program} {w : World} {K : PySem.W.Frag} {mg : Str -> Option Value} {base : Heap}
theorem scBuilt : FnScope ["rows", "done", "lead", "many", "start", "inner"] ["rows"] (Z03 Z88) := ⟨rfl, rfl, rfl, by decide +kernel, rfl, by decide +kernel, by decide +kernel⟩
theorem Zg2 {f : Addr} {fd : FuncData} (F : Fun K "built" "built" Z88 f fd) (T : TxtT mg) (hrev : mg "reversed" = none) : FnOk P w K mg base CX0 1 f fd ["rows"] spBuilt := by
 refine F.ok scBuilt (fun vs H Q E h => ?_) (fun cdv A outer s H vs Q E hr h => ?_)
 ·obtain ⟨ra, ws, R, u, rfl, _⟩ := h
  rfl
 ·obtain ⟨ra, ws, R, u, rfl, hra, hws, hR, run, hRl, k⟩ := h
  have hsz : sizeLine = 16777216 := sizeLine_eq
  refine' ⟨?tt, ?body, ?fin⟩
  case body =>
   refine' Z05 ?s1 (Z05 ?s2 (Z07 ?s3))
   case s1 => exact Z0j (i := 1) scBuilt.nd rfl (Or.inl rfl) (Z18 Z00)
   case s2 =>
    refine' Z60 PassesOwn.never rfl (Zjy (by rfl) hrev (Z0i (pv 0) Z00)) (Zbx rfl (Z2y (Z0x (i := 2) scBuilt.nd rfl (Or.inl rfl)) (Z2y (Z0x (i := 3) scBuilt.nd rfl (Or.inl rfl)) Z8s))) (Z05 ?b1 (Z05 ?b2 (Z05 ?b3 (Z07 ?b4))))
    case b1 => exact Z0j (i := 4) scBuilt.nd rfl (Or.inl rfl) (Z0p Z36 (Z0b Z0l (by rfl) T.len PySem.boot_len (Z0i (pv 1) Z00)) (pv 3))
    case b2 => exact Z0j (i := 5) scBuilt.nd rfl (Or.inl rfl) (Z22 Z8u (pv 1) (Z2g (pv 4)) Z2p)
    case b3 => exact Zbm (pv 1) (Z2g (pv 4))
    case b4 => exact Z2o (Z7s PySem.F.plainAttrs_list PySem.F.slot_list_append PySem.F.type_list_append Z2b (pv 1) (Z0d (Z0p Z8y (pv 2) (Z19 Z0v (by rfl) T.tup (by decide +kernel) (Z0d (Zgf (pv 5) (Zgz Zc1 Z04)) Z00))) Z00))
   case s3 => exact Z0m (Z15 Z1a (pv 1) Z04 (fun _ _ => rfl))
  case fin =>
   refine ⟨Nat.zero_le _, fun dn hdn => ?_⟩
   have s0 := Z02 (o := .lst []) hdn
   have hrd : ra ≠ dn := Z0h hra hdn
   have hwl := IsThs.len _ hws
   have hra1 := s0 _ _ hra
   have hdn1 : upd H dn (.lst []) dn = some (.lst []) := Z01
   have hplR : Z5t R = true := Z2j fun r hr => Ze6 (hR r hr)
   have hws1 : IsThs (TO (upd H dn (.lst []))) ws R := Z7e (IsThs.kp (Kp.of s0) hws) hplR
   refine ⟨_, rfl, ra, ws, rfl, hra1, Zif (K := K) (a := ra) (xs := ws) (fun i σ H' => ∃ (D : List Th) (dv : List V) (o3 o4 o5 o6 : Option V), σ = [some (.ref ra), some (.ref dn), o3, o4, o5, o6] /\ Zbp (R.drop (ws.length - i)) (some []) = some D /\ D.length <= i /\ H' dn = some (.lst dv) /\ IsThs (TO H') dv D /\ But dn H H' /\ IsThs (TO H') ws R)
    ⟨[], [], none, none, none, none, rfl, by rw [Nat.sub_zero, List.drop_of_length_le (Nat.le_of_eq hwl.symm)]; rfl, Nat.le_refl _, hdn1, .nil, But.of s0, hws1⟩ (fun i σ H' _ ⟨_, _, _, _, _, _, _, _, _, _, _, b, _⟩ => SqL.of (b _ _ hra hrd)) ?_ ?_⟩
   ·rintro i x σ H2 hi hx ⟨D, dv, o3, o4, o5, o6, rfl, hD, hDl, hdn2, hdv, B2, hws2⟩
    obtain ⟨row, hrow, hxr⟩ := Z1i _ hws2 hx
    have hmem := List.mem_of_getElem? hrow
    obtain ⟨ls, m, rfl, hm6, hls, hlp⟩ := hR row hmem
    obtain ⟨a, vs, rfl, ha, hvs⟩ := Z1q hxr
    have hdvl := IsThs.len _ hdv
    have hdrop : R.drop (ws.length - (i + 1)) = .tup [.tup ls, .at (.int (m : Nat))] :: R.drop (ws.length - i) := by
     rw [show ws.length - (i + 1) = ws.length - 1 - i by omega, List.drop_eq_getElem?_toList_append, hrow, show ws.length - 1 - i + 1 = ws.length - i by omega]
     rfl
    have hsome : ∃ D', Zbp (R.drop (ws.length - (i + 1))) (some []) = some D' := by
     have e := run
     rw [<- List.take_append_drop (ws.length - (i + 1)) R, Zak] at e
     exact Ze4 e
    obtain ⟨D', hD'⟩ := hsome
    have hst := hD'
    rw [hdrop, Z5o, hD] at hst
    have hst2 : (if ((m : Nat) : Int).toNat <= D.length then some (D.take (D.length - ((m : Nat) : Int).toNat) ++ [.tup (ls ++ (D.drop (D.length - ((m : Nat) : Int).toNat)).reverse)]) else none) = some D' := hst
    rw [Int.toNat_natCast] at hst2
    by_cases hmD : m <= D.length
    ·rw [if_pos hmD] at hst2
     have hD2 := Option.some.inj hst2
     cases hvs with
     | @cons v1 vr _ _ d1 d2 =>
      cases d2 with
      | @cons v2 vr2 _ _ d3 d4 =>
       cases d4
       obtain ⟨rfl, _⟩ := Z3d d3
       obtain ⟨la, lvs, rfl, hla, hlvs⟩ := Z1q d1
       have hll := IsThs.len _ hlvs
       refine ⟨a, _, rfl, SqT.of (Z5n _ _ ha), rfl, _, _, rfl, _, _, rfl, rfl, ?_⟩
       refine ⟨_, rfl, dn, _, rfl, .inl (SqL.of hdn2), _, rfl, _, _, rfl, rfl, ?_⟩
       refine ⟨_, rfl, _, rfl, _, rfl, dn, _, rfl, SqL.of hdn2, fun p1 hp1 => ?_⟩
       rw [Z6h (by omega) (by omega)]
       have e1 : ((dv.length : Int) - (m : Int)).toNat = D.length - m := by omega
       rw [e1]
       have s3 := Z02 (o := .lst (dv.drop (D.length - m))) hp1
       have hdn3 := s3 _ _ hdn2
       have hp1d : p1 ≠ dn := fun q => by rw [q, hdn2] at hp1; cases hp1
       refine ⟨_, rfl, _, rfl, _, rfl, dn, dv, _, rfl, rfl, hdn3, by omega, by omega, ?_⟩
       rw [e1]
       have P4 : upd (upd H2 p1 (.lst (dv.drop (D.length - m)))) dn (.lst (dv.take (D.length - m))) p1 = some (.lst (dv.drop (D.length - m))) := by rw [Z0c hp1d]; exact Z01
       have N4 : upd (upd H2 p1 (.lst (dv.drop (D.length - m)))) dn (.lst (dv.take (D.length - m))) dn = some (.lst (dv.take (D.length - m))) := Z01
       have t4 : Same (TO H2) (TO (upd (upd H2 p1 (.lst (dv.drop (D.length - m)))) dn (.lst (dv.take (D.length - m))))) := (Z4n s3).trans (Ze3 hdn3)
       have B4 : But dn H (upd (upd H2 p1 (.lst (dv.drop (D.length - m)))) dn (.lst (dv.take (D.length - m)))) := fun b o e hb => by rw [Z0c hb]; exact s3 _ _ (B2 b o e hb)
       generalize upd (upd H2 p1 (.lst (dv.drop (D.length - m)))) dn (.lst (dv.take (D.length - m))) = H4 at P4 N4 t4 B4
       refine ⟨_, rfl, .inl ⟨rfl, _, SqL.of N4⟩, _, rfl, _, rfl, _, rfl, rfl, p1, _, rfl, SqL.of P4, fun p2 hp2 => ?_⟩
       have s5 := Z02 (o := .lst (dv.drop (D.length - m)).reverse) hp2
       refine ⟨p2, _, rfl, .inl ⟨SqL.of Z01, fun p3 hp3 => ?_⟩⟩
       have s6 := Z02 (o := .tup (dv.drop (D.length - m)).reverse) hp3
       have s56 := s5.trans s6
       have hla6 := s56 _ _ (Z5n _ _ (t4 _ _ hla))
       refine ⟨la, p3, _, _, rfl, rfl, hla6, Z01, by rw [List.length_reverse, List.length_drop]; omega, fun p4 H7 s7 hp4 => ?_⟩
       have s47 := s56.trans s7
       have N7 := s47 _ _ N4
       have t7 := t4.trans (Z4n s47)
       refine ⟨dn, _, _, rfl, rfl, N7, by rw [List.length_take]; omega, ?_⟩
       have t8 := t7.trans (Ze3 (o := .lst (dv.take (D.length - m) ++ [.ref p4])) N7)
       have hdv8 := IsThs.kp (Kp.of t8) hdv
       refine ⟨D', _, _, _, _, _, rfl, hD', ?_, Z01, ?_, fun b o e hb => ?_, IsThs.kp (Kp.of t8) hws2⟩
       ·rw [<- hD2, List.length_append, List.length_take, List.length_singleton]
        omega
       ·rw [<- hD2]
        refine IsThs.app _ (Zah _ hdv8) (.cons (.tup (Z5w ?_) (IsThs.app _ (IsThs.kp (Kp.of t8) hlvs) (Zcr _ (Zai _ hdv8)))) .nil)
        rw [Z0c (fun q => by rw [q, N7] at hp4; cases hp4)]
        exact hp4
       ·rw [Z0c hb]
        exact s47 _ _ (B4 b o e hb)
    ·rw [if_neg hmD] at hst2
     cases hst2
   ·rintro σ H2 ⟨D, dv, o3, o4, o5, o6, rfl, hD, hDl, hdn2, hdv, B2, _⟩
    rw [Nat.sub_self, List.drop_zero, run] at hD
    have hD2 := Option.some.inj hD
    subst hD2
    cases hdv with
    | @cons v1 vr _ _ d1 d2 =>
     refine ⟨_, rfl, dn, _, _, v1, rfl, rfl, SqL.of hdn2, Z2v _ _, k v1 H2 (fun b o e => B2 b o e (Z0h e hdn)) (IsTh.kp (Kp.of Z5n) d1)⟩
end
def rw0 (w : Str) (hd : List V) (m : Nat) : Th := .tup [.tup (.at (.str w) :: hd.map Th.at), .at (.int (m : Nat))]
theorem Z9g {w : Str} {hd : List V} {ks : List Th} (nk : ∀ k ∈ ks, L2.isTup k = true) : Z2i (nd w hd ks) = rw0 w hd ks.length :: (ks.map Z2i).flatten := by
 have e1 : Z1b (.at (.str w) :: (hd.map Th.at ++ ks)) = ks := by
  unfold Z1b
  rw [List.filter_cons, if_neg (by simp [L2.isTup]), List.filter_append, Z72, List.nil_append, Z4u nk]
 have e2 : Z6y (.at (.str w) :: (hd.map Th.at ++ ks)) = .at (.str w) :: hd.map Th.at := by
  unfold Z6y
  rw [List.filter_cons, if_pos (by rfl), List.filter_append, Za8, Z8a nk, List.append_nil]
 unfold nd
 rw [Zdd, Zhs, e1, e2]
 rfl
def Rw (r : Th) : Prop := ∃ (w : Str) (hd : List V) (m : Nat), r = rw0 w hd m /\ m <= 6 /\ hd.length <= 1 /\ (∀ v ∈ hd, plT (.at v) = true) /\ (w = "hole" -> ∃ i : Nat, hd = [.int i] /\ m = 0)
theorem Z9h : ∀ (n : Nat) {t : Th}, PfT n t -> ∀ r ∈ Z2i t, Rw r := by
 intro n
 induction n with
 | zero => intro t h; exact h.elim
 | succ n ih =>
  intro t h r hr
  obtain ⟨w, hd, ks, rfl, h1, h2, h3, h4, h5, h6⟩ := h
  rw [Z9g fun k hk => (h6 k hk).isTup] at hr
  rcases List.mem_cons.mp hr with z | z
  ·refine ⟨w, hd, ks.length, z, h5, h1, h2, fun q => ?_⟩
   obtain ⟨i, e1, e2⟩ := h4 q
   exact ⟨i, e1, by rw [e2]; rfl⟩
  ·obtain ⟨l, hl, hrl⟩ := List.mem_flatten.mp z
   obtain ⟨k, hk, rfl⟩ := List.mem_map.mp hl
   exact ih (h6 k hk) r hrl
def Zg3 : Th -> List Nat
 | .tup [.tup (.at (.str w) :: .at (.int i) :: _), _] => if w = "hole" then [i.toNat] else []
 | _ => []
theorem Z7f {i : Nat} {m : Nat} : Zg3 (rw0 "hole" [.int (i : Nat)] m) = [i] := by
 show (if ("hole" : Str) = "hole" then [((i : Nat) : Int).toNat] else []) = [i]
 rw [if_pos rfl, Int.toNat_natCast]
theorem Ze7 {w : Str} {hd : List V} {m : Nat} (h : w ≠ "hole") : Zg3 (rw0 w hd m) = [] := by
 unfold rw0 Zg3
 split
 ·next w' i _ _ e =>
  injection e with e
  injection e with e1 e2
  injection e1 with e1
  injection e1 with e1 _
  injection e1 with e1
  injection e1 with e1
  rw [if_neg (by rw [<- e1]; exact h)]
 ·rfl
theorem Z7g : ∀ (n : Nat) {t : Th}, PfT n t -> ∀ i, i ∈ ((Z2i t).map Zg3).flatten ↔ i ∈ hs t := by
 intro n
 induction n with
 | zero => intro t h; exact h.elim
 | succ n ih =>
  intro t h i
  obtain ⟨w, hd, ks, rfl, h1, h2, h3, h4, h5, h6⟩ := h
  rw [Z9g fun k hk => (h6 k hk).isTup, List.map_cons, List.flatten_cons, List.mem_append]
  by_cases hw : w = "hole"
  ·obtain ⟨j, rfl, rfl⟩ := h4 hw
   subst hw
   rw [Z7f, Z1o]
   simp
  ·rw [Ze7 hw, Z2k hw]
   have : ∀ l : List Th, (∀ k ∈ l, PfT n k) -> (i ∈ (((l.map Z2i).flatten).map Zg3).flatten ↔ ∃ k ∈ l, i ∈ hs k) := by
    intro l
    induction l with
    | nil => intro _; simp
    | cons k l il =>
     intro hl
     rw [List.map_cons, List.flatten_cons, List.map_append, List.flatten_append, List.mem_append, ih (hl k (List.mem_cons_self ..)), il fun y hy => hl y (List.mem_cons_of_mem _ hy)]
     simp
   rw [this ks h6]
   simp
def fr (σ : Nat -> Th) : Th -> Th
 | .tup [.tup (.at (.str w) :: .at (.int i) :: r), m] => if w = "hole" then .tup [σ i.toNat, .at (.int 0)] else .tup [.tup (.at (.str w) :: .at (.int i) :: r), m]
 | t => t
theorem Z9i {σ : Nat -> Th} {i : Nat} {m : Nat} : fr σ (rw0 "hole" [.int (i : Nat)] m) = .tup [σ i, .at (.int 0)] := by
 show (if ("hole" : Str) = "hole" then Th.tup [σ ((i : Nat) : Int).toNat, .at (.int 0)] else Th.tup [.tup (.at (.str "hole") :: .at (.int (i : Nat)) :: []), .at (.int (m : Nat))]) = _
 rw [if_pos rfl, Int.toNat_natCast]
theorem Zal {σ : Nat -> Th} {w : Str} {hd : List V} {m : Nat} (h : w ≠ "hole") : fr σ (rw0 w hd m) = rw0 w hd m := by
 unfold rw0 fr
 split
 ·next w' i r q e =>
  have e0 := e
  injection e with e
  injection e with e1 e2
  injection e1 with e1
  injection e1 with e3 e4
  injection e3 with e5
  injection e5 with e6
  rw [if_neg (by rw [<- e6]; exact h)]
  first
   | exact e0.symm
   | exact congrArg Th.tup e0.symm
 ·rfl
theorem Ze8 {σ : Nat -> Th} : ∀ (n : Nat) {t : Th}, PfT n t -> (∀ i ∈ hs t, ∃ ls, σ i = .tup ls) -> ∀ D : List Th, Zbp ((Z2i t).map (fr σ)) (some D) = some (D ++ [fl σ t]) := by
 intro n
 induction n with
 | zero => intro t h; exact h.elim
 | succ n ih =>
  intro t h hσ D
  obtain ⟨w, hd, ks, rfl, h1, h2, h3, h4, h5, h6⟩ := h
  rw [Z9g fun k hk => (h6 k hk).isTup, List.map_cons, Z5o]
  by_cases hw : w = "hole"
  ·obtain ⟨j, rfl, rfl⟩ := h4 hw
   subst hw
   obtain ⟨ls, e⟩ := hσ j (by rw [Z1o]; simp)
   rw [Z9i, Z1u, e]
   have := Ze5 ls D [] 0 rfl
   rw [List.reverse_nil, List.append_nil, List.append_nil] at this
   exact this
  ·have main : ∀ l : List Th, (∀ k ∈ l, PfT n k) -> (∀ k ∈ l, ∀ i ∈ hs k, ∃ ls, σ i = .tup ls) -> Zbp (((l.map Z2i).flatten).map (fr σ)) (some D) = some (D ++ (l.map (fl σ)).reverse) := by
    intro l
    induction l with
    | nil => intro _ _; simp [Zbp]
    | cons k l il =>
     intro hl hq
     rw [List.map_cons, List.flatten_cons, List.map_append, Zak, il (fun y hy => hl y (List.mem_cons_of_mem _ hy)) (fun y hy => hq y (List.mem_cons_of_mem _ hy)), ih (hl k (List.mem_cons_self ..)) (hq k (List.mem_cons_self ..))]
     simp
   rw [main ks h6 fun k hk i hi => hσ i ((Z2k hw).mpr ⟨k, hk, hi⟩), Zal hw, Z5f hw]
   have := Ze5 (.at (.str w) :: hd.map Th.at) D (ks.map (fl σ)) ks.length (List.length_map ..)
   show bst (rw0 w hd ks.length) (D ++ (ks.map (fl σ)).reverse) = _
   unfold rw0 nd
   rw [this]
   rfl
end K16
namespace K16
open PySem L2 Srt
abbrev iz (l : List Nat) : List Int := l.map fun (i : Nat) => (i : Int)
def Ze9 (N : Nat) : Sp := fun vs H Q _ => ∃ (v : V) (t : Th) (m : Nat), vs = [v] /\ IsTh H v t /\ PfT N t /\ Th.sz t <= 100000 /\ (∀ i, i ∈ hs t ↔ i < m) /\ m < 64 ∧
 ∀ (p : Addr) H', Same H H' -> H' p = some (.lst ((iz (List.range m)).map V.int)) -> Q (.ref p) H'
def Zea (N : Nat) : Sp := fun vs H Q _ => ∃ (v : V) (t : Th) (m : Nat), vs = [v] /\ IsTh H v t /\ PfT N t /\ Th.sz t <= 100000 /\ (∀ i, i ∈ hs t ↔ i < m) /\ m < 64 /\ ∀ H', Same H H' -> Q (.int (m : Nat)) H'
theorem Zl6 : (["lead", "many"] : List Str).Nodup := by decide +kernel
theorem Zgv {H : Hp} {x : V} {w : Str} {hd : List V} {m : Nat} (h : IsTh H x (rw0 w hd m)) : ∃ (c la : Addr), x = .ref c /\ H c = some (.tup [.ref la, .int (m : Nat)]) /\ H la = some (.tup (.str w :: hd)) := by
 obtain ⟨c, vs, rfl, hc, hv⟩ := Z1q h
 cases hv with
 | cons a b =>
  cases b with
  | cons b1 b2 =>
   cases b2
   obtain ⟨la, us, rfl, hla, hu⟩ := Z1q a
   obtain ⟨rfl, _⟩ := Z3d b1
   cases hu with
   | cons u1 u2 =>
    obtain ⟨rfl, _⟩ := Z3d u1
    have e : ∀ (l : List V) {ws : List V}, IsThs H ws (l.map Th.at) -> ws = l := by
     intro l
     induction l with
     | nil => intro ws q; cases q; rfl
     | cons y l il =>
      intro ws q
      cases q with
      | cons q1 q2 => rw [(Z3d q1).1, il q2]
    rw [e hd u2] at hla
    exact ⟨c, la, rfl, hc, hla⟩
theorem Zii {ks : List Nat} {k : Nat} : Z94 (iz ks) (k : Int) = iz (if k ∈ ks then ks else ks ++ [k]) := by
 unfold Z94 iz
 have : ((k : Int) ∈ ks.map fun (i : Nat) => (i : Int)) ↔ k ∈ ks := by
  rw [List.mem_map]
  constructor
  ·rintro ⟨j, hj, e⟩
   have : j = k := by omega
   rw [<- this]; exact hj
  ·exact fun h => ⟨k, h, rfl⟩
 by_cases h : k ∈ ks
 ·rw [if_pos (this.mpr h), if_pos h]
 ·rw [if_neg (fun z => h (this.mp z)), if_neg h, List.map_append]
  rfl
structure HH (K : PySem.W.Frag) (mg : Str -> Option Value) (fP fH fS fF : Addr) (dP dH dS dF : FuncData) : Prop where
 U : HT K mg fP fH fS dP dH dS
 F : Fun K "flat" "flat" Zb8 fF dF
 bF : Binds K dF ["tree"] []
 mF : mg "flat" = some (.ref fF)
 srt : mg "sorted" = none
section
variable {P : Program} {w : World} {K : PySem.W.Frag} {mg : Str -> Option Value} {base : Heap} {fP fH fS fF : Addr} {dP dH dS dF : FuncData}
theorem Zij : FnScope ["b"] ["b"] (Z03 Z1c) := ⟨rfl, rfl, rfl, by decide +kernel, rfl, by decide +kernel, by decide +kernel⟩
theorem Zg4 {f : Addr} {fd : FuncData} (F : Fun K "hole_numbers" "hole_numbers" Z1c f fd) (W : HH K mg fP fH fS fF dP dH dS dF) (N : Nat) : FnOk P w K mg base CX0 4 f fd ["b"] (Ze9 N) := by
 have GF : FnOk P w K mg base CX0 3 fF dF ["tree"] (Zda N) := Zdc W.F W.U N
 refine F.ok Zij (fun vs H Q E h => ?_) (fun cdv A outer s H vs Q E hr h => ?_)
 ·obtain ⟨v, t, m, rfl, _⟩ := h
  rfl
 ·obtain ⟨v, t, m, rfl, ht, hpf, hz, hm, hm64, k⟩ := h
  have hsz : sizeLine = 16777216 := sizeLine_eq
  refine' ⟨?tt, ?body, ?fin⟩
  case body =>
   refine' Z07 (Z0m (Z0b (id := "sorted") (Z5b rfl) (by rfl) W.srt (by decide +kernel) (Z0d (Zfy (N' := ["lead", "many"]) (src := [none, none]) ?k1 ?k5 ?k6 ?k7) Z00)))
   case k1 => rfl
   case k5 => exact Z0s (Z03 Z1c) rfl ["b"] rfl (by decide +kernel)
   case k6 => exact Z39 (Z06 GF hr (by rfl) W.mF W.F.kp W.bF .nil Z0n (Z0i (pv 0) Z00))
   case k7 => exact fun cl C ex s0 H0 => ⟨Z71 (K := K) (i := 0) (j := 1) rfl rfl Zl6 rfl (Or.inl rfl) rfl (Or.inl rfl) (Or.inr rfl) (Or.inr rfl), Z49 (Z0f Z1j (Z15 (Z6s (K := K) rfl) (pv 0) Z04 (fun _ _ => rfl)) Z0a (by with_unfolding_all rfl)), Z15 (Z6s (K := K) rfl) (pv 0) Z04 (fun _ _ => rfl)⟩
  case fin =>
   refine ⟨_, rfl, v, t, rfl, ht, PfT.ok N hpf, hz, fun p ws H1 s1 hp0 hp hws => ?_⟩
   have hwl := IsThs.len _ hws
   refine ⟨p, rfl, ⟨_, SqL.of hp⟩, Zbn (K := K) (a := p) (xs := ws) (fun i ys σc H' => ∃ (o o' : Option V) (ks : List Nat), σc = [o, o'] /\ H' = H1 /\ ys = iz ks /\ ks.Nodup /\ ∀ k, k ∈ ks ↔ k ∈ (((Z2i t).take i).map Zg3).flatten)
    ⟨none, none, [], rfl, rfl, rfl, List.nodup_nil, fun k => by simp⟩ (fun i ys σc H' ⟨_, _, _, _, e, _⟩ => by rw [e]; exact SqL.of hp) ?_ ?_⟩
   ·rintro i x ys σc H' hx hi ⟨o, o', ks, rfl, rfl, rfl, hnd, hks⟩
    obtain ⟨r, hri, hxr⟩ := Z1i _ hws hx
    have hrm := List.mem_of_getElem? hri
    obtain ⟨w', hd, m', rfl, hm6, hd1, hpl, hho⟩ := Z9h N hpf r hrm
    obtain ⟨c, la, rfl, hc, hla⟩ := Zgv hxr
    have hlt : ∀ k ∈ ks, k < m := fun k hk => (hm k).mp ((Z7g N hpf k).mp (by
     obtain ⟨l, hl, hkl⟩ := List.mem_flatten.mp ((hks k).mp hk)
     obtain ⟨r', hr', rfl⟩ := List.mem_map.mp hl
     exact List.mem_flatten.mpr ⟨_, List.mem_map.mpr ⟨r', List.mem_of_mem_take hr', rfl⟩, hkl⟩))
    have hlen := few hnd hlt
    have hnext : ∀ k, k ∈ (((Z2i t).take (i + 1)).map Zg3).flatten ↔ k ∈ ks ∨ k ∈ Zg3 (rw0 w' hd m') := fun k => by
     rw [List.take_add_one, hri, List.map_append, List.flatten_append, List.mem_append, <- hks k]
     simp
    refine ⟨by rw [List.length_map]; omega, c, _, rfl, SqT.of hc, rfl, _, _, rfl, _, _, rfl, rfl, ?_⟩
    refine ⟨_, rfl, la, _, _, .str w', rfl, rfl, SqT.of hla, Z2v _ _, rfl, _, rfl, Z1r (fun g => ?_) (fun g => ?_)⟩
    ·have hw : w' = "hole" := by simpa using g
     obtain ⟨j, rfl, rfl⟩ := hho hw
     subst hw
     rw [Z7f] at hnext
     refine ⟨_, rfl, la, _, _, .int (j : Nat), rfl, rfl, SqT.of hla, Z2w _ _ _, (j : Int), rfl, nx hi ⟨_, _, if j ∈ ks then ks else ks ++ [j], rfl, rfl, Zii, ?_, fun k => ?_⟩⟩
     ·by_cases hj : j ∈ ks
      ·rw [if_pos hj]; exact hnd
      ·rw [if_neg hj]
       exact List.nodup_append.mpr ⟨hnd, by simp, fun a ha b hb e => hj (by rw [List.mem_singleton] at hb; rw [<- hb, <- e]; exact ha)⟩
     ·rw [hnext k]
      by_cases hj : j ∈ ks
      ·rw [if_pos hj, List.mem_singleton]
       exact ⟨fun z => .inl z, fun z => z.elim id fun q => by rw [q]; exact hj⟩
      ·rw [if_neg hj, List.mem_append]
    ·have hw : w' ≠ "hole" := fun z => g (by simp [z])
     rw [Ze7 hw] at hnext
     exact nx hi ⟨_, _, ks, rfl, rfl, rfl, hnd, fun k => by rw [hnext k]; simp⟩
   ·rintro ys σc H' ⟨o, o', ks, rfl, rfl, rfl, hnd, hks⟩ l hl
    rw [List.take_of_length_le (by omega)] at hks
    have hkm : ∀ i, i ∈ ks ↔ i < m := fun i => by rw [hks, Z7g N hpf, hm]
    have hlen := few hnd fun i hi => (hkm i).mp hi
    refine ⟨l, iz ks, rfl, Z01, by rw [List.length_map]; omega, fun ns a pm srt ha => ?_⟩
    have e := Z8c hnd hkm pm srt
    rw [e]
    exact k _ _ ((s1.trans (Z02 hl)).trans (Z02 ha)) Z01
theorem Zik : FnScope ["pattern"] ["pattern"] (Z03 Z2c) := ⟨rfl, rfl, rfl, by decide +kernel, rfl, by decide +kernel, by decide +kernel⟩
theorem Zg5 {f fN : Addr} {fd dN : FuncData} (F : Fun K "hole_count" "hole_count" Z2c f fd) (W : HH K mg fP fH fS fF dP dH dS dF) (FN : Fun K "hole_numbers" "hole_numbers" Z1c fN dN) (bN : Binds K dN ["b"] []) (mN : mg "hole_numbers" = some (.ref fN)) (N : Nat) :
  FnOk P w K mg base CX0 5 f fd ["pattern"] (Zea N) := by
 have GN : FnOk P w K mg base CX0 4 fN dN ["b"] (Ze9 N) := Zg4 FN W N
 refine F.ok Zik (fun vs H Q E h => ?_) (fun cdv A outer s H vs Q E hr h => ?_)
 ·obtain ⟨v, t, m, rfl, _⟩ := h
  rfl
 ·obtain ⟨v, t, m, rfl, ht, hpf, hz, hm, hm64, k⟩ := h
  refine ⟨_, Z07 (Z0m (Z0b Z0l (by rfl) W.U.T.len PySem.boot_len (Z4c (Z06 GN hr (by rfl) mN FN.kp bN .nil Z0n (Z0i (pv 0) Z00)) Z00))), ?_⟩
  refine ⟨_, rfl, v, t, m, rfl, ht, hpf, hz, hm, hm64, fun p H1 s1 hp => ⟨p, _, rfl, .inl (SqL.of hp), ?_⟩⟩
  rw [List.length_map, List.length_map, List.length_range]
  exact k _ s1
end
end K16
namespace L2
open PySem
end L2
namespace K16
open PySem L2 Srt
abbrev Z5p : Stmt := (Zbs (top 1)).getD 0 (.Pass ⟨0, 0, 0, 0⟩)
def Zeb (C : Addr) : Sp := fun vs H Q _ => ∃ e v, vs = [.ref e, v] /\ H e = some (Zid C e) /\ Q .non H
section
variable {P : Program} {w : World} {K : PySem.W.Frag} {mg : Str -> Option Value} {base : Heap}
theorem Zil : FnScope ["self", "words"] ["self", "words"] (Z03 Z5p) := ⟨rfl, rfl, rfl, by decide +kernel, rfl, by decide +kernel, by decide +kernel⟩
theorem Zg6 {f C fI : Addr} {fd : FuncData} {dV : Value} (F : FunD K "__init__" "LikeError.__init__" Z5p dV f fd) (c : ExC K C fI) (hV : mg "ValueError" = none) (hfc : PySem.W.findCls K (.type "ValueError") (.type "type") "__init__" = some (.val (.builtin "ValueError.__init__"))) :
  FnOk P w K mg base CX0 1 f fd ["self", "words"] (Zeb C) := by
 refine F.ok Zil (fun vs H Q E h => ?_) (fun cdv A outer s H vs Q E hr h => ?_)
 ·obtain ⟨e, v, rfl, _⟩ := h
  rfl
 ·obtain ⟨e, v, rfl, He, k⟩ := h
  refine' ⟨?tt, ?body, ?fin⟩
  case body =>
   refine' Z07 ?s1
   case s1 =>
    refine' Z2o ?e1
    case e1 => exact Zfu (Zbj c) (by rfl) hV (by decide +kernel) (by rfl) (by decide +kernel) hfc (by decide +kernel) (Z0i (pv 0) (Z0i (pv 1) Z00))
  case fin => exact ⟨_, rfl, _, rfl, e, v, rfl, He, k⟩
end
structure NoF (K : PySem.W.Frag) (mg : Str -> Option Value) (C fI : Addr) (dI : FuncData) : Prop where
 c : ExC K C fI
 m : mg "NoFill" = some (.ref C)
 F : ∃ dV, FunD K "__init__" "LikeError.__init__" Z5p dV fI dI
 b : Binds K dI ["self", "words"] []
 v : mg "ValueError" = none
 fc : PySem.W.findCls K (.type "ValueError") (.type "type") "__init__" = some (.val (.builtin "ValueError.__init__"))
structure HF (K : PySem.W.Frag) (mg : Str -> Option Value) (fB fC fN : Addr) (dB dC dN : FuncData) : Prop where
 B : Fun K "built" "built" Z88 fB dB
 bB : Binds K dB ["rows"] []
 mB : mg "built" = some (.ref fB)
 C : Fun K "hole_count" "hole_count" Z2c fC dC
 bC : Binds K dC ["pattern"] []
 mC : mg "hole_count" = some (.ref fC)
 N : Fun K "hole_numbers" "hole_numbers" Z1c fN dN
 bN : Binds K dN ["b"] []
 mN : mg "hole_numbers" = some (.ref fN)
 rev : mg "reversed" = none
def Z7h (C : Addr) (N : Nat) : Sp := fun vs H Q E => ∃ (v : V) (fa : Addr) (t : Th) (m : Nat) (ws : List V) (ts : List Th), vs = [v, .ref fa] /\ IsTh H v t /\ PfT N t /\ Th.sz t <= 30000 /\ (∀ i, i ∈ hs t ↔ i < m) /\ m < 64 /\ H fa = some (.tup ws) ∧
 (ws.length = m -> IsThs H ws ts /\ (∀ u ∈ ts, PfT N u) /\ ∀ (v' : V) H', Same H H' -> IsTh H' v' (fl (sg ts) t) -> Q v' H') /\ (ws.length ≠ m -> ∀ H', Same H H' -> E (.ref C) none H')
theorem Zec {σ : Nat -> Th} {N : Nat} {r : Th} (h : Rw r) (hσ : ∀ i ∈ Zg3 r, PfT N (σ i)) : Zl5 (fr σ r) := by
 obtain ⟨w, hd, m, rfl, hm, h1, h2, h3⟩ := h
 by_cases hw : w = "hole"
 ·obtain ⟨i, rfl, rfl⟩ := h3 hw
  subst hw
  rw [Z9i]
  have hp := hσ i (by rw [Z7f]; simp)
  have pl := hp.pl N
  cases N with
  | zero => exact hp.elim
  | succ N =>
   obtain ⟨w, hd, ks, e, g1, g2, g3, g4, g5, g6⟩ := hp
   rw [e] at pl ⊢
   unfold nd at pl ⊢
   rw [plT] at pl
   refine ⟨_, 0, rfl, by decide, ?_, pl⟩
   rw [List.length_cons, List.length_append, List.length_map]
   omega
 ·rw [Zal hw]
  refine ⟨_, m, rfl, hm, ?_, ?_⟩
  ·rw [List.length_cons, List.length_map]; omega
  ·refine Z2j fun x hx => ?_
   rcases List.mem_cons.mp hx with z | z
   ·rw [z]; rfl
   ·obtain ⟨v, hv, rfl⟩ := List.mem_map.mp z
    exact h2 v hv
theorem Zed (t : Th) : (Z2i t).length <= 3 * Th.sz t := by
 unfold Z2i Z0w
 rw [List.length_map]
 exact Nat.le_trans (List.length_filter_le _ _) (Z3x t)
theorem Zg7 {H H1 : Hp} {a : Addr} {o : HO} (s : Same H H1) (ha : H1 a = none) : Same H (Zek a (upd H1 a o)) := fun b u e => by
 have e1 := s _ _ e
 have hb : b ≠ a := Z0h e1 ha
 unfold Zek
 rw [if_neg hb, Z0c hb]
 exact e1
section
variable {P : Program} {w : World} {K : PySem.W.Frag} {mg : Str -> Option Value} {base : Heap} {fP fH fS fF : Addr} {dP dH dS dF : FuncData} {fB fC fN : Addr} {dB dC dN : FuncData} {C fI : Addr} {dI : FuncData}
theorem scFilled : FnScope ["pattern", "fillings", "rows", "lead", "many"] ["pattern", "fillings"] (Z03 Z4i) := ⟨rfl, rfl, rfl, by decide +kernel, rfl, by decide +kernel, by decide +kernel⟩
theorem Zee {f : Addr} {fd : FuncData} (F : Fun K "filled" "filled" Z4i f fd) (W : HH K mg fP fH fS fF dP dH dS dF) (Y : HF K mg fB fC fN dB dC dN) (Z : NoF K mg C fI dI) (N : Nat) : FnOk P w K mg base (X0.CXN P w C) 6 f fd ["pattern", "fillings"] (Z7h C N) := by
 have GF : FnOk P w K mg base CX0 3 fF dF ["tree"] (Zda N) := Zdc W.F W.U N
 have GC : FnOk P w K mg base CX0 5 fC dC ["pattern"] (Zea N) := Zg5 Y.C W Y.N Y.bN Y.mN N
 have GB : FnOk P w K mg base CX0 1 fB dB ["rows"] spBuilt := Zg2 Y.B W.U.T Y.rev
 obtain ⟨dV, FI⟩ := Z.F
 have GI : FnOk P w K mg base CX0 1 fI dI ["self", "words"] (Zeb C) := Zg6 FI Z.c Z.v Z.fc
 refine F.d.okX scFilled (fun vs H Q E h => ?_) (fun cdv A outer s H vs Q E hr h => ?_)
 ·obtain ⟨v, fa, t, m, ws, ts, rfl, _⟩ := h
  rfl
 ·obtain ⟨v, fa, t, m, ws, ts, rfl, ht, hpf, hz, hm, hm64, hfa, kQ, kE⟩ := h
  have hsz : sizeLine = 16777216 := sizeLine_eq
  have hr1 : Room 1 _ := hr.mono (by decide)
  have hr2 : Room 2 _ := hr.mono (by decide)
  have hr3 : Room 3 _ := hr.mono (by decide)
  refine' ⟨?tt, ?body, ?fin⟩
  case body =>
   refine' Z05 ?s1 ?q1
   case s1 =>
    refine' Z10 ?c (Z07 ?ra) Z0k
    case c => exact Z0f Zkd (Z0b Z0l (by rfl) W.U.T.len PySem.boot_len (Z0i (pv 1) Z00)) (Z06 GC hr (by rfl) Y.mC Y.C.kp Y.bC .nil Z0n (Z0i (pv 0) Z00)) (Z0o _)
    case ra => exact X0.ps_raiseL Z.c GI hr2 (by rfl) Z.m Z.b (Z1h Z0a Z00) rfl rfl rfl rfl rfl
   case q1 =>
    refine' Z05 ?s2 ?q2
    case s2 => exact Z0j (i := 2) scFilled.nd rfl (Or.inl rfl) (Z18 Z00)
    case q2 =>
     refine' Z05 ?s3 (Z07 ?s4)
     case s3 =>
      refine' Z60 PassesOwn.leaving rfl (Z39 (Z06 GF hr3 (by rfl) W.mF W.F.kp W.bF .nil Z0n (Z0i (pv 0) Z00))) (Z71 (K := K) (i := 3) (j := 4) rfl rfl scFilled.nd rfl (Or.inl rfl) rfl (Or.inl rfl) (Or.inl rfl) (Or.inl rfl)) (Z07 ?b1)
      case b1 =>
       refine' Z2o (Z7s PySem.F.plainAttrs_list PySem.F.slot_list_append PySem.F.type_list_append Z2b (pv 2) (Z0d (Zen ?t1 ?a1 ?a2) Z00))
       case t1 => exact Z0f Z1j (Z15 Z23 (pv 3) Z04 (fun _ _ => rfl)) Z0a (Z0o _)
       case a1 => exact Z0z (Z0d (Z15 Z23 (pv 1) (Z15 Z23 (pv 3) Z04 (fun _ _ => rfl)) (fun _ _ => rfl)) (Z1h Z04 Z00))
       case a2 => exact Z0z (Z0i (pv 3) (Z0i (pv 4) Z00))
     case s4 => exact Z0m (Z06 GB hr1 (by rfl) Y.mB Y.B.kp Y.bB .nil Z0n (Z0i (pv 2) Z00))
  case fin =>
   refine ⟨_, rfl, fa, ws, rfl, .inr (SqT.of hfa), _, rfl, v, t, m, rfl, ht, hpf, by omega, hm, hm64, fun H1 s1 => ⟨rfl, _, rfl, Z1r (fun g => ?_) (fun g => ?_)⟩⟩
   ·have hne : ws.length ≠ m := fun z => by simp [z] at g
    exact ⟨by show 1 <= 10; decide, fun a ha => ⟨a, _, rfl, Z01, rfl, Z01, kE hne _ (Zg7 s1 ha)⟩⟩
   ·have heq : ws.length = m := by
     by_cases z : ws.length = m
     ·exact z
     ·exact absurd (by simp; omega) g
    obtain ⟨hts, hpu, kQ⟩ := kQ heq
    have htl := IsThs.len _ hts
    refine ⟨Nat.zero_le _, fun ra hra => ?_⟩
    have sr := Z02 (o := .lst []) hra
    have s01 := s1.trans sr
    refine ⟨_, rfl, v, t, rfl, IsTh.kp (Kp.of s01) ht, PfT.ok N hpf, by omega, fun p wr H2 s2 hp0 hp hwr => ?_⟩
    have hra1 : upd H1 ra (.lst []) ra = some (.lst []) := Z01
    have hra2 := s2 _ _ hra1
    have s02 := s01.trans s2
    have hfa2 := s02 _ _ hfa
    have hwl := IsThs.len _ hwr
    have hpr : p ≠ ra := fun q => by rw [q, hra1] at hp0; cases hp0
    have hσ : ∀ i ∈ hs t, PfT N (sg ts i) := fun i hi => Zjx (m := 0) hpu (by have := (hm i).mp hi; omega)
    have hts2 := Z7e (IsThs.kp (Kp.of s02) hts) (Z2j fun x hx => (hpu x hx).pl N)
    refine ⟨p, rfl, ⟨_, SqL.of hp⟩, Zeq (K := K) (a := p) (xs := wr) (fun i σ H' => ∃ (o3 o4 : Option V) (rws : List V), σ = [some v, some (.ref fa), some (.ref ra), o3, o4] /\ H' ra = some (.lst rws) /\ IsThs (TO H') rws (((Z2i t).take i).map (fr (sg ts))) /\ Same (TO H2) (TO H') /\ But ra H2 H')
     ⟨none, none, [], rfl, hra2, by rw [List.take_zero]; exact .nil, Same.refl _, But.refl _ _⟩ (fun i σ H' _ ⟨_, _, _, _, _, _, _, b⟩ => SqL.of (b _ _ hp hpr)) ?_ ?_⟩
    ·rintro i x σ H' hx ⟨o3, o4, rws, rfl, hr', hrw, tS, bS⟩
     obtain ⟨r, hri, hxr⟩ := Z1i _ hwr hx
     have hrm := List.mem_of_getElem? hri
     obtain ⟨w', hd, m', rfl, hm6, hd1, hpl, hho⟩ := Z9h N hpf r hrm
     obtain ⟨c, la, rfl, hc, hla⟩ := Zgv hxr
     have hcH := Z5n _ _ (tS _ _ (Z5w hc))
     have hlaH := Z5n _ _ (tS _ _ (Z5w hla))
     have hfaH := Z5n _ _ (tS _ _ (Z5w hfa2))
     have hrl := IsThs.len _ hrw
     have hil := (List.getElem?_eq_some_iff.mp hri).1
     have hfl := Zed t
     rw [List.length_map, List.length_take] at hrl
     have htk : ((Z2i t).take (i + 1)).map (fr (sg ts)) = ((Z2i t).take i).map (fr (sg ts)) ++ [fr (sg ts) (rw0 w' hd m')] := by
      rw [List.take_add_one, hri, List.map_append]; rfl
     have fin : ∀ (q : Addr) (xs : List V), H' q = none -> IsTh (TO (upd H' q (.tup xs))) (.ref q) (fr (sg ts) (rw0 w' hd m')) →
       ∃ (o3 o4 : Option V) (rws' : List V), [some v, some (V.ref fa), some (.ref ra), some (.ref la), some (.int (m' : Nat))] = [some v, some (.ref fa), some (.ref ra), o3, o4] /\ upd (upd H' q (.tup xs)) ra (.lst (rws ++ [.ref q])) ra = some (.lst rws') /\ IsThs (TO (upd (upd H' q (.tup xs)) ra (.lst (rws ++ [.ref q])))) rws' (((Z2i t).take (i + 1)).map (fr (sg ts))) /\ Same (TO H2) (TO (upd (upd H' q (.tup xs)) ra (.lst (rws ++ [.ref q])))) /\ But ra H2 (upd (upd H' q (.tup xs)) ra (.lst (rws ++ [.ref q]))) := fun q xs hq hth => by
      have sq := Z02 (o := .tup xs) hq
      have t1 := Z4n sq
      have t2 : Same (TO (upd H' q (.tup xs))) (TO (upd (upd H' q (.tup xs)) ra (.lst (rws ++ [.ref q])))) := Ze3 (sq _ _ hr')
      refine ⟨_, _, _, rfl, Z01, ?_, (tS.trans t1).trans t2, fun b o e hb => ?_⟩
      ·rw [htk]
       exact IsThs.app _ (IsThs.kp (Kp.of (t1.trans t2)) hrw) (.cons (IsTh.kp (Kp.of t2) hth) .nil)
      ·rw [Z0c hb]; exact sq _ _ (bS b o e hb)
     refine ⟨c, _, rfl, SqT.of hcH, rfl, _, _, rfl, _, _, rfl, rfl, ?_⟩
     refine ⟨_, rfl, .inl ⟨rfl, _, SqL.of hr'⟩, _, rfl, la, _, _, .str w', rfl, rfl, SqT.of hlaH, Z2v _ _, rfl, _, rfl, Z1r (fun g => ?_) (fun g => ?_)⟩
     ·have hw : w' = "hole" := by simpa using g
      obtain ⟨j, rfl, rfl⟩ := hho hw
      subst hw
      have hj : j ∈ hs t := (Z7g N hpf j).mp (List.mem_flatten.mpr ⟨_, List.mem_map.mpr ⟨_, hrm, rfl⟩, by rw [Z7f]; simp⟩)
      have hjm := (hm j).mp hj
      obtain ⟨u, hu⟩ : ∃ u, ws[j]? = some u := ⟨_, List.getElem?_eq_getElem (by omega)⟩
      obtain ⟨tu, htu, hut⟩ := Z1i _ hts2 hu
      have esg : sg ts j = tu := by unfold sg; rw [List.getD_eq_getElem?_getD, htu]; rfl
      refine ⟨_, rfl, _, rfl, la, _, _, .int (j : Nat), rfl, rfl, SqT.of hlaH, Z2w _ _ _, fa, ws, _, u, rfl, rfl, SqT.of hfaH, Z2h hu, (by show 2 <= sizeLine; decide), fun q hq => ?_⟩
      refine ⟨ra, _, _, rfl, rfl, Z02 hq _ _ hr', by omega, fin q _ hq ?_⟩
      rw [Z9i, esg]
      exact .tup (Z5w Z01) (.cons (IsTh.kp (Kp.of (tS.trans (Z4n (Z02 hq)))) hut) (.cons (.at rfl) .nil))
     ·have hw : w' ≠ "hole" := fun z => g (by simp [z])
      refine ⟨_, rfl, _, rfl, (by show 2 <= sizeLine; decide), fun q hq => ?_⟩
      refine ⟨ra, _, _, rfl, rfl, Z02 hq _ _ hr', by omega, fin q _ hq ?_⟩
      rw [Zal hw]
      have hxT := IsTh.kp (Kp.of (tS.trans (Z4n (Z02 (o := .tup [V.ref la, .int (m' : Nat)]) hq)))) (Zgu hxr (Ze6 (by
       have := Zec (σ := sg ts) (N := N) ⟨w', hd, m', rfl, hm6, hd1, hpl, hho⟩ (by rw [Ze7 hw]; intro i hi; cases hi)
       rw [Zal hw] at this
       exact this)))
      obtain ⟨_, us, e, hu1, hu2⟩ := Z1q hxT
      cases e
      have e2 := hu1.symm.trans (Z4n (Z02 hq) _ _ (Z5w hcH))
      injection e2 with e2
      injection e2 with e2
      rw [e2] at hu2
      exact .tup (Z5w Z01) hu2
    ·rintro σ H' ⟨o3, o4, rws, rfl, hr', hrw, tS, bS⟩
     rw [List.take_of_length_le (by omega)] at hrw
     have hfl := Zed t
     refine ⟨_, rfl, ra, rws, _, fl (sg ts) t, rfl, hr', IsThs.kp (Kp.of Z5n) hrw, fun r hr0 => ?_, Ze8 N hpf (fun i hi => ?_) [], by rw [List.length_map]; omega, fun v' H3 s3 hv' => kQ v' H3 ?_ hv'⟩
     ·obtain ⟨r', hr1', rfl⟩ := List.mem_map.mp hr0
      exact Zec (Z9h N hpf r' hr1') fun i hi => hσ i ((Z7g N hpf i).mp (List.mem_flatten.mpr ⟨_, List.mem_map.mpr ⟨r', hr1', rfl⟩, hi⟩))
     ·have := (hσ i hi).isTup
      cases e : sg ts i with
      | tup ls => exact ⟨ls, rfl⟩
      | «at» v => rw [e] at this; cases this
      | lst l => rw [e] at this; cases this
     ·exact fun b o e => s3 _ _ (bS _ _ (s02 _ _ e) (Z0h (s1 _ _ e) hra))
end
end K16
namespace K16
open PySem L2
structure CL (K : PySem.W.Frag) (mg : Str -> Option Value) (C B : Addr) (o1 o2 o3 o4 o5 o6 o7 o8 o9 o10 : Addr) : Prop where
 lkC : ∃ nm q N bs bm sn sub ab col dd k0 k1 k2 k3 k5, K.lookup C = some (excClassObj nm q C N bs (.ref B :: bm) true sn sub ab col dd k0 k1 k2 k3 k5 "ValueError.__new__")
 lkB : ∃ nm q N bs bm hd sn sub ab col dd k0 k1 k2 k3 k5 nid, K.lookup B = some (excClassObj nm q B N bs bm hd sn sub ab col dd k0 k1 k2 k3 k5 nid) /\ bm.contains (.type "BaseException") = true
 mB : mg "LikeError" = some (.ref B)
 m1 : mg "NoBare" = some (.ref o1)
 m2 : mg "NoExchange" = some (.ref o2)
 m3 : mg "NoPlace" = some (.ref o3)
 m4 : mg "NoPlaces" = some (.ref o4)
 m5 : mg "NoPut" = some (.ref o5)
 m6 : mg "NoTable" = some (.ref o6)
 m7 : mg "NoFunction" = some (.ref o7)
 m8 : mg "NoLine" = some (.ref o8)
 m9 : mg "NoRow" = some (.ref o9)
 m10 : mg "NoText" = some (.ref o10)
 i : ExI K C
 kC : PySem.W.kitOne K (.ref C) (.ref C) = some true
 kV : PySem.W.kitOne K (.ref C) (.type "ValueError") = some true
 k1 : PySem.W.kitOne K (.ref C) (.ref o1) = some false
 k2 : PySem.W.kitOne K (.ref C) (.ref o2) = some false
 k3 : PySem.W.kitOne K (.ref C) (.ref o3) = some false
 k4 : PySem.W.kitOne K (.ref C) (.ref o4) = some false
 k5 : PySem.W.kitOne K (.ref C) (.ref o5) = some false
 k6 : PySem.W.kitOne K (.ref C) (.ref o6) = some false
 kA : PySem.W.kitAny K (.ref C) ([o7, o8, o9, o10].map Value.ref) = some false
def Z8n (N : Nat) : Sp := fun vs H Q _ => ∃ (v : V) (fa : Addr) (t : Th) (m : Nat) (ws : List V), vs = [v, .ref fa] /\ IsTh H v t /\ PfT N t /\ Th.sz t <= 30000 /\ (∀ i, i ∈ hs t ↔ i < m) /\ m < 64 /\ H fa = some (.tup ws) /\ ws.length ≠ m /\ ∀ H', Same H H' -> Q (.bl true) H'
section
variable {P : Program} {w : World} {K : PySem.W.Frag} {mg : Str -> Option Value} {base : Heap} {C fI fB : Addr} {dI dB : FuncData} {B o1 o2 o3 o4 o5 o6 o7 o8 o9 o10 : Addr}
theorem scRefused : FnScope ["_law_pattern", "_law_fillings", "_law_found", "_law_e"] ["_law_pattern", "_law_fillings"] (Z03 Z3w) := ⟨rfl, rfl, rfl, by decide +kernel, rfl, by decide +kernel, by decide +kernel⟩
theorem Zbq {f : Addr} {fd : FuncData} (F : Fun K "_law_refused" "_law_refused" Z3w f fd) (T : TxtT mg) (Z : NoF K mg C fI dI) (L : CL K mg C B o1 o2 o3 o4 o5 o6 o7 o8 o9 o10)
  (FB : Fun K "filled" "filled" Z4i fB dB) (bB : Binds K dB ["pattern", "fillings"] []) (mB : mg "filled" = some (.ref fB)) (N : Nat) (GB : FnOk P w K mg base (X0.CXN P w C) 6 fB dB ["pattern", "fillings"] (Z7h C N)) :
  FnOk P w K mg base CX0 7 f fd ["_law_pattern", "_law_fillings"] (Z8n N) := by
 obtain ⟨nm, q, Nn, bs, bm, sn, sub, ab, col, dd, k0, k1, k2, k3, k5, hkC⟩ := L.lkC
 obtain ⟨nm', q', Nn', bs', bm', hd', sn', sub', ab', col', dd', k0', k1', k2', k3', k5', nid', hkB, hBE⟩ := L.lkB
 have hCB : (Value.ref B :: bm).contains (.ref B) = true := by rw [List.contains_cons, beq_self_eq_true, Bool.true_or]
 refine F.ok scRefused (fun vs H Q E h => ?_) (fun cdv A outer s H vs Q E hr h => ?_)
 ·obtain ⟨v, fa, t, m, ws, rfl, _⟩ := h
  rfl
 ·obtain ⟨v, fa, t, m, ws, rfl, hv, hpf, hz, hm, hm64, hfa, hne, k⟩ := h
  refine' ⟨?tt, ?body, ?fin⟩
  case body =>
   refine' Z05 ?s1 ?r1
   case s1 => exact Z0j (i := 2) scRefused.nd rfl (Or.inl rfl) Zga
   case r1 =>
    refine' Z05 ?s2 ?r2
    case s2 => exact X0.ps_try0 (C := C) (B := B) (i := 2) (j := 3) GB hr (by rfl) mB FB.kp bB (Z0i (pv 0) (Z0i (pv 1) Z00)) rfl rfl scRefused.nd rfl (Or.inl rfl) rfl (by decide) rfl (by rfl) L.mB hkC hCB hkB hBE
    case r2 =>
     refine' Z05 ?s3 ?r3
     case s3 =>
      refine' Z10 ?c (Z07 (Z0m Z5q)) Z0k
      case c =>
       refine' (Z6l ?c2 (Z5y ?c3)).pt
       case c2 => exact Z2n (Z1f (Z0b (id := "isinstance") (X0.call_isi0 Z.c L.i) (by rfl) T.isi (by decide +kernel) (Z0i (pv 2) (Z0i (Z17 (v := .ref C) (by rfl) Z.m rfl) Z00))))
       case c3 => exact Z2n (Z1f (Z0b (id := "isinstance") (X0.call_isi0 Z.c L.i) (by rfl) T.isi (by decide +kernel) (Z0i (pv 2) (Z0i (Z1n (v := .ty "ValueError") (by rfl) Z.v (by decide +kernel) rfl) Z00))))
     case r3 =>
      refine' Z05 ?s4 ?r4
      case s4 =>
       refine' Z10 ?c (Z07 (Z0m Z5q)) Z0k
       case c =>
        refine' (Z6l ?c1 (Z6l ?c2 (Z5y ?c3))).pt
        case c1 => exact Z1f (Z0b (id := "isinstance") (X0.call_isi0 Z.c L.i) (by rfl) T.isi (by decide +kernel) (Z0i (pv 2) (Z0i (Z17 (v := .ref o1) (by rfl) L.m1 rfl) Z00)))
        case c2 => exact Z1f (Z0b (id := "isinstance") (X0.call_isi0 Z.c L.i) (by rfl) T.isi (by decide +kernel) (Z0i (pv 2) (Z0i (Z17 (v := .ref o2) (by rfl) L.m2 rfl) Z00)))
        case c3 => exact Z1f (Z0b (id := "isinstance") (X0.call_isi0 Z.c L.i) (by rfl) T.isi (by decide +kernel) (Z0i (pv 2) (Z0i (Z17 (v := .ref o3) (by rfl) L.m3 rfl) Z00)))
      case r4 =>
       refine' Z05 ?s5 (Z07 ?s6)
       case s5 =>
        refine' Z10 ?c (Z07 (Z0m Z5q)) Z0k
        case c =>
         refine' (Z6l ?c1 (Z6l ?c2 (Z5y ?c3))).pt
         case c1 => exact Z1f (Z0b (id := "isinstance") (X0.call_isi0 Z.c L.i) (by rfl) T.isi (by decide +kernel) (Z0i (pv 2) (Z0i (Z17 (v := .ref o4) (by rfl) L.m4 rfl) Z00)))
         case c2 => exact Z1f (Z0b (id := "isinstance") (X0.call_isi0 Z.c L.i) (by rfl) T.isi (by decide +kernel) (Z0i (pv 2) (Z0i (Z17 (v := .ref o5) (by rfl) L.m5 rfl) Z00)))
         case c3 => exact Z1f (Z0b (id := "isinstance") (X0.call_isi0 Z.c L.i) (by rfl) T.isi (by decide +kernel) (Z0i (pv 2) (Z0i (Z17 (v := .ref o6) (by rfl) L.m6 rfl) Z00)))
       case s6 =>
        refine' Z0m (Zix (Z0b (id := "isinstance") (X0.call_isi0T Z.c L.i) (by rfl) T.isi (by decide +kernel) (Z0i (pv 2) (Zbr (Z0z ?q1) Z00))))
        case q1 =>
         refine' Z0i (Z17 (v := .ref o7) (by rfl) L.m7 rfl) ?q8
         case q8 =>
          refine' Z0i (Z17 (v := .ref o8) (by rfl) L.m8 rfl) ?q9
          case q9 =>
           refine' Z0i (Z17 (v := .ref o9) (by rfl) L.m9 rfl) ?q10
           case q10 => exact Z0i (Z17 (v := .ref o10) (by rfl) L.m10 rfl) Z00
  case fin =>
   refine ⟨_, rfl, _, rfl, v, fa, t, m, ws, [], rfl, hv, hpf, hz, hm, hm64, hfa, (fun e => absurd e hne), fun _ H1 s1 a ha => ?_⟩
   have s2 := Z02 (o := X0.excO C a none) ha
   have ha2 : upd H1 a (X0.excO C a none) a = some (X0.excO C a none) := Z01
   refine ⟨_, rfl, a, .ref C, .ref C, true, rfl, ha2, (fun u h => h), L.kC, _, rfl, Z46 ?_⟩
   refine ⟨_, rfl, a, .ty "ValueError", .type "ValueError", true, rfl, ha2, (fun u h => h), L.kV, _, rfl, Z46 ?_⟩
   refine ⟨_, rfl, a, .ref o1, .ref o1, false, rfl, ha2, (fun u h => h), L.k1, _, rfl, Z46 ?_⟩
   refine ⟨_, rfl, a, .ref o2, .ref o2, false, rfl, ha2, (fun u h => h), L.k2, _, rfl, Z46 ?_⟩
   refine ⟨_, rfl, a, .ref o3, .ref o3, false, rfl, ha2, (fun u h => h), L.k3, _, rfl, Z46 ?_⟩
   refine ⟨_, rfl, a, .ref o4, .ref o4, false, rfl, ha2, (fun u h => h), L.k4, _, rfl, Z46 ?_⟩
   refine ⟨_, rfl, a, .ref o5, .ref o5, false, rfl, ha2, (fun u h => h), L.k5, _, rfl, Z46 ?_⟩
   refine ⟨_, rfl, a, .ref o6, .ref o6, false, rfl, ha2, (fun u h => h), L.k6, _, rfl, Z46 ?_⟩
   refine ⟨_, rfl, (by show 4 <= sizeLine; decide), fun tp htp => ?_⟩
   have s3 := Z02 (o := .tup [.ref o7, .ref o8, .ref o9, .ref o10]) htp
   exact ⟨a, tp, [o7, o8, o9, o10], false, rfl, s3 _ _ ha2, Z01, L.kA, _, rfl, k _ ((s1.trans s2).trans s3)⟩
end
theorem nb {n m c b : Nat} (h : n <= m + c) (hm : m <= 60000024) (hc : 60000024 + c <= b := by decide) : n <= b := Nat.le_trans h (Nat.le_trans (Nat.add_le_add_right hm c) hc)
theorem nt {a b c k l m : Nat} (h : a <= b + k) (h2 : b <= c + l) (hm : l + k <= m := by decide) : a <= c + m := by omega
theorem c57 {c : Nat} (h : (c : Int) < 22 + 6 * ((6 : Nat) : Int)) : c <= 57 := by omega
theorem c39 {c : Nat} (h : (c : Int) < 10 + 6 * ((5 : Nat) : Int)) : c <= 39 := by omega
def spFormU : Sp := fun vs H Q E => ∃ B N, B <= 60 /\ N <= 6 /\ Zdq B N vs H Q E
theorem Zg8 {P : Program} {w : World} {K : PySem.W.Frag} {mg : Str -> Option Value} {base : Heap} {f : Addr} {fd : FuncData} {ps : List Str} (G : ∀ B N, FnOk P w K mg base CX0 (N + B + 4) f fd ps (Zdq B N)) : FnOk P w K mg base CX0 70 f fd ps spFormU :=
 ⟨fun vs H Q E ⟨B, N, _, _, h⟩ => (G B N).len vs H Q E h, fun A outer s H args us vs Q E hr he hb hv ⟨B, N, hB, hN, h⟩ => (G B N).run A outer s H args us vs Q E (hr.mono (by omega)) he hb hv h⟩
theorem cD6 : ∀ N : Fin 7, cD N.val <= 300000 := by decide
theorem Zam {H : Hp} {Q : VK} {E : XK} {d l wd nm bg : Addr} {ns : List Int} {n : Nat} {r h s bb : Int} {T : List Str} {ts : List Th} (B N : Nat) (F : Feed H d l ns n) (W : H wd = some (.dK (Z0q nm r h s bg))) (M : Nms H nm T) (G : Bag H bg B ts)
  (hn : n <= 600000000000) (hh : h <= 12) (hs0 : 0 <= s) (hs2 : s <= 2) (hB : B <= 60) (hN1 : 1 <= N) (hN : N <= 6) (hr : 2 <= r) (hb : bb = N)
  (k : ∀ (v : V) (t : Th) n' H', IsTh H' v t -> PfT (N + B) t -> (cnt t : Int) < r + 6 * N -> (ts = [] -> ∀ i ∈ hs t, i < 12) -> n' <= n + 300000 -> Feed H' d l ns n' -> Kp H H' -> Q v H') : spFormU [.ref d, .ref wd, .int 0, .int bb] H Q E := by
 have hc : cD N <= 300000 := cD6 ⟨N, by omega⟩
 have C0 : Cf H H d l wd nm bg ns n r h s T B ts := ⟨F, W, M, G, But2.refl _ _ _⟩
 refine ⟨B, N, hB, hN, d, l, wd, nm, bg, ns, n, r, h, s, 0, bb, T, ts, rfl, C0, by omega, by omega, Int.le_refl _, hs0, by omega, by omega, by omega, by omega, fun v t n' r' H' hv pf rm hs' hn' C' => k v t n' H' hv pf ?_ (fun z i hi => ?_) (by omega) C'.F (C0.kp C'.b2)⟩
 ·obtain ⟨a, b, c⟩ := rm
  have := c hr
  omega
 ·have := hs' z i hi
  omega
theorem Zim {H : Hp} {a : Addr} {o : HO} : But a H (upd H a o) := fun c u h n => by rw [Z0c n]; exact h
theorem Feed.butl {H H' : Hp} {d l sa : Addr} {ns : List Int} {n : Nat} {xs : List V} (F : Feed H d l ns n) (hs : H sa = some (.lst xs)) (hl : sa ≠ l) (b : But sa H H') : Feed H' d l ns n := by
 obtain ⟨⟨z, hd⟩, hl', hz⟩ := F
 exact ⟨⟨z, b _ _ hd (Z44 hd hs (by intro q; cases q))⟩, b _ _ hl' (Ne.symm hl), hz⟩
structure LP (q : Nat) (H : Hp) (nm sa : Addr) (T : List Str) (S : List Nat) (v : V) (p : Th) : Prop where
 N : Nms H nm T
 s : H sa = some (.lst (iv S))
 few : (iv S).length <= 12
 is : IsTh H v p
 pf : PfT q p
 c : cnt p <= 57
 hh : ∀ j, j ∈ hs p ↔ j < (iv S).length
structure LF (H : Hp) (fa : Addr) (B j : Nat) (ts : List Th) : Prop where
 l : ∃ ws, H fa = some (.lst ws) /\ IsThs H ws ts
 n : ts.length = j
 ok : ∀ t ∈ ts, PfT B t /\ cnt t <= 39
section
variable {H H' : Hp} {q B j : Nat} {nm sa fa : Addr} {T : List Str} {S : List Nat} {v : V} {p : Th} {ts : List Th}
theorem LP.kp (L : LP q H nm sa T S v p) (k : Kp H H') : LP q H' nm sa T S v p := ⟨L.N.kp k, k _ _ L.s (by intro kvs z; cases z), L.few, IsTh.kp k L.is, L.pf, L.c, L.hh⟩
theorem LF.kp (L : LF H fa B j ts) (k : Kp H H') : LF H' fa B j ts := by
 obtain ⟨⟨ws, a, b⟩, c, d⟩ := L
 exact ⟨⟨ws, k _ _ a (by intro kvs z; cases z), IsThs.kp k b⟩, c, d⟩
theorem LP.le {q' : Nat} (L : LP q H nm sa T S v p) (h : q <= q') : LP q' H nm sa T S v p := ⟨L.N, L.s, L.few, L.is, L.pf.le h, L.c, L.hh⟩
theorem LP.butl {xs : List V} (L : LP q H nm sa T S v p) (hf : H fa = some (.lst xs)) (h1 : fa ≠ nm) (h2 : fa ≠ sa) (b : But fa H H') : LP q H' nm sa T S v p :=
 ⟨⟨b _ _ L.N.a h1.symm, L.N.l1, L.N.l2, L.N.nm⟩, b _ _ L.s h2.symm, L.few, Z8f hf b L.is (PfT.pl _ L.pf), L.pf, L.c, L.hh⟩
end
theorem Zef (i : Nat) : cnt (hol i) = 1 := by
 unfold hol
 rw [Z2e (fun k hk => by cases hk)]
 rfl
end K16
namespace L2.X0
open PySem L2
theorem pass_none0 {X : Cx} {C : Addr} : Z9k (CXN X.prog X.w C) X E0 := by
 intro pins σ H s e s' I h
 obtain ⟨a, d, T, H', rfl, os, bare, un, hok, F, ha, hT, Ha, HT, z⟩ := h
 exact z.elim
end L2.X0
namespace K16
open PySem L2
def Zg9 (K : PySem.W.Frag) : Sp := fun vs H Q _ => ∃ (a : Addr) (ns : List Int), vs = [.ref a] /\ SqL K H a (ns.map V.int) /\ ns.length <= 63 /\ ∀ H', Q (.bl true) H'
def Z8o : List V := [.int 3, .int 0, .int 1, .int 6, .int 2, .int 12]
theorem Zl7 {σ : Nat -> Th} {M : Nat} : ∀ (n : Nat) {t : Th}, PfT n t -> (∀ i ∈ hs t, Th.sz (σ i) <= M) -> Th.sz (fl σ t) <= Th.sz t + cnt t * M := by
 intro n
 induction n with
 | zero => intro t h; exact h.elim
 | succ n ih =>
  intro t h hσ
  obtain ⟨w, hd, ks, rfl, h1, h2, h3, h4, h5, h6⟩ := h
  have nk : ∀ k ∈ ks, L2.isTup k = true := fun k hk => (h6 k hk).isTup
  by_cases hw : w = "hole"
  ·obtain ⟨j, rfl, rfl⟩ := h4 hw
   subst hw
   rw [Z1u, Z2e nk]
   have := hσ j (by rw [Z1o]; simp)
   simp [Z3s]
   omega
  ·rw [Z5f hw, Zbg, Zbg, Z2e nk]
   have main : ∀ l : List Th, (∀ k ∈ l, PfT n k) -> (∀ k ∈ l, ∀ i ∈ hs k, Th.sz (σ i) <= M) -> szs (l.map (fl σ)) <= szs l + Z3s l * M := by
    intro l
    induction l with
    | nil => intro _ _; simp [szs]
    | cons k l il =>
     intro hl hq
     rw [List.map_cons, szs, szs, Z3s, Nat.add_mul]
     have a1 := ih (hl k (List.mem_cons_self ..)) (hq k (List.mem_cons_self ..))
     have a2 := il (fun y hy => hl y (List.mem_cons_of_mem _ hy)) (fun y hy => hq y (List.mem_cons_of_mem _ hy))
     omega
   have := main ks h6 fun k hk i hi => hσ i ((Z2k hw).mpr ⟨k, hk, hi⟩)
   rw [Nat.add_mul]
   omega
theorem Zl8 {ts : List Th} {B c : Nat} (h : ∀ t ∈ ts, PfT B t /\ cnt t <= c) {i : Nat} (hi : i < ts.length) : PfT B (sg ts i) /\ cnt (sg ts i) <= c := by
 have e : sg ts i = ts[i] := by unfold sg; rw [List.getD_eq_getElem?_getD, List.getElem?_eq_getElem hi]; rfl
 rw [e]
 exact h _ (List.getElem_mem hi)
structure Fn (K : PySem.W.Frag) (mg : Str -> Option Value) (x : Str) (st : Stmt) (ps : List Str) (f : Addr) (fd : FuncData) : Prop where
 F : Fun K x x st f fd
 b : Binds K fd ps []
 m : mg x = some (.ref f)
structure LwF where
 fD : Addr
 fS : Addr
 fF : Addr
 fN : Addr
 fW : Addr
 fX : Addr
 fDn : Addr
 fTu : Addr
 fFi : Addr
 fSa : Addr
 fFd : Addr
 fRe : Addr
 dD : FuncData
 dS : FuncData
 dF : FuncData
 dN : FuncData
 dW : FuncData
 dX : FuncData
 dDn : FuncData
 dTu : FuncData
 dFi : FuncData
 dSa : FuncData
 dFd : FuncData
 dRe : FuncData
structure Lw (K : PySem.W.Frag) (mg : Str -> Option Value) (p : LwF) : Prop where
 U : Helpers K mg p.fD p.fS p.dD p.dS
 T : TxtT mg
 lst : mg "list" = none
 F : Fn K mg "_law_feed" Zd4 ["_law_script"] p.fF p.dF
 N : Fn K mg "_law_names" Z86 ["_law_feed_here", "_law_many"] p.fN p.dN
 W : Fn K mg "_law_world" Z87 ["_law_names_here", "_law_room", "_law_holes", "_law_astray"] p.fW p.dW
 X : Fn K mg "_law_form" Z96 ["_law_feed_here", "_law_world_here", "_law_lets", "_law_below"] p.fX p.dX
 Dn : Fn K mg "_law_dense" Z6d ["_law_b", "_law_seen"] p.fDn p.dDn
 Tu : Fn K mg "_law_turned_about" Z4h ["_law_b", "_law_many"] p.fTu p.dTu
 Fi : Fn K mg "_law_fill" Zbb ["_law_b", "_law_fillings"] p.fFi p.dFi
 Sa : Fn K mg "_law_same" Zba ["_law_found", "_law_due"] p.fSa p.dSa
 Fd : Fn K mg "filled" Z4i ["pattern", "fillings"] p.fFd p.dFd
 Re : Fn K mg "_law_refused" Z3w ["_law_pattern", "_law_fillings"] p.fRe p.dRe
def own (i : Nat) : Th := nd "own" [.int (i : Nat)] []
theorem Zk2 (i : Nat) : PfT 1 (own i) := ⟨"own", [.int (i : Nat)], [], rfl, Nat.le_refl _, fun v hv => (by rw [List.mem_singleton] at hv; subst hv; rfl), fun z => absurd z (by decide +kernel), fun z => absurd z (by decide +kernel), Nat.zero_le _, fun k hk => (by cases hk)⟩
theorem Zgw {H : Hp} {p : Addr} {i : Nat} (h : H p = some (.tup [.str "own", .int (i : Nat)])) : IsTh H (.ref p) (own i) := .tup h (.cons (.at (by decide +kernel)) (.cons (.at rfl) .nil))
theorem Zin (j : Nat) : j ∈ hs (hol 0) ↔ j < 1 := by
 rw [Z8h]
 omega
theorem Zio (σ : Nat -> Th) : fl σ (hol 0) = σ 0 := Z1u
section
variable {P : Program} {w : World} {K : PySem.W.Frag} {mg : Str -> Option Value} {base : Heap} {p : LwF} {C : Addr}
theorem scLaw : FnScope ["_law_script", "_law_feed_here", "_law_names_here", "_law_k", "_law_seen", "_law_world_here", "_law_pattern", "_law_fillings", "_law_j", "_law_due", "_law_more"] ["_law_script"] (Z03 Zgk) := ⟨rfl, rfl, rfl, by decide +kernel, rfl, by decide +kernel, by decide +kernel⟩
theorem Zk3 {f : Addr} {fd : FuncData} (F : Fun K "law" "law" Zgk f fd) (Y : Lw K mg p)
  (GN : FnOk P w K mg base CX0 3 p.fN p.dN ["_law_feed_here", "_law_many"] spNames)
  (GX : FnOk P w K mg base CX0 70 p.fX p.dX ["_law_feed_here", "_law_world_here", "_law_lets", "_law_below"] spFormU)
  (GDn : FnOk P w K mg base CX0 8 p.fDn p.dDn ["_law_b", "_law_seen"] (Zdn 6))
  (GTu : FnOk P w K mg base CX0 9 p.fTu p.dTu ["_law_b", "_law_many"] (Zad 7))
  (GFi : FnOk P w K mg base CX0 10 p.fFi p.dFi ["_law_b", "_law_fillings"] (Zgn 8))
  (GSa : FnOk P w K mg base CX0 71 p.fSa p.dSa ["_law_found", "_law_due"] (Zgp 70))
  (GFd : FnOk P w K mg base (X0.CXN P w C) 6 p.fFd p.dFd ["pattern", "fillings"] (Z7h C 60))
  (GRe : FnOk P w K mg base CX0 7 p.fRe p.dRe ["_law_pattern", "_law_fillings"] (Z8n 60)) :
  FnOk P w K mg base CX0 72 f fd ["_law_script"] (Zg9 K) := by
 have GF : FnOk P w K mg base CX0 1 p.fF p.dF ["_law_script"] (Zgl K) := Zhy Y.F.F Y.U.T
 have GD : FnOk P w K mg base CX0 1 p.fD p.dD ["_law_feed_here", "_law_many"] spDraw := Z5i Y.U.D Y.U.T
 have GW : FnOk P w K mg base CX0 1 p.fW p.dW ["_law_names_here", "_law_room", "_law_holes", "_law_astray"] spWorld := Zfp Y.W.F
 refine F.ok scLaw (fun vs H Q E h => ?_) (fun cdv A outer s H vs Q E hr h => ?_)
 ·obtain ⟨a, ns, rfl, _⟩ := h
  rfl
 ·obtain ⟨a, ns, rfl, hS, hlen, k⟩ := h
  have hsz : sizeLine = 16777216 := sizeLine_eq
  have hu : (_ : Around).units + 1 < cLine := Nat.lt_of_le_of_lt (Nat.add_le_add_left (by decide) _) hr.units
  have hu0 := hr.units0
  have hr1 : Room 1 _ := hr.mono (by decide)
  have hr3 : Room 3 _ := hr.mono (by decide)
  have hr6 : Room 6 _ := hr.mono (by decide)
  have hr7 : Room 7 _ := hr.mono (by decide)
  have hr8 : Room 8 _ := hr.mono (by decide)
  have hr9 : Room 9 _ := hr.mono (by decide)
  have hr10 : Room 10 _ := hr.mono (by decide)
  have hr70 : Room 70 _ := hr.mono (by decide)
  have hr71 : Room 71 _ := hr
  refine' ⟨?tt, ?body, ?fin⟩
  case body =>
   refine' Z05 ?s1 ?r1
   case s1 => exact Z0j (i := 1) scLaw.nd rfl (Or.inl rfl) (Z06 GF hr1 (by rfl) Y.F.m Y.F.F.kp Y.F.b .nil Z0n (Z0i (pv 0) Z00))
   case r1 =>
    refine' Z05 ?s2 ?r2
    case s2 => exact Z0j (i := 2) scLaw.nd rfl (Or.inl rfl) (Z06 GN hr3 (by rfl) Y.N.m Y.N.F.kp Y.N.b .nil Z0n (Z0i (pv 1) (Z1h Z04 Z00)))
    case r2 =>
     refine' Z05 ?s3 (Z07 ?s4)
     case s3 =>
      refine' Z60 PassesOwn.never rfl (Z28 (by rfl) Y.U.T.range (Z1h Z04 Z00)) (Z0x (i := 3) scLaw.nd rfl (Or.inl rfl)) ?blk
      case blk =>
       refine' Z05 ?b1 ?q1
       case b1 => exact Z0j (i := 4) scLaw.nd rfl (Or.inl rfl) (Z18 Z00)
       case q1 =>
        refine' Z05 ?b2 ?q2
        case b2 =>
         refine' Z99 (i := 5) ?ha ?hb ?hc ?hd ?he ?hf
         case ha => exact scLaw.nd
         case hb => exact rfl
         case hc => exact (Or.inl rfl)
         case he => exact rfl
         case hf => exact (.inr rfl)
         case hd =>
          refine' Z06 GW hr1 (by rfl) Y.W.m Y.W.F.kp Y.W.b .nil Z0n ?aa
          case aa =>
           refine' Z0i (pv 2) ?a1
           case a1 =>
            refine' Z1h Z04 ?a2
            case a2 =>
             refine' Z0d ?d1 (Z1h Z04 Z00)
             case d1 =>
              refine' Z15 Z1a ?l (Z06 GD hr1 (by rfl) Y.U.mD Y.U.D.kp Y.U.bD .nil Z0n (Z0i (pv 1) (Z1h Z04 Z00))) (fun _ _ => rfl)
              case l => exact @Z2s ((Zei CX0 P w K mg base ["_law_script", "_law_feed_here", "_law_names_here", "_law_k", "_law_seen", "_law_world_here", "_law_pattern", "_law_fillings", "_law_j", "_law_due", "_law_more"] "law" (Z03 Zgk) f cdv A outer s H E).nox) _ Z8o (by decide +kernel)
        case q2 =>
         refine' Z0r ?b3 ?q3
         case b3 => exact Z0j (i := 6) scLaw.nd rfl (Or.inl rfl) (Z06 GDn hr8 (by rfl) Y.Dn.m Y.Dn.F.kp Y.Dn.b .nil Z0n (Z4c (Z06 GX hr70 (by rfl) Y.X.m Y.X.F.kp Y.X.b .nil Z0n (Z0i (pv 1) (Z0i (pv 5) (Z1h Z04 (Z1h Z04 Z00))))) (Z0i (pv 4) Z00)))
         case q3 =>
          refine' Z0r ?b4 ?q4
          case b4 =>
           refine' Z10 ?c (Z07 ?e) Z0k
           case c => exact Z0f Z1j (Z06 GD hr1 (by rfl) Y.U.mD Y.U.D.kp Y.U.bD .nil Z0n (Z0i (pv 1) (Z1h Z04 Z00))) Z04 (Z0o _)
           case e => exact Z0j (i := 6) scLaw.nd rfl (Or.inl rfl) (Z06 GTu hr9 (by rfl) Y.Tu.m Y.Tu.F.kp Y.Tu.b .nil Z0n (Z0i (pv 6) (Z4c (Z0b Z0l (by rfl) Y.U.T.len PySem.boot_len (Z0i (pv 4) Z00)) Z00)))
          case q4 =>
           refine' Z05 ?b5 ?q5
           case b5 => exact Z0j (i := 7) scLaw.nd rfl (Or.inl rfl) (Z18 Z00)
           case q5 =>
            refine' Z0r ?b6 ?q6
            case b6 =>
             refine' Z60 PassesOwn.never rfl (Z28 (by rfl) Y.U.T.range (Z4c (Z0b Z0l (by rfl) Y.U.T.len PySem.boot_len (Z0i (pv 4) Z00)) Z00)) (Z0x (i := 8) scLaw.nd rfl (Or.inl rfl)) ?blk2
             case blk2 =>
              refine' Z05 ?c1 ?p1
              case c1 =>
               refine' Z99 (i := 5) ?ha ?hb ?hc ?hd ?he ?hf
               case ha => exact scLaw.nd
               case hb => exact rfl
               case hc => exact (Or.inl rfl)
               case he => exact rfl
               case hf => exact (.inr rfl)
               case hd =>
                refine' Z06 GW hr1 (by rfl) Y.W.m Y.W.F.kp Y.W.b .nil Z0n ?aa
                case aa =>
                 refine' Z0i (pv 2) ?a1
                 case a1 =>
                  refine' Z1h Z04 ?a2
                  case a2 =>
                   refine' Z0d ?d1 ?a3
                   case d1 => exact Z15 Z1a (Z18 (Z1h Z04 (Z1h Z04 Z00))) (Z06 GD hr1 (by rfl) Y.U.mD Y.U.D.kp Y.U.bD .nil Z0n (Z0i (pv 1) (Z1h Z04 Z00))) (fun _ _ => rfl)
                   case a3 =>
                    refine' Z0d ?d2 Z00
                    case d2 => exact Z15 Z1a (Z18 (Z1h Z04 (Z1h Z04 Z00))) (Z06 GD hr1 (by rfl) Y.U.mD Y.U.D.kp Y.U.bD .nil Z0n (Z0i (pv 1) (Z1h Z04 Z00))) (fun _ _ => rfl)
              case p1 =>
               refine' Z05 ?c2 (Z07 ?c3)
               case c2 => exact Z45 hu (pv 5) Z0a (Z19 Z4o (by rfl) Y.lst (by decide +kernel) (Z0i (pv 7) Z00)) rfl
               case c3 => exact Z2o (Z7s PySem.F.plainAttrs_list PySem.F.slot_list_append PySem.F.type_list_append Z2b (pv 7) (Z4c (Z06 GX hr70 (by rfl) Y.X.m Y.X.F.kp Y.X.b .nil Z0n (Z0i (pv 1) (Z0i (pv 5) (Z1h Z04 (Z1h Z04 Z00))))) Z00))
            case q6 =>
             refine' Z0r ?b7 ?q7
             case b7 => exact Z0j (i := 9) scLaw.nd rfl (Or.inl rfl) (Z06 GFi hr10 (by rfl) Y.Fi.m Y.Fi.F.kp Y.Fi.b .nil Z0n (Z0i (pv 6) (Z0i (pv 7) Z00)))
             case q7 =>
              refine' Z0r ?b8 ?q8
              case b8 =>
               refine' Z10 ?c (Z07 (Z0m Z5q)) Z0k
               case c => exact Z2n (Z1f (Z06 GSa hr71 (by rfl) Y.Sa.m Y.Sa.F.kp Y.Sa.b .nil Z0n (Z4c (Z06 GFd hr6 (by rfl) Y.Fd.m Y.Fd.F.kp Y.Fd.b .nil X0.pass_none0 (Z0i (pv 6) (Z4c (Z19 Z0v (by rfl) Y.T.tup (by decide +kernel) (Z0i (pv 7) Z00)) Z00))) (Z0i (pv 9) Z00))))
              case q8 =>
               refine' Z0r ?b9 ?q9
               case b9 => exact Z0j (i := 10) scLaw.nd rfl (Or.inl rfl) (Z0p Z8y (Z19 Z0v (by rfl) Y.T.tup (by decide +kernel) (Z0i (pv 7) Z00)) (Z0z (Zbr (Z0z (Z1h Z0a (Z1h Z04 Z00))) Z00)))
               case q9 =>
                refine' Z0r ?b10 ?q10
                case b10 =>
                 refine' Z10 (Z6l ?c1 (Z5y ?c2)).pt (Z07 (Z0m Z5q)) Z0k
                 case c1 => exact Z2n (Z1f (Z06 GRe hr7 (by rfl) Y.Re.m Y.Re.F.kp Y.Re.b .nil Z0n (Z0i (pv 6) (Z0i (pv 10) Z00))))
                 case c2 => exact Z2n (Z1f (Z06 GRe hr7 (by rfl) Y.Re.m Y.Re.F.kp Y.Re.b .nil Z0n (Z0i (pv 6) (Z0d (Z0p Z8y (pv 10) (Z0z (Zbr (Z0z (Z1h Z0a Z00)) Z00))) Z00))))
                case q10 =>
                 refine' Z0r ?b11 ?q11
                 case b11 =>
                  refine' Z10 (Z3h ?c1 (Z2f ?c2)).pt (Z07 (Z0m Z5q)) Z0k
                  case c1 => exact Z0f (Z5m hu0) (pv 4) (Z18 Z00) (Z0o _)
                  case c2 => exact Z2n (Z1f (Z06 GRe hr7 (by rfl) Y.Re.m Y.Re.F.kp Y.Re.b .nil Z0n (Z0i (pv 6) (Z0d (Z22 Zcp (pv 10) (Z2g Z04) Z2p) Z00))))
                 case q11 =>
                  refine' Z0r ?b12 ?q12
                  case b12 =>
                   refine' Z10 (Z3h ?c1 (Z2f ?c2)).pt (Z07 (Z0m Z5q)) Z0k
                   case c1 => exact Z0f (Z5m hu0) (pv 4) (Z18 Z00) (Z0o _)
                   case c2 => exact Z2n (Z1f (Z06 GRe hr7 (by rfl) Y.Re.m Y.Re.F.kp Y.Re.b .nil Z0n (Z0i (pv 6) (Z4c (Z19 Z0v (by rfl) Y.T.tup (by decide +kernel) (Z0d (Z22 Z8u (pv 7) Z2p (Z2g (Zgz Zc1 Z04))) Z00)) Z00))))
                  case q12 =>
                   refine' Z0r ?b13 (Z07 ?b14)
                   case b13 =>
                    refine' Z10 (Z3h ?c1 (Z2f ?c2)).pt (Z07 (Z0m Z5q)) Z0k
                    case c1 => exact Z0f Zc5 (Z0b Z0l (by rfl) Y.U.T.len PySem.boot_len (Z0i (pv 4) Z00)) Z04 (Z0o _)
                    case c2 => exact Z2n (Z1f (Z06 GRe hr7 (by rfl) Y.Re.m Y.Re.F.kp Y.Re.b .nil Z0n (Z0i (pv 6) (Zbr (Z0z Z00) Z00))))
                   case b14 =>
                    refine' Z10 ?c (Z07 (Z0m Z5q)) Z0k
                    case c => exact Z2n (Z1f (Z06 GSa hr71 (by rfl) Y.Sa.m Y.Sa.F.kp Y.Sa.b .nil Z0n (Z4c (Z06 GFd hr6 (by rfl) Y.Fd.m Y.Fd.F.kp Y.Fd.b .nil X0.pass_none0 (Z0i (pv 6) (Z4c (Z19 Z0v (by rfl) Y.T.tup (by decide +kernel) (Z0i (pv 7) Z00)) Z00))) (Z0i (pv 9) Z00))))
     case s4 =>
      refine' Z0m (Z06 GSa hr71 (by rfl) Y.Sa.m Y.Sa.F.kp Y.Sa.b .nil Z0n (Z4c (Z06 GFd hr6 (by rfl) Y.Fd.m Y.Fd.F.kp Y.Fd.b .nil X0.pass_none0 ?q1) (Zbr ?q2 Z00)))
      case q1 => exact Zbr (Z0z (Z1h Z0a (Z1h Z04 Z00))) (Zbr (Z0z (Zbr (Z0z (Z1h Z0a (Z1h Z04 Z00))) Z00)) Z00)
      case q2 => exact Z0z (Z1h Z0a (Z1h Z04 Z00))
  case fin =>
   refine ⟨_, rfl, a, ns, rfl, hS, hlen, fun d l H1 F1 hd1 s1 => ?_⟩
   refine ⟨_, rfl, d, l, ns, 0, 4, rfl, F1, Nat.zero_le _, by decide, by decide, fun nm T n1 H2 hnm L2 hT hTn hn1 F2 b2 => ?_⟩
   have N2 : Nms H2 nm T := ⟨L2, by omega, by omega, hTn⟩
   have hn1 : n1 <= 32 := hn1
   refine ⟨5, rfl, by decide, by decide, Z3j (lo := 0) (n := 5) (fun i σ H' => ∃ (n' : Nat) (o3 o4 o5 o6 o7 o8 o9 o10 : Option V), σ = [some (.ref a), some (.ref d), some (.ref nm), o3, o4, o5, o6, o7, o8, o9, o10] /\ n' <= 32 + i * 10000000 /\ Feed H' d l ns n' /\ Nms H' nm T)
    ⟨n1, none, none, none, none, none, none, none, none, rfl, Nat.le_trans hn1 (Nat.le_add_right _ _), F2, N2⟩ ?_ ?_⟩
   ·rintro i σ H3 hi ⟨n3, o3, o4, o5, o6, o7, o8, o9, o10, rfl, hn3, F3, N3⟩
    have hb3 : n3 <= 60000024 := by omega
    refine ⟨Nat.zero_le _, fun sa hsa => ?_⟩
    have sS := Z02 (o := .lst []) hsa
    have hsn : sa ≠ nm := (Z0h N3.a hsa).symm
    have hsl : sa ≠ l := (Z0h F3.ls hsa).symm
    refine ⟨_, rfl, (by show 6 <= sizeLine; decide), fun q hq => ?_⟩
    have sQ := Z02 (o := .lst Z8o) hq
    have F4 := (F3.same sS).same sQ
    refine ⟨_, rfl, d, l, ns, n3, _, rfl, F4, Nat.le_trans hb3 (by decide), by decide, by decide, fun i5 n5 H5 i50 i51 hn5 F5 b5 => ?_⟩
    obtain ⟨x, hx, hat⟩ := Z3c (xs := Z8o) (i := i5) i50 i51
    have hz : ∃ z : Int, x = .int z /\ 0 <= z /\ z <= 12 := by
     unfold Z8o at hx
     simp only [List.mem_cons, List.not_mem_nil, or_false] at hx
     rcases hx with rfl | rfl | rfl | rfl | rfl | rfl <;> exact ⟨_, rfl, by decide, by decide⟩
    obtain ⟨z, rfl, z0, z1⟩ := hz
    have k5 := b5.kp F4
    refine ⟨q, Z8o, i5, .int z, rfl, rfl, SqL.of (F4.lst b5 Z01), hat, nm, 22, z, 0, rfl, fun wd bg H6 s6 hwd hbg W6 B6 => ?_⟩
    have kA : Kp (upd H3 sa (.lst [])) H6 := ((Kp.of sQ).trans k5).trans (Kp.of s6)
    have S6 : H6 sa = some (.lst (iv [])) := kA _ _ Z01 (by intro kvs w; cases w)
    have N6 : Nms H6 nm T := (N3.kp (Kp.of sS)).kp kA
    have F6 := F5.same s6
    clear F4 F5 b5 k5 kA s6 hq sQ hat hx
    refine ⟨fun σ' H' => ∃ (S : List Nat) (v : V) (p : Th) (n' : Nat), σ' = [some (.ref a), some (.ref d), some (.ref nm), some (.int (0 + i)), some (.ref sa), some (.ref wd), some v, o7, o8, o9, o10] /\ LP 7 H' nm sa T S v p /\ n' <= n3 + 300100 /\ Feed H' d l ns n', ?_, ?_⟩
    ·refine ⟨_, rfl, _, rfl, Zam 0 6 F6 W6 N6 ⟨⟨[], B6, .nil⟩, by decide, fun t ht => (by cases ht)⟩ (nb hn5 hb3) z1 (by decide) (by decide) (by decide) (by decide) (by decide) (by decide) rfl fun v t n7 H7 hv pf hc hh hn7 F7 k7 => ?_⟩
     have S7 := k7 _ _ S6 (by intro kvs w; cases w)
     refine ⟨_, rfl, v, sa, t, [], rfl, hv, pf, S7, List.nodup_nil, fun i hi => (by cases hi), fun i hi => Nat.lt_trans (hh rfl i hi) (by decide), fun v' R H8 b8 L8 nd8 h1 h2 is8 => ?_⟩
     rw [List.nil_append] at L8 nd8 h1 is8
     have hR : R.length <= 12 := few nd8 fun i hi => hh rfl i (h2 i hi)
     have hl : (iv R).length = R.length := List.length_map ..
     have N7 := N6.kp k7
     refine ⟨R, v', fl (ix R) t, n7, rfl, ⟨⟨b8 _ _ N7.a hsn.symm, N7.l1, N7.l2, N7.nm⟩, L8, hl ▸ hR, is8, Zfl 6 pf fun i _ => Zi2 R i, ?_, fun j => ?_⟩, nt hn7 hn5, F7.butl S7 hsl b8⟩
     ·rw [Zgs (fun i => (Zi2 R i).isTup) 6 pf fun i _ => ?_]
      ·exact c57 hc
      ·exact Zef _
     ·rw [hl]
      exact Z9c pf nd8 h1 h2 j
    clear F6 N6 S6 W6 B6
    rintro σ8 H8 ⟨S, v8, p8, n8, rfl, P8, hn8, F8⟩
    refine ⟨fun σ' H' => ∃ (v : V) (p : Th) (n' : Nat), σ' = [some (.ref a), some (.ref d), some (.ref nm), some (.int (0 + i)), some (.ref sa), some (.ref wd), some v, o7, o8, o9, o10] /\ LP 8 H' nm sa T S v p /\ n' <= n3 + 300101 /\ Feed H' d l ns n', ?_, ?_⟩
    ·refine ⟨_, rfl, d, l, ns, n8, _, rfl, F8, nb hn8 hb3, by decide, by decide, fun i9 n9 H9 i90 i91 hn9 F9 b9 => ?_⟩
     have P9 := P8.kp (b9.kp F8)
     refine ⟨rfl, _, rfl, Z1r (fun g => ?_) (fun g => ⟨v8, p8, n9, rfl, P9.le (by decide), nt hn9 hn8, F9⟩)⟩
     refine ⟨_, rfl, _, rfl, sa, iv S, rfl, .inl (SqL.of P9.s), v8, (iv S).length, p8, rfl, P9.is, P9.pf, fun i hi => (P9.hh i).mp hi, fun v' H10 s10 is10 => ?_⟩
     have P10 := P9.kp (Kp.of s10)
     refine ⟨v', _, n9, rfl, ⟨P10.N, P10.s, P10.few, is10, Zfl 7 P10.pf fun i _ => Z8e _, ?_, fun j => Z8i P10.pf P10.hh j⟩, nt hn9 hn8, F9.same s10⟩
     rw [Zgs (fun i => (Z8e _).isTup) 7 P10.pf fun i _ => ?_]
     ·exact P10.c
     ·exact Zef _
    clear P8 F8
    rintro σ9 H9 ⟨v, p, n9, rfl, P9, hn9, F9⟩
    refine ⟨Nat.zero_le _, fun fa hfa => ?_⟩
    have sF := Z02 (o := .lst []) hfa
    have hfn : fa ≠ nm := (Z0h P9.N.a hfa).symm
    have hfs : fa ≠ sa := (Z0h P9.s hfa).symm
    have hfl : fa ≠ l := (Z0h F9.ls hfa).symm
    have P10 := P9.kp (Kp.of sF)
    have F10 := F9.same sF
    have hfew := P9.few
    have h64 : (iv S).length < 64 := Nat.lt_of_le_of_lt hfew (by decide)
    have L10 : LF (upd H9 fa (.lst [])) fa (5 * 0) 0 [] := ⟨⟨[], Z01, .nil⟩, rfl, fun t ht => (by cases ht)⟩
    generalize upd H9 fa (.lst []) = H10 at P10 F10 L10 ⊢
    clear P9 F9 sF hfa
    refine ⟨fun σ' H' => ∃ (ts : List Th) (n' : Nat) (o5 o8 : Option V), σ' = [some (.ref a), some (.ref d), some (.ref nm), some (.int (0 + i)), some (.ref sa), o5, some v, some (.ref fa), o8, o9, o10] /\ LP 8 H' nm sa T S v p /\ LF H' fa 60 (iv S).length ts /\ n' <= n3 + 4000000 /\ Feed H' d l ns n', ?_, ?_⟩
    ·refine ⟨_, rfl, sa, iv S, rfl, .inl (SqL.of P10.s), _, rfl, by omega, by omega, Z3j (lo := 0) (n := (iv S).length) (fun j σ H' => ∃ (ts : List Th) (n' : Nat) (o5 o8 : Option V), σ = [some (.ref a), some (.ref d), some (.ref nm), some (.int (0 + i)), some (.ref sa), o5, some v, some (.ref fa), o8, o9, o10] /\ LP 8 H' nm sa T S v p /\ LF H' fa (5 * j) j ts /\ n' <= n3 + 300101 + j * 300002 /\ Feed H' d l ns n')
      ⟨[], n9, _, _, rfl, P10, L10, by omega, F10⟩ ?_ ?_⟩
     ·rintro j σ H11 hj ⟨ts, n11, o5, o8, rfl, P11, L11, hn11, F11⟩
      have hj5 : j <= 11 := by omega
      have hm11 : n11 <= n3 + 3700000 := by omega
      refine ⟨_, rfl, (by show 2 <= sizeLine; decide), fun q1 hq1 => ?_⟩
      have s1 := Z02 (o := .lst [.int 0, .int 3]) hq1
      have F12 := F11.same s1
      refine ⟨_, rfl, d, l, ns, n11, _, rfl, F12, nb hm11 hb3, by decide, by decide, fun i12 n12 H12 i120 i121 hn12 F13 b13 => ?_⟩
      have k13 := b13.kp F12
      obtain ⟨x, hx, hat⟩ := Z3c (xs := ([.int 0, .int 3] : List V)) (i := i12) i120 i121
      have hz : ∃ z : Int, x = .int z /\ z <= 12 := by
       simp only [List.mem_cons, List.not_mem_nil, or_false] at hx
       rcases hx with rfl | rfl <;> exact ⟨_, rfl, by decide⟩
      obtain ⟨z, rfl, z1⟩ := hz
      refine ⟨q1, _, i12, .int z, rfl, rfl, SqL.of (F12.lst b13 Z01), hat, (by show 2 <= sizeLine; decide), fun q2 hq2 => ?_⟩
      have s2 := Z02 (o := .lst [.int 0, .int 2]) hq2
      have F14 := F13.same s2
      refine ⟨_, rfl, d, l, ns, n12, _, rfl, F14, nb (nt hn12 hm11 : n12 <= n3 + 3700001) hb3, by decide, by decide, fun i14 n14 H14 i140 i141 hn14 F15 b15 => ?_⟩
      have k15 := b15.kp F14
      obtain ⟨y, hy, hay⟩ := Z3c (xs := ([.int 0, .int 2] : List V)) (i := i14) i140 i141
      have hw : ∃ z : Int, y = .int z /\ 0 <= z /\ z <= 2 := by
       simp only [List.mem_cons, List.not_mem_nil, or_false] at hy
       rcases hy with rfl | rfl <;> exact ⟨_, rfl, by decide, by decide⟩
      obtain ⟨y, rfl, y0, y1⟩ := hw
      refine ⟨q2, _, i14, .int y, rfl, rfl, SqL.of (F14.lst b15 Z01), hay, nm, 10, z, y, rfl, fun w2 bg2 H16 s16 hw2 hbg2 W16 B16 => ?_⟩
      have kA : Kp H11 H16 := ((((Kp.of s1).trans k13).trans (Kp.of s2)).trans k15).trans (Kp.of s16)
      have P16 := P11.kp kA
      have L16 := L11.kp kA
      have F16 := F15.same s16
      clear F12 F13 F14 F15 b13 b15 k13 k15 s1 s2 s16 kA hat hay hx hy hq1 hq2 P11 L11 F11
      obtain ⟨⟨ws, la, lb⟩, ln, lo⟩ := L16
      refine ⟨_, rfl, fa, ws, rfl, .inl (SqL.of la), fun bq hbq => ?_⟩
      have s17 := Z02 (o := .lst ws) hbq
      have W17 := s17 _ _ W16
      refine ⟨_, rfl, w2, _, rfl, Zfo W17, ?_⟩
      have k18 := Zjm (kvs' := Z0q nm 10 z y bq) W17
      have kB := (Kp.of s17).trans k18
      have P18 := P16.kp kB
      have la18 := kB _ _ la (by intro kvs w; cases w)
      have lb18 := IsThs.kp kB lb
      have F17 := F16.same s17
      have F18 : Feed (upd (upd H16 bq (.lst ws)) w2 (.dK (Z0q nm 10 z y bq))) d l ns n14 := by
       have hne := Z4w F17 W17
       obtain ⟨⟨z, hd⟩, hl, hs⟩ := F17
       exact ⟨⟨z, by rw [Z0c hne.symm]; exact hd⟩, k18 _ _ hl (by intro kvs w; cases w), hs⟩
      have G18 : Bag (upd (upd H16 bq (.lst ws)) w2 (.dK (Z0q nm 10 z y bq))) bq (5 * j) ts := ⟨⟨ws, k18 _ _ Z01 (by intro kvs w; cases w), lb18⟩, ln ▸ Nat.le_trans hj5 (by decide), fun t ht => ⟨(lo t ht).1, Nat.le_trans (lo t ht).2 (by decide)⟩⟩
      refine ⟨_, rfl, .inl ⟨rfl, _, SqL.of la18⟩, _, rfl, _, rfl, Zam (5 * j) 5 F18 Z01 P18.N G18 (nb (nt hn14 (nt hn12 hm11 : n12 <= n3 + 3700001) : n14 <= n3 + 3700002) hb3) z1 y0 y1 (by omega) (by decide) (by decide) (by decide) rfl fun v19 t19 n19 H19 hv pf hc _ hn19 F19 k19 => ?_⟩
      have la19 := k19 _ _ la18 (by intro kvs w; cases w)
      have lb19 := IsThs.kp k19 lb18
      have hwl := IsThs.len _ lb19
      have bu : But fa H19 (upd H19 fa (.lst (ws ++ [v19]))) := Zim
      refine ⟨fa, ws, v19, rfl, rfl, la19, by omega, ?_⟩
      refine ⟨ts ++ [t19], n19, _, _, rfl, (P18.kp k19).butl la19 hfn hfs bu, ⟨⟨ws ++ [v19], Z01, IsThs.app _ (Z75 la19 bu lb19 (Z2j fun x hx => PfT.pl _ (lo x hx).1)) (.cons (Z8f la19 bu hv (PfT.pl _ pf)) .nil)⟩, by rw [List.length_append, ln]; rfl, fun t ht => ?_⟩, by omega, F19.butl la19 hfl bu⟩
      rcases List.mem_append.mp ht with q | q
      ·exact ⟨(lo t q).1.le (Nat.mul_le_mul_left 5 (Nat.le_succ j)), (lo t q).2⟩
      ·rw [List.mem_singleton.mp q]
       exact ⟨pf.le (by omega), c39 hc⟩
     ·rintro σ H11 ⟨ts, n11, o5, o8, rfl, P11, L11, hn11, F11⟩
      exact ⟨ts, n11, o5, o8, rfl, P11, ⟨L11.l, L11.n, fun t ht => ⟨(L11.ok t ht).1.le (Nat.mul_le_mul_left 5 hfew), (L11.ok t ht).2⟩⟩, by omega, F11⟩
    clear P10 F10 L10
    rintro σ11 H11 ⟨ts0, n11, o5, o8, rfl, P11, L11, hn11, F11⟩
    have hm12 := P11.few
    have pfF : PfT 68 (fl (sg ts0) p) := Zfl 8 P11.pf fun i hi => Zjx (m := 0) (fun t ht => (L11.ok t ht).1) (by rw [L11.n]; exact (P11.hh i).mp hi)
    have hpl := pfF.pl 68
    have hdp := PfT.dp 68 pfF
    have hszp : Th.sz p <= 30000 := by have := Zgr _ P11.pf; have := P11.c; omega
    have hszF : Th.sz (fl (sg ts0) p) <= 1000000 := by
     have h1 := Zl7 (σ := sg ts0) (M := 117) 8 P11.pf fun i hi => (by
      have h2 := Zl8 L11.ok (i := i) (by rw [L11.n]; exact (P11.hh i).mp hi)
      have h3 := Zgr _ h2.1
      have h4 := h2.2
      omega)
     have h2 : cnt p * 117 <= 57 * 117 := Nat.mul_le_mul_right _ P11.c
     omega
    refine ⟨fun σ' H' => ∃ (vf : V), σ' = [some (.ref a), some (.ref d), some (.ref nm), some (.int (0 + i)), some (.ref sa), o5, some v, some (.ref fa), o8, some vf, o10] /\ LP 8 H' nm sa T S v p /\ LF H' fa 60 (iv S).length ts0 /\ IsTh H' vf (fl (sg ts0) p) /\ Feed H' d l ns n11, ?_, ?_⟩
    ·obtain ⟨ws, la, lb⟩ := L11.l
     refine ⟨_, rfl, _, rfl, v, fa, p, ws, ts0, rfl, P11.is, P11.pf, .inr la, lb, fun i hi => by rw [L11.n]; exact (P11.hh i).mp hi, fun v' H14 s14 is14 => ⟨v', rfl, P11.kp (Kp.of s14), L11.kp (Kp.of s14), is14, F11.same s14⟩⟩
    clear P11 L11 F11
    rintro σ14 H14 ⟨vf, rfl, P14, L14, I14, F14⟩
    refine ⟨fun σ' H' => σ' = [some (.ref a), some (.ref d), some (.ref nm), some (.int (0 + i)), some (.ref sa), o5, some v, some (.ref fa), o8, some vf, o10] /\ LP 8 H' nm sa T S v p /\ LF H' fa 60 (iv S).length ts0 /\ IsTh H' vf (fl (sg ts0) p) /\ Feed H' d l ns n11, ?_, ?_⟩
    ·obtain ⟨ws, la, lb⟩ := L14.l
     have hwl := IsThs.len _ lb
     refine ⟨_, rfl, _, rfl, fa, ws, rfl, .inl ⟨SqL.of la, fun tp htp => ?_⟩⟩
     have st := Z02 (o := .tup ws) htp
     refine ⟨v, tp, p, (iv S).length, ws, ts0, rfl, IsTh.kp (Kp.of st) P14.is, P14.pf.le (by decide), hszp, P14.hh, h64, Z01, (fun e => ⟨IsThs.kp (Kp.of st) lb, fun u hu => (L14.ok u hu).1, fun v' H15 s15 is15 => ?_⟩), fun ne => absurd (by rw [hwl, L14.n]) ne⟩
     refine ⟨_, rfl, v', vf, _, rfl, is15, IsTh.kp (Kp.of (st.trans s15)) I14, hpl, by omega, hszF, fun H16 s16 => ⟨_, rfl, Z46 ?_⟩⟩
     have sA := (st.trans s15).trans s16
     exact ⟨rfl, P14.kp (Kp.of sA), L14.kp (Kp.of sA), IsTh.kp (Kp.of sA) I14, F14.same sA⟩
    clear P14 L14 I14 F14
    rintro σ15 H15 ⟨rfl, P15, L15, I15, F15⟩
    let σM : Addr -> St := fun mo => [some (.ref a), some (.ref d), some (.ref nm), some (.int (0 + i)), some (.ref sa), o5, some v, some (.ref fa), o8, some vf, some (.ref mo)]
    refine ⟨fun σ' H' => ∃ (mo : Addr) (mws : List V), σ' = σM mo /\ H' mo = some (.tup mws) /\ mws.length = (iv S).length + 1 /\ LP 8 H' nm sa T S v p /\ LF H' fa 60 (iv S).length ts0 /\ IsTh H' vf (fl (sg ts0) p) /\ Feed H' d l ns n11, ?_, ?_⟩
    ·obtain ⟨ws, la, lb⟩ := L15.l
     have hwl := IsThs.len _ lb
     have hln := L15.n
     refine ⟨_, rfl, fa, ws, rfl, .inl ⟨SqL.of la, fun tp htp => ?_⟩⟩
     have st := Z02 (o := .tup ws) htp
     refine ⟨(by show 2 <= sizeLine; decide), fun c1 hc1 => ?_⟩
     have s1 := Z02 (o := .tup [.str "hole", .int 0]) hc1
     refine ⟨(by show 1 <= sizeLine; decide), fun c2 hc2 => ?_⟩
     have s2 := Z02 (o := .tup [.ref c1]) hc2
     refine ⟨tp, c2, ws, [.ref c1], rfl, rfl, s2 _ _ (s1 _ _ Z01), Z01, by show ws.length + 1 <= sizeLine; omega, fun mo H16 s16 hmo => ?_⟩
     have sA := ((st.trans s1).trans s2).trans s16
     exact ⟨mo, _, rfl, hmo, by rw [List.length_append, hwl, hln]; rfl, P15.kp (Kp.of sA), L15.kp (Kp.of sA), IsTh.kp (Kp.of sA) I15, F15.same sA⟩
    clear P15 L15 I15 F15
    rintro σ16 H16 ⟨mo, mws, rfl, hmo, hml, P16, L16, I16, F16⟩
    refine ⟨fun σ' H' => σ' = σM mo /\ Same H16 H', ?_, ?_⟩
    ·refine ⟨_, rfl, _, rfl, v, mo, p, (iv S).length, mws, rfl, P16.is, P16.pf.le (by decide), hszp, P16.hh, h64, hmo, by omega, fun H17 s17 => ⟨_, rfl, Z46 ?_⟩⟩
     refine ⟨_, rfl, _, rfl, (by show 1 <= sizeLine; decide), fun c1 hc1 => ?_⟩
     have s1 := Z02 (o := .tup [.str "take"]) hc1
     refine ⟨(by show 1 <= sizeLine; decide), fun c2 hc2 => ?_⟩
     have s2 := Z02 (o := .tup [.ref c1]) hc2
     refine ⟨mo, c2, mws, [.ref c1], rfl, rfl, s2 _ _ (s1 _ _ (s17 _ _ hmo)), Z01, by show mws.length + 1 <= sizeLine; omega, fun m2 H18 s18 hm2 => ?_⟩
     have sA := ((s17.trans s1).trans s2).trans s18
     exact ⟨v, m2, p, (iv S).length, _, rfl, IsTh.kp (Kp.of sA) P16.is, P16.pf.le (by decide), hszp, P16.hh, h64, hm2, by rw [List.length_append, hml]; show (iv S).length + 1 + 1 ≠ _; omega, fun H19 s19 => ⟨_, rfl, Z46 ⟨rfl, sA.trans s19⟩⟩⟩
    rintro σ17 H17 ⟨rfl, s17⟩
    have h17 := s17 _ _ hmo
    have P17 := P16.kp (Kp.of s17)
    have L17 := L16.kp (Kp.of s17)
    have I17 := IsTh.kp (Kp.of s17) I16
    have F17 := F16.same s17
    clear P16 L16 I16 F16 hmo s17
    have hsl : (iv S).isEmpty = true ∨ 0 < (iv S).length := by
     cases iv S with
     | nil => exact .inl rfl
     | cons x xs => exact .inr (Nat.succ_pos _)
    refine ⟨fun σ' H' => σ' = σM mo /\ Same H17 H', ?_, ?_⟩
    ·refine ⟨_, rfl, Nat.zero_le _, fun e he => ⟨sa, e, iv S, rfl, rfl, SqL.of (Z02 he _ _ P17.s), SqL.of Z01, _, rfl, Z1r (fun g => ?_) (fun g => ?_)⟩⟩
     ·have sE := Z02 (o := .lst []) he
      have h0 : 0 < (iv S).length := hsl.resolve_left fun z => by rw [z] at g; cases g
      refine ⟨_, rfl, _, rfl, _, rfl, mo, mws, rfl, sE _ _ h17, fun p' H18 s18 hp' => ?_⟩
      have sA := sE.trans s18
      refine ⟨v, p', p, (iv S).length, _, rfl, IsTh.kp (Kp.of sA) P17.is, P17.pf.le (by decide), hszp, P17.hh, h64, hp', ?_, fun H19 s19 => ⟨_, rfl, Z46 ⟨rfl, sA.trans s19⟩⟩⟩
      rw [Z6h (by decide) (by show 2 <= _; omega), List.length_drop, hml]
      show (iv S).length + 1 - 2 ≠ _
      omega
     ·exact Z46 ⟨rfl, Z02 he⟩
    rintro σ18 H18 ⟨rfl, s18⟩
    have P18 := P17.kp (Kp.of s18)
    have L18 := L17.kp (Kp.of s18)
    have I18 := IsTh.kp (Kp.of s18) I17
    have F18 := F17.same s18
    clear P17 L17 I17 F17 h17 s18
    refine ⟨fun σ' H' => σ' = σM mo /\ Same H18 H', ?_, ?_⟩
    ·refine ⟨_, rfl, Nat.zero_le _, fun e he => ⟨sa, e, iv S, rfl, rfl, SqL.of (Z02 he _ _ P18.s), SqL.of Z01, _, rfl, Z1r (fun g => ?_) (fun g => ?_)⟩⟩
     ·have sE := Z02 (o := .lst []) he
      have h0 : 0 < (iv S).length := hsl.resolve_left fun z => by rw [z] at g; cases g
      obtain ⟨ws, la, lb⟩ := L18.l
      have hwl := IsThs.len _ lb
      have hln := L18.n
      refine ⟨_, rfl, _, rfl, _, rfl, (-1 : Int), rfl, fa, ws, rfl, SqL.of (sE _ _ la), fun q hq => ?_⟩
      have sq := Z02 (o := .lst (Z5r ws none (some (-1)))) hq
      refine ⟨q, _, rfl, .inl ⟨SqL.of Z01, fun tp htp => ?_⟩⟩
      have st := Z02 (o := .tup (Z5r ws none (some (-1)))) htp
      have sA := (sE.trans sq).trans st
      refine ⟨v, tp, p, (iv S).length, _, rfl, IsTh.kp (Kp.of sA) P18.is, P18.pf.le (by decide), hszp, P18.hh, h64, Z01, ?_, fun H19 s19 => ⟨_, rfl, Z46 ⟨rfl, sA.trans s19⟩⟩⟩
      have e : HT.sIx ws.length ws.length (some (-1)) = ws.length - 1 := by
       show (if (-1 : Int) < 0 then ((-1 : Int) + (ws.length : Int)).toNat else min (-1 : Int).toNat ws.length) = _
       rw [if_pos (by decide)]
       omega
      show (Z5r ws none (some (-1))).length ≠ _
      unfold Z5r
      rw [e, List.length_take, List.length_drop]
      omega
     ·exact Z46 ⟨rfl, Z02 he⟩
    rintro σ19 H19 ⟨rfl, s19⟩
    have P19 := P18.kp (Kp.of s19)
    have L19 := L18.kp (Kp.of s19)
    have I19 := IsTh.kp (Kp.of s19) I18
    have F19 := F18.same s19
    clear P18 L18 I18 F18 s19
    refine ⟨fun σ' H' => σ' = σM mo /\ Same H19 H', ?_, ?_⟩
    ·refine ⟨_, rfl, sa, iv S, rfl, .inl (SqL.of P19.s), _, _, rfl, rfl, _, rfl, Z1r (fun g => ?_) (fun g => ?_)⟩
     ·have h0 : 1 < (iv S).length := by
       have h := of_decide_eq_true g
       omega
      refine ⟨_, rfl, Nat.zero_le _, fun e he => ?_⟩
      have sE := Z02 (o := .tup []) he
      exact ⟨v, e, p, (iv S).length, [], rfl, IsTh.kp (Kp.of sE) P19.is, P19.pf.le (by decide), hszp, P19.hh, h64, Z01, (by show 0 ≠ _; omega), fun H20 s20 => ⟨_, rfl, Z46 ⟨rfl, sE.trans s20⟩⟩⟩
     ·exact Z46 ⟨rfl, Same.refl _⟩
    rintro σ20 H20 ⟨rfl, s20⟩
    have P20 := P19.kp (Kp.of s20)
    have L20 := L19.kp (Kp.of s20)
    have I20 := IsTh.kp (Kp.of s20) I19
    have F20 := F19.same s20
    clear P19 L19 I19 F19 s20
    obtain ⟨ws, la, lb⟩ := L20.l
    have hwl := IsThs.len _ lb
    refine ⟨_, rfl, _, rfl, fa, ws, rfl, .inl ⟨SqL.of la, fun tp htp => ?_⟩⟩
    have st := Z02 (o := .tup ws) htp
    refine ⟨v, tp, p, (iv S).length, ws, ts0, rfl, IsTh.kp (Kp.of st) P20.is, P20.pf.le (by decide), hszp, P20.hh, h64, Z01, (fun e => ⟨IsThs.kp (Kp.of st) lb, fun u hu => (L20.ok u hu).1, fun v' H21 s21 is21 => ?_⟩), fun ne => absurd (by rw [hwl, L20.n]) ne⟩
    refine ⟨_, rfl, v', vf, _, rfl, is21, IsTh.kp (Kp.of (st.trans s21)) I20, hpl, by omega, hszF, fun H22 s22 => ⟨_, rfl, Z46 ?_⟩⟩
    have sA := (st.trans s21).trans s22
    exact ⟨n11, _, _, _, _, _, _, _, _, rfl, by omega, F20.same sA, P20.N.kp (Kp.of sA)⟩
   ·rintro σ H3 ⟨n3, o3, o4, o5, o6, o7, o8, o9, o10, rfl, hn3, F3, N3⟩
    refine ⟨(by show 2 <= sizeLine; decide), fun p1 h1 => ?_⟩
    have s1 := Z02 (o := .tup [.str "hole", .int 0]) h1
    refine ⟨(by show 2 <= sizeLine; decide), fun p2 h2 => ?_⟩
    have s2 := Z02 (o := .tup [.str "own", .int 7]) h2
    refine ⟨(by show 1 <= sizeLine; decide), fun p3 h3 => ?_⟩
    have s3 := Z02 (o := .tup [.ref p2]) h3
    refine ⟨.ref p1, p3, hol 0, 1, [.ref p2], [own 7], rfl, Zac (i := 0) ((s2.trans s3) _ _ Z01), (Z8e 0).le (by decide), by decide +kernel, Zin, by decide, Z01, (fun e => ⟨.cons (Zgw (i := 7) (s3 _ _ Z01)) .nil, fun u hu => ?_, fun v' H4 s4 is4 => ?_⟩), fun ne => absurd rfl ne⟩
    ·rw [List.mem_singleton] at hu
     rw [hu]
     exact (Zk2 7).le (by decide)
    rw [Zio] at is4
    refine ⟨(by show 2 <= sizeLine; decide), fun p4 h4 => ?_⟩
    have s5 := Z02 (o := .tup [.str "own", .int 7]) h4
    exact ⟨v', .ref p4, own 7, rfl, IsTh.kp (Kp.of s5) is4, Zgw (i := 7) Z01, by decide +kernel, by decide +kernel, by decide +kernel, fun H6 s6 => k H6⟩
end
theorem Zip {P : List Value -> Prop} (h : P []) : ∀ us : List Value, us.length = 0 -> P us := fun us e => by
 cases us with
 | nil => exact h
 | cons a r => cases e
theorem Z1v {P : List Value -> Prop} (h : ∀ a, P [a]) : ∀ us : List Value, us.length = 1 -> P us := fun us e => by
 cases us with
 | nil => cases e
 | cons a r => exact Zip (P := fun r => P (a :: r)) (h a) r (Nat.succ.inj e)
theorem Z1p {P : List Value -> Prop} (h : ∀ a b, P [a, b]) : ∀ us : List Value, us.length = 2 -> P us := fun us e => by
 cases us with
 | nil => cases e
 | cons a r => exact Z1v (P := fun r => P (a :: r)) (h a) r (Nat.succ.inj e)
theorem Zeg {P : List Value -> Prop} (h : ∀ a b c, P [a, b, c]) : ∀ us : List Value, us.length = 3 -> P us := fun us e => by
 cases us with
 | nil => cases e
 | cons a r => exact Z1p (P := fun r => P (a :: r)) (h a) r (Nat.succ.inj e)
theorem Zeh {P : List Value -> Prop} (h : ∀ a b c d, P [a, b, c, d]) : ∀ us : List Value, us.length = 4 -> P us := fun us e => by
 cases us with
 | nil => cases e
 | cons a r => exact Zeg (P := fun r => P (a :: r)) (h a) r (Nat.succ.inj e)
theorem Ziq {K : PySem.W.Frag} (kt_NoneType_int : PySem.W.kitOne K (.type "NoneType") (.type "int") = some false) (kt_bool_int : PySem.W.kitOne K (.type "bool") (.type "int") = some true) (kt_int_int : PySem.W.kitOne K (.type "int") (.type "int") = some true) (kt_str_int : PySem.W.kitOne K (.type "str") (.type "int") = some false) (kt_tuple_int : PySem.W.kitOne K (.type "tuple") (.type "int") = some false) (kt_list_int : PySem.W.kitOne K (.type "list") (.type "int") = some false) (kt_NoneType_bool : PySem.W.kitOne K (.type "NoneType") (.type "bool") = some false) (kt_bool_bool : PySem.W.kitOne K (.type "bool") (.type "bool") = some true) (kt_int_bool : PySem.W.kitOne K (.type "int") (.type "bool") = some false) (kt_str_bool : PySem.W.kitOne K (.type "str") (.type "bool") = some false) (kt_tuple_bool : PySem.W.kitOne K (.type "tuple") (.type "bool") = some false) (kt_list_bool : PySem.W.kitOne K (.type "list") (.type "bool") = some false) (kt_NoneType_tuple : PySem.W.kitOne K (.type "NoneType") (.type "tuple") = some false) (kt_bool_tuple : PySem.W.kitOne K (.type "bool") (.type "tuple") = some false) (kt_int_tuple : PySem.W.kitOne K (.type "int") (.type "tuple") = some false) (kt_str_tuple : PySem.W.kitOne K (.type "str") (.type "tuple") = some false) (kt_tuple_tuple : PySem.W.kitOne K (.type "tuple") (.type "tuple") = some true) (kt_list_tuple : PySem.W.kitOne K (.type "list") (.type "tuple") = some false) : Kits K := by
 refine ⟨?i, ?b, ?t⟩
 case i =>
  intro H v t h
  cases h with
  | «at» f =>
   cases v with
   | non => exact kt_NoneType_int
   | bl b => exact kt_bool_int
   | int i => exact kt_int_int
   | str x => exact kt_str_int
   | _ => exact absurd (show false = true from f) Bool.false_ne_true
  | tup e r => exact kt_tuple_int
  | lst e r => exact kt_list_int
 case b =>
  intro H v t h
  cases h with
  | «at» f =>
   cases v with
   | non => exact kt_NoneType_bool
   | bl b => exact kt_bool_bool
   | int i => exact kt_int_bool
   | str x => exact kt_str_bool
   | _ => exact absurd (show false = true from f) Bool.false_ne_true
  | tup e r => exact kt_tuple_bool
  | lst e r => exact kt_list_bool
 case t =>
  intro H v t h
  cases h with
  | «at» f =>
   cases v with
   | non => exact kt_NoneType_tuple
   | bl b => exact kt_bool_tuple
   | int i => exact kt_int_tuple
   | str x => exact kt_str_tuple
   | _ => exact absurd (show false = true from f) Bool.false_ne_true
  | tup e r => exact kt_tuple_tuple
  | lst e r => exact kt_list_tuple
theorem Zk4 {K : PySem.W.Frag} {C fI B N : Addr} {nm q : Str} {bs : List Value} {sn : List Str} {sub : List Value} {ab : Bool} {col : Option Bool} {dd : Option Addr} {k0 k1 k2 k3 k5 : Option Value}
  (lk : K.lookup C = some (excClassObj nm q C N bs [.ref B, .type "ValueError", .type "Exception", .type "BaseException", .type "object"] true sn sub ab col dd k0 k1 k2 k3 k5 "ValueError.__new__"))
  (ini : PySem.W.findIn K (.ref C) "__init__" = some (some (.ref fI))) (fn : PySem.W.typeIn K (.ref fI) = some (.type "function")) (sa : PySem.W.findIn K (.ref C) "__setattr__" = some (some (.builtin "object.__setattr__")))
  (ga : PySem.W.findIn K (.ref C) "__getattribute__" = some (some (.builtin "BaseException.__getattribute__"))) (gn : PySem.W.findIn K (.ref C) "__getattr__" = some none) (hd : PySem.W.hasDictIn K C = true) (kp : PySem.W.keepIn K (.ref C) = true) : ExC K C fI := by
 refine ⟨⟨nm, q, N, bs, _, sn, sub, ab, col, dd, k0, k1, k2, k3, k5, lk, rfl, rfl, rfl, rfl, fun self => ?_, rfl⟩, ini, fn, sa, ga, gn, hd, kp⟩
 rw [refuseLoop_ref, refuseLoop_ref]
 exact F.store_ValueError.passes self
theorem Zir {K : PySem.W.Frag} {x qual : Str} {st : Stmt} {dV : Value} {f : Addr} {oc : Value} {od an : Option Addr} {osl : Array (Option Value)} {kV doc pm cdv ct : Value} (l : K.lookup f = some ⟨oc, od, .func (PySem.W.fnOf x qual (Z0g st) (Z0e st) (Z03 st) dV kV doc pm an cdv ct), osl⟩)
  (c : PySem.W.codeIn K cdv qual = true) (k : PySem.W.keepIn K (.ref f) = true) : FunD K x qual st dV f (PySem.W.fnOf x qual (Z0g st) (Z0e st) (Z03 st) dV kV doc pm an cdv ct) := ⟨⟨oc, od, kV, doc, pm, an, cdv, ct, osl, rfl, l, c⟩, k⟩
theorem _root_.L2.FunD.bindsD {K : PySem.W.Frag} {x qual : Str} {st : Stmt} {T : Addr} {f : Addr} {fd : FuncData} {ps : List Str} {oc : Value} {od : Option Addr} {items : Array Value} {n : Nat} {sl : Array (Option Value)} (F : FunD K x qual st (.ref T) f fd) (hT : K.lookup T = some ⟨oc, od, .seq items n, sl⟩)
  (h : ∀ (kV doc pm : Value) (an : Option Addr) (cdv ct : Value) (us : List Value), us.length = ps.length -> ∃ k : Option (Array Value) -> Sem (List (Str × Value)), bindArgs (PySem.W.fnOf x qual (Z0g st) (Z0e st) (Z03 st) (.ref T) kV doc pm an cdv ct) ⟨us, []⟩ = (seqItems? (.ref T) >>= k) /\ k (some items) = pure (ps.zip us)) : Binds K fd ps [] := by
 obtain ⟨oc', od', kV, doc, pm, an, cdv, ct, osl, rfl, lk, hcd⟩ := F.ex
 intro s us hK hl
 rw [List.append_nil] at hl ⊢
 obtain ⟨k, h1, h2⟩ := h kV doc pm an cdv ct us hl
 exact BindsTo.of_defaults rfl (hK _ _ hT) rfl h1 h2
abbrev hA (K : PySem.W.Frag) (n : Str) (f : Addr) : Prop := PySem.W.nsIn K mainGlobals n = some (some (.ref f))
abbrev hL (K : PySem.W.Frag) (n : Str) (S : Stmt) (f : Addr) (oc : Value) (od : Option Addr) (kV dc pm : Value) (an : Option Addr) (cd ct : Value) (sl : Array (Option Value)) : Prop := K.lookup f = some ⟨oc, od, .func (PySem.W.fnOf n n (Z0g S) (Z0e S) (Z03 S) .none kV dc pm an cd ct), sl⟩
abbrev hC (K : PySem.W.Frag) (cd : Value) (n : Str) : Prop := PySem.W.codeIn K cd n = true
abbrev hP (K : PySem.W.Frag) (f : Addr) : Prop := PySem.W.keepIn K (.ref f) = true
abbrev hZ (K : PySem.W.Frag) (n : Str) : Prop := PySem.W.nsIn K mainGlobals n = some none
abbrev hI (K : PySem.W.Frag) (a b : String) (v : Bool) : Prop := PySem.W.kitOne K (.type a) (.type b) = some v
theorem all_mk {l : PySem.W.OpenLaw} {w : World} {K : PySem.W.Frag} {h : Heap} {mg : Str -> Option Value} {fa f0 f1 f2 f3 f4 f5 f6 f7 f8 f9 f10 f11 f12 f13 f14 f15 f16 f17 f18 f19 f20 f21 f22 f23 f24 f25 cC cB cL cT co1 co2 co3 co4 co5 co6 co7 co8 co9 co10 : Addr} (X : K.In h) (G : h.Ns mainGlobals mg) (hfa : mg "law" = some (.ref fa))
  {od0 an0 od1 an1 od2 an2 od3 an3 od4 an4 od5 an5 od6 an6 od7 an7 od8 an8 od9 an9 od10 an10 od11 an11 od12 an12 od13 an13 od14 an14 od15 an15 od16 an16 od17 an17 od18 an18 od19 an19 od20 an20 od21 an21 od22 an22 od23 an23 od24 an24 od25 an25 : Option Addr} {sl0 sl1 sl2 sl3 sl4 sl5 sl6 sl7 sl8 sl9 sl10 sl11 sl12 sl13 sl14 sl15 sl16 sl17 sl18 sl19 sl20 sl21 sl22 sl23 sl24 sl25 : Array (Option Value)} {oc0 kV0 dc0 pm0 cd0 ct0 oc1 kV1 dc1 pm1 cd1 ct1 oc2 kV2 dc2 pm2 cd2 ct2 oc3 kV3 dc3 pm3 cd3 ct3 oc4 kV4 dc4 pm4 cd4 ct4 oc5 kV5 dc5 pm5 cd5 ct5 oc6 kV6 dc6 pm6 cd6 ct6 oc7 kV7 dc7 pm7 cd7 ct7 oc8 kV8 dc8 pm8 cd8 ct8 oc9 kV9 dc9 pm9 cd9 ct9 oc10 kV10 dc10 pm10 cd10 ct10 oc11 kV11 dc11 pm11 cd11 ct11 oc12 kV12 dc12 pm12 cd12 ct12 oc13 kV13 dc13 pm13 cd13 ct13 oc14 kV14 dc14 pm14 cd14 ct14 oc15 kV15 dc15 pm15 cd15 ct15 oc16 kV16 dc16 pm16 cd16 ct16 oc17 kV17 dc17 pm17 cd17 ct17 oc18 kV18 dc18 pm18 cd18 ct18 oc19 kV19 dc19 pm19 cd19 ct19 oc20 kV20 dc20 pm20 cd20 ct20 oc21 kV21 dc21 pm21 cd21 ct21 oc22 kV22 dc22 pm22 cd22 ct22 oc23 kV23 dc23 pm23 cd23 ct23 oc24 kV24 dc24 pm24 cd24 ct24 oc25 kV25 dc25 pm25 cd25 ct25 : Value} {tkN tkO tkC : Tok} {ocL kVL dcL pmL cdL ctL : Value} {odL anL : Option Addr} {slL : Array (Option Value)} {ocT dW : Value} {odT : Option Addr} {nT : Nat} {slT : Array (Option Value)} {nmC qC : Str} {NC : Addr} {bsC : List Value} {snC : List Str} {subC : List Value} {abC : Bool} {colC : Option Bool} {ddC : Option Addr} {k0C k1C k2C k3C k5C : Option Value} {nmB qB : Str} {NB : Addr} {bsB : List Value} {snB : List Str} {subB : List Value} {abB : Bool} {colB : Option Bool} {ddB : Option Addr} {k0B k1B k2B k3B k5B : Option Value} {hdB : Bool} {nidB : String}
  (a0 : hA K "head" f0) (l0 : hL K "head" Zb7 f0 oc0 od0 kV0 dc0 pm0 an0 cd0 ct0 sl0) (c0 : hC K cd0 "head") (k0 : hP K f0)
  (a1 : hA K "parts" f1) (l1 : hL K "parts" Z5c f1 oc1 od1 kV1 dc1 pm1 an1 cd1 ct1 sl1) (c1 : hC K cd1 "parts") (k1 : hP K f1)
  (a2 : hA K "steps" f2) (l2 : hL K "steps" Z6b f2 oc2 od2 kV2 dc2 pm2 an2 cd2 ct2 sl2) (c2 : hC K cd2 "steps") (k2 : hP K f2)
  (a3 : hA K "flat" f3) (l3 : hL K "flat" Zb8 f3 oc3 od3 kV3 dc3 pm3 an3 cd3 ct3 sl3) (c3 : hC K cd3 "flat") (k3 : hP K f3)
  (a4 : hA K "built" f4) (l4 : hL K "built" Z88 f4 oc4 od4 kV4 dc4 pm4 an4 cd4 ct4 sl4) (c4 : hC K cd4 "built") (k4 : hP K f4)
  (a5 : hA K "hole_numbers" f5) (l5 : hL K "hole_numbers" Z1c f5 oc5 od5 kV5 dc5 pm5 an5 cd5 ct5 sl5) (c5 : hC K cd5 "hole_numbers") (k5 : hP K f5)
  (a6 : hA K "hole_count" f6) (l6 : hL K "hole_count" Z2c f6 oc6 od6 kV6 dc6 pm6 an6 cd6 ct6 sl6) (c6 : hC K cd6 "hole_count") (k6 : hP K f6)
  (a7 : hA K "filled" f7) (l7 : hL K "filled" Z4i f7 oc7 od7 kV7 dc7 pm7 an7 cd7 ct7 sl7) (c7 : hC K cd7 "filled") (k7 : hP K f7)
  (a8 : hA K "_law_feed" f8) (l8 : hL K "_law_feed" Zd4 f8 oc8 od8 kV8 dc8 pm8 an8 cd8 ct8 sl8) (c8 : hC K cd8 "_law_feed") (k8 : hP K f8)
  (a9 : hA K "_law_draw" f9) (l9 : hL K "_law_draw" Zd5 f9 oc9 od9 kV9 dc9 pm9 an9 cd9 ct9 sl9) (c9 : hC K cd9 "_law_draw") (k9 : hP K f9)
  (a10 : hA K "_law_value" f10) (l10 : hL K "_law_value" Z2u f10 oc10 od10 kV10 dc10 pm10 an10 cd10 ct10 sl10) (c10 : hC K cd10 "_law_value") (k10 : hP K f10)
  (a11 : hA K "_law_spelled" f11) (l11 : hL K "_law_spelled" Z3v f11 oc11 od11 kV11 dc11 pm11 an11 cd11 ct11 sl11) (c11 : hC K cd11 "_law_spelled") (k11 : hP K f11)
  (a12 : hA K "_law_name" f12) (l12 : hL K "_law_name" Zd6 f12 oc12 od12 kV12 dc12 pm12 an12 cd12 ct12 sl12) (c12 : hC K cd12 "_law_name") (k12 : hP K f12)
  (a13 : hA K "_law_names" f13) (l13 : hL K "_law_names" Z86 f13 oc13 od13 kV13 dc13 pm13 an13 cd13 ct13 sl13) (c13 : hC K cd13 "_law_names") (k13 : hP K f13)
  (a14 : hA K "_law_parts" f14) (l14 : hL K "_law_parts" Z21 f14 oc14 od14 kV14 dc14 pm14 an14 cd14 ct14 sl14) (c14 : hC K cd14 "_law_parts") (k14 : hP K f14)
  (a15 : hA K "_law_with" f15) (l15 : hL K "_law_with" Zb9 f15 oc15 od15 kV15 dc15 pm15 an15 cd15 ct15 sl15) (c15 : hC K cd15 "_law_with") (k15 : hP K f15)
  (a16 : hA K "_law_nodes" f16) (l16 : hL K "_law_nodes" Z6c f16 oc16 od16 kV16 dc16 pm16 an16 cd16 ct16 sl16) (c16 : hC K cd16 "_law_nodes") (k16 : hP K f16)
  (a17 : hA K "_law_same" f17) (l17 : hL K "_law_same" Zba f17 oc17 od17 kV17 dc17 pm17 an17 cd17 ct17 sl17) (c17 : hC K cd17 "_law_same") (k17 : hP K f17)
  (a18 : hA K "_law_world" f18) (l18 : hL K "_law_world" Z87 f18 oc18 od18 kV18 dc18 pm18 an18 cd18 ct18 sl18) (c18 : hC K cd18 "_law_world") (k18 : hP K f18)
  (a19 : hA K "_law_leaf" f19) (l19 : hL K "_law_leaf" Zd7 f19 oc19 od19 kV19 dc19 pm19 an19 cd19 ct19 sl19) (c19 : hC K cd19 "_law_leaf") (k19 : hP K f19)
  (a20 : hA K "_law_form" f20) (l20 : hL K "_law_form" Z96 f20 oc20 od20 kV20 dc20 pm20 an20 cd20 ct20 sl20) (c20 : hC K cd20 "_law_form") (k20 : hP K f20)
  (a21 : hA K "_law_dense" f21) (l21 : hL K "_law_dense" Z6d f21 oc21 od21 kV21 dc21 pm21 an21 cd21 ct21 sl21) (c21 : hC K cd21 "_law_dense") (k21 : hP K f21)
  (a22 : hA K "_law_turned_about" f22) (l22 : hL K "_law_turned_about" Z4h f22 oc22 od22 kV22 dc22 pm22 an22 cd22 ct22 sl22) (c22 : hC K cd22 "_law_turned_about") (k22 : hP K f22)
  (a23 : hA K "_law_fill" f23) (l23 : hL K "_law_fill" Zbb f23 oc23 od23 kV23 dc23 pm23 an23 cd23 ct23 sl23) (c23 : hC K cd23 "_law_fill") (k23 : hP K f23)
  (a24 : hA K "_law_refused" f24) (l24 : hL K "_law_refused" Z3w f24 oc24 od24 kV24 dc24 pm24 an24 cd24 ct24 sl24) (c24 : hC K cd24 "_law_refused") (k24 : hP K f24)
  (a25 : hA K "law" f25) (l25 : hL K "law" Zgk f25 oc25 od25 kV25 dc25 pm25 an25 cd25 ct25 sl25) (c25 : hC K cd25 "law") (k25 : hP K f25)
  (q_isinstance : hZ K "isinstance")
  (q_int : hZ K "int")
  (q_bool : hZ K "bool")
  (q_str : hZ K "str")
  (q_tuple : hZ K "tuple")
  (q_len : hZ K "len")
  (q_list : hZ K "list")
  (q_range : hZ K "range")
  (q_sum : hZ K "sum")
  (q_all : hZ K "all")
  (q_any : hZ K "any")
  (q_sorted : hZ K "sorted")
  (q_reversed : hZ K "reversed")
  (q_ValueError : hZ K "ValueError")
  (gN : PySem.W.nsIn K mainGlobals "NODE" = some (some (.str "node" tkN)))
  (gO : PySem.W.nsIn K mainGlobals "OPENED" = some (some (.str "opened" tkO)))
  (gC : PySem.W.nsIn K mainGlobals "CLOSED" = some (some (.str "closed" tkC)))
  (xmC : hA K "NoFill" cC)
  (xiC : PySem.W.findIn K (.ref cC) "__init__" = some (some (.ref cL)))
  (xmB : hA K "LikeError" cB)
  (xlL : K.lookup cL = some ⟨ocL, odL, .func (PySem.W.fnOf "__init__" "LikeError.__init__" (Z0g Z5p) (Z0e Z5p) (Z03 Z5p) (.ref cT) kVL dcL pmL anL cdL ctL), slL⟩)
  (xcL : PySem.W.codeIn K cdL "LikeError.__init__" = true)
  (xkL : hP K cL)
  (xlT : K.lookup cT = some ⟨ocT, odT, .seq #[dW] nT, slT⟩)
  (xfv : PySem.W.findCls K (.type "ValueError") (.type "type") "__init__" = some (.val (.builtin "ValueError.__init__")))
  (xlC : K.lookup cC = some (excClassObj nmC qC cC NC bsC [.ref cB, .type "ValueError", .type "Exception", .type "BaseException", .type "object"] true snC subC abC colC ddC k0C k1C k2C k3C k5C "ValueError.__new__"))
  (xlB : K.lookup cB = some (excClassObj nmB qB cB NB bsB [.type "ValueError", .type "Exception", .type "BaseException", .type "object"] hdB snB subB abB colB ddB k0B k1B k2B k3B k5B nidB))
  (xo1 : hA K "NoBare" co1)
  (xo2 : hA K "NoExchange" co2)
  (xo3 : hA K "NoPlace" co3)
  (xo4 : hA K "NoPlaces" co4)
  (xo5 : hA K "NoPut" co5)
  (xo6 : hA K "NoTable" co6)
  (xo7 : hA K "NoFunction" co7)
  (xo8 : hA K "NoLine" co8)
  (xo9 : hA K "NoRow" co9)
  (xo10 : hA K "NoText" co10)
  (xca : PySem.W.findIn K (.ref cC) "__class__" = some (some (.builtin "object.__class__")))
  (xsp : PySem.W.specialIn K (.builtin "object.__class__") "__get__" = some (some (.builtin "getset_descriptor.__get__")))
  (xtk : PySem.W.takesIn K (.builtin "object.__class__") = some true)
  (xmr : PySem.W.mroIn K cC (.type "object") = some true)
  (xfn : PySem.W.typeIn K (.ref cL) = some (.type "function"))
  (xsa : PySem.W.findIn K (.ref cC) "__setattr__" = some (some (.builtin "object.__setattr__")))
  (xgb : PySem.W.findIn K (.ref cC) "__getattribute__" = some (some (.builtin "BaseException.__getattribute__")))
  (xgn : PySem.W.findIn K (.ref cC) "__getattr__" = some none)
  (xhd : PySem.W.hasDictIn K cC = true)
  (xkC : hP K cC)
  (kC : PySem.W.kitOne K (.ref cC) (.ref cC) = some true)
  (kVE : PySem.W.kitOne K (.ref cC) (.type "ValueError") = some true)
  (kk1 : PySem.W.kitOne K (.ref cC) (.ref co1) = some false)
  (kk2 : PySem.W.kitOne K (.ref cC) (.ref co2) = some false)
  (kk3 : PySem.W.kitOne K (.ref cC) (.ref co3) = some false)
  (kk4 : PySem.W.kitOne K (.ref cC) (.ref co4) = some false)
  (kk5 : PySem.W.kitOne K (.ref cC) (.ref co5) = some false)
  (kk6 : PySem.W.kitOne K (.ref cC) (.ref co6) = some false)
  (kA : PySem.W.kitAny K (.ref cC) ([co7, co8, co9, co10].map Value.ref) = some false)
  (kt_NoneType_int : hI K "NoneType" "int" false)
  (kt_bool_int : hI K "bool" "int" true)
  (kt_int_int : hI K "int" "int" true)
  (kt_str_int : hI K "str" "int" false)
  (kt_tuple_int : hI K "tuple" "int" false)
  (kt_list_int : hI K "list" "int" false)
  (kt_NoneType_bool : hI K "NoneType" "bool" false)
  (kt_bool_bool : hI K "bool" "bool" true)
  (kt_int_bool : hI K "int" "bool" false)
  (kt_str_bool : hI K "str" "bool" false)
  (kt_tuple_bool : hI K "tuple" "bool" false)
  (kt_list_bool : hI K "list" "bool" false)
  (kt_NoneType_tuple : hI K "NoneType" "tuple" false)
  (kt_bool_tuple : hI K "bool" "tuple" false)
  (kt_int_tuple : hI K "int" "tuple" false)
  (kt_str_tuple : hI K "str" "tuple" false)
  (kt_tuple_tuple : hI K "tuple" "tuple" true)
  (kt_list_tuple : hI K "list" "tuple" false)
  (kt_int_str : hI K "int" "str" false)
  (kt_str_str : hI K "str" "str" true) :
  ∃ fd : FuncData, (∀ (s : Shared) (v : Value), BindsTo s fd ⟨[v], []⟩ [("_law_script", v)]) /\ ∀ base : Heap, K.In base -> base.Ns mainGlobals mg -> FnOk l.prog w K mg base CX0 72 fa fd ["_law_script"] (Zg9 K) := by
 have e := hfa.symm.trans (PySem.W.mg_of X G a25)
 cases e
 have F0 := Z12 (st := Zb7) l0 c0 k0
 have b0 := F0.binds (ps := ["node"]) fun _ _ _ _ _ _ => Z1v fun _ => rfl
 have m0 := PySem.W.mg_of X G a0
 have F1 := Z12 (st := Z5c) l1 c1 k1
 have b1 := F1.binds (ps := ["e"]) fun _ _ _ _ _ _ => Z1v fun _ => rfl
 have m1 := PySem.W.mg_of X G a1
 have F2 := Z12 (st := Z6b) l2 c2 k2
 have b2 := F2.binds (ps := ["tree"]) fun _ _ _ _ _ _ => Z1v fun _ => rfl
 have m2 := PySem.W.mg_of X G a2
 have F3 := Z12 (st := Zb8) l3 c3 k3
 have b3 := F3.binds (ps := ["tree"]) fun _ _ _ _ _ _ => Z1v fun _ => rfl
 have m3 := PySem.W.mg_of X G a3
 have F4 := Z12 (st := Z88) l4 c4 k4
 have b4 := F4.binds (ps := ["rows"]) fun _ _ _ _ _ _ => Z1v fun _ => rfl
 have m4 := PySem.W.mg_of X G a4
 have F5 := Z12 (st := Z1c) l5 c5 k5
 have b5 := F5.binds (ps := ["b"]) fun _ _ _ _ _ _ => Z1v fun _ => rfl
 have m5 := PySem.W.mg_of X G a5
 have F6 := Z12 (st := Z2c) l6 c6 k6
 have b6 := F6.binds (ps := ["pattern"]) fun _ _ _ _ _ _ => Z1v fun _ => rfl
 have m6 := PySem.W.mg_of X G a6
 have F7 := Z12 (st := Z4i) l7 c7 k7
 have b7 := F7.binds (ps := ["pattern", "fillings"]) fun _ _ _ _ _ _ => Z1p fun _ _ => rfl
 have m7 := PySem.W.mg_of X G a7
 have F8 := Z12 (st := Zd4) l8 c8 k8
 have b8 := F8.binds (ps := ["_law_script"]) fun _ _ _ _ _ _ => Z1v fun _ => rfl
 have m8 := PySem.W.mg_of X G a8
 have F9 := Z12 (st := Zd5) l9 c9 k9
 have b9 := F9.binds (ps := ["_law_feed_here", "_law_many"]) fun _ _ _ _ _ _ => Z1p fun _ _ => rfl
 have m9 := PySem.W.mg_of X G a9
 have F10 := Z12 (st := Z2u) l10 c10 k10
 have b10 := F10.binds (ps := ["_law_feed_here"]) fun _ _ _ _ _ _ => Z1v fun _ => rfl
 have m10 := PySem.W.mg_of X G a10
 have F11 := Z12 (st := Z3v) l11 c11 k11
 have b11 := F11.binds (ps := ["_law_number", "_law_long"]) fun _ _ _ _ _ _ => Z1p fun _ _ => rfl
 have m11 := PySem.W.mg_of X G a11
 have F12 := Z12 (st := Zd6) l12 c12 k12
 have b12 := F12.binds (ps := ["_law_feed_here", "_law_taken"]) fun _ _ _ _ _ _ => Z1p fun _ _ => rfl
 have m12 := PySem.W.mg_of X G a12
 have F13 := Z12 (st := Z86) l13 c13 k13
 have b13 := F13.binds (ps := ["_law_feed_here", "_law_many"]) fun _ _ _ _ _ _ => Z1p fun _ _ => rfl
 have m13 := PySem.W.mg_of X G a13
 have F14 := Z12 (st := Z21) l14 c14 k14
 have b14 := F14.binds (ps := ["_law_e"]) fun _ _ _ _ _ _ => Z1v fun _ => rfl
 have m14 := PySem.W.mg_of X G a14
 have F15 := Z12 (st := Zb9) l15 c15 k15
 have b15 := F15.binds (ps := ["_law_e", "_law_inner"]) fun _ _ _ _ _ _ => Z1p fun _ _ => rfl
 have m15 := PySem.W.mg_of X G a15
 have F16 := Z12 (st := Z6c) l16 c16 k16
 have b16 := F16.binds (ps := ["_law_e"]) fun _ _ _ _ _ _ => Z1v fun _ => rfl
 have m16 := PySem.W.mg_of X G a16
 have F17 := Z12 (st := Zba) l17 c17 k17
 have b17 := F17.binds (ps := ["_law_found", "_law_due"]) fun _ _ _ _ _ _ => Z1p fun _ _ => rfl
 have m17 := PySem.W.mg_of X G a17
 have F18 := Z12 (st := Z87) l18 c18 k18
 have b18 := F18.binds (ps := ["_law_names_here", "_law_room", "_law_holes", "_law_astray"]) fun _ _ _ _ _ _ => Zeh fun _ _ _ _ => rfl
 have m18 := PySem.W.mg_of X G a18
 have F19 := Z12 (st := Zd7) l19 c19 k19
 have b19 := F19.binds (ps := ["_law_feed_here", "_law_world_here", "_law_lets"]) fun _ _ _ _ _ _ => Zeg fun _ _ _ => rfl
 have m19 := PySem.W.mg_of X G a19
 have F20 := Z12 (st := Z96) l20 c20 k20
 have b20 := F20.binds (ps := ["_law_feed_here", "_law_world_here", "_law_lets", "_law_below"]) fun _ _ _ _ _ _ => Zeh fun _ _ _ _ => rfl
 have m20 := PySem.W.mg_of X G a20
 have F21 := Z12 (st := Z6d) l21 c21 k21
 have b21 := F21.binds (ps := ["_law_b", "_law_seen"]) fun _ _ _ _ _ _ => Z1p fun _ _ => rfl
 have m21 := PySem.W.mg_of X G a21
 have F22 := Z12 (st := Z4h) l22 c22 k22
 have b22 := F22.binds (ps := ["_law_b", "_law_many"]) fun _ _ _ _ _ _ => Z1p fun _ _ => rfl
 have m22 := PySem.W.mg_of X G a22
 have F23 := Z12 (st := Zbb) l23 c23 k23
 have b23 := F23.binds (ps := ["_law_b", "_law_fillings"]) fun _ _ _ _ _ _ => Z1p fun _ _ => rfl
 have m23 := PySem.W.mg_of X G a23
 have F24 := Z12 (st := Z3w) l24 c24 k24
 have b24 := F24.binds (ps := ["_law_pattern", "_law_fillings"]) fun _ _ _ _ _ _ => Z1p fun _ _ => rfl
 have m24 := PySem.W.mg_of X G a24
 have F25 := Z12 (st := Zgk) l25 c25 k25
 have z_isinstance := PySem.W.mg_none_of X G q_isinstance
 have z_int := PySem.W.mg_none_of X G q_int
 have z_bool := PySem.W.mg_none_of X G q_bool
 have z_str := PySem.W.mg_none_of X G q_str
 have z_tuple := PySem.W.mg_none_of X G q_tuple
 have z_len := PySem.W.mg_none_of X G q_len
 have z_list := PySem.W.mg_none_of X G q_list
 have z_range := PySem.W.mg_none_of X G q_range
 have z_sum := PySem.W.mg_none_of X G q_sum
 have z_all := PySem.W.mg_none_of X G q_all
 have z_any := PySem.W.mg_none_of X G q_any
 have z_sorted := PySem.W.mg_none_of X G q_sorted
 have z_reversed := PySem.W.mg_none_of X G q_reversed
 have z_ValueError := PySem.W.mg_none_of X G q_ValueError
 have T0 : Txt0 mg := ⟨z_len, z_list, z_range⟩
 have T : TxtT mg := ⟨z_isinstance, z_int, z_bool, z_tuple, z_len⟩
 have TA : TxtA mg := ⟨z_str, z_all, z_any, z_range⟩
 have KI : Kits K := Ziq kt_NoneType_int kt_bool_int kt_int_int kt_str_int kt_tuple_int kt_list_int kt_NoneType_bool kt_bool_bool kt_int_bool kt_str_bool kt_tuple_bool kt_list_bool kt_NoneType_tuple kt_bool_tuple kt_int_tuple kt_str_tuple kt_tuple_tuple kt_list_tuple
 have KT : KS K := ⟨kt_int_str, kt_str_str⟩
 have TD : TxtD mg := ⟨⟨_, PySem.W.mg_of X G gN⟩, ⟨_, PySem.W.mg_of X G gO⟩, ⟨_, PySem.W.mg_of X G gC⟩⟩
 have U : Helpers K mg f9 f11 _ _ := ⟨T0, F9, b9, m9, F11, b11, m11⟩
 have HTT : HT K mg f1 f0 f2 _ _ _ := ⟨T, TD, KI, F1, b1, m1, F0, b0, m0, F2, b2, m2⟩
 have HHH : HH K mg f1 f0 f2 f3 _ _ _ _ := ⟨HTT, F3, b3, m3, z_sorted⟩
 have HFF : HF K mg f4 f6 f5 _ _ _ := ⟨F4, b4, m4, F6, b6, m6, F5, b5, m5, z_reversed⟩
 have HWW : HW K mg f14 f15 _ _ := ⟨T, KI, F14, b14, m14, F15, b15, m15⟩
 have xC : ExC K cC cL := Zk4 xlC xiC xfn xsa xgb xgn xhd xkC
 have FL := Zir (st := Z5p) xlL xcL xkL
 have bL := FL.bindsD (ps := ["self", "words"]) xlT (fun _ _ _ _ _ _ => Z1p fun _ _ => ⟨_, rfl, rfl⟩)
 have Z : NoF K mg cC cL _ := ⟨xC, PySem.W.mg_of X G xmC, ⟨_, FL⟩, bL, z_ValueError, xfv⟩
 have L : CL K mg cC cB co1 co2 co3 co4 co5 co6 co7 co8 co9 co10 := ⟨⟨_, _, _, _, _, _, _, _, _, _, _, _, _, _, _, xlC⟩, ⟨_, _, _, _, _, _, _, _, _, _, _, _, _, _, _, _, _, xlB, rfl⟩, PySem.W.mg_of X G xmB, PySem.W.mg_of X G xo1, PySem.W.mg_of X G xo2, PySem.W.mg_of X G xo3, PySem.W.mg_of X G xo4, PySem.W.mg_of X G xo5, PySem.W.mg_of X G xo6, PySem.W.mg_of X G xo7, PySem.W.mg_of X G xo8, PySem.W.mg_of X G xo9, PySem.W.mg_of X G xo10, ⟨xca, xsp, xtk, xmr⟩, kC, kVE, kk1, kk2, kk3, kk4, kk5, kk6, kA⟩
 have Y : Lw K mg ⟨f9, f11, f8, f13, f18, f20, f21, f22, f23, f17, f7, f24, _, _, _, _, _, _, _, _, _, _, _, _⟩ := ⟨U, T, z_list, ⟨F8, b8, m8⟩, ⟨F13, b13, m13⟩, ⟨F18, b18, m18⟩, ⟨F20, b20, m20⟩, ⟨F21, b21, m21⟩, ⟨F22, b22, m22⟩, ⟨F23, b23, m23⟩, ⟨F17, b17, m17⟩, ⟨F7, b7, m7⟩, ⟨F24, b24, m24⟩⟩
 refine ⟨PySem.W.fnOf "law" "law" (Z0g Zgk) (Z0e Zgk) (Z03 Zgk) .none kV25 dc25 pm25 an25 cd25 ct25, fun s v => .of_eq rfl, fun base _ _ => ?_⟩
 have GNo := Zfj (P := l.prog) (w := w) (base := base) F16 b16 m16 T KI z_sum F14 b14 m14
 have GL := Zi7 (P := l.prog) (w := w) (base := base) F19 U F10 b10 m10
 have GX := Zg8 fun B N => Zib (P := l.prog) (w := w) (base := base) F20 b20 m20 U T GL F19 b19 m19 GNo F16 b16 m16 B N
 have GN := Zfh (P := l.prog) (w := w) (base := base) F13 U F12 b12 m12
 have GFd := Zee (P := l.prog) (w := w) (base := base) F7 HHH HFF Z 60
 have GRe := Zbq (P := l.prog) (w := w) (base := base) F24 T Z L F7 b7 m7 60 GFd
 exact Zk3 F25 Y GN GX (Zfm F21 b21 m21 HWW 6) (Zdk F22 b22 m22 HWW 7) (Zi0 F23 b23 m23 HWW 8) (Zi4 F17 b17 m17 T TA KI KT 70) GFd GRe
theorem walk {l : PySem.W.OpenLaw} {q : Program} {loose : List Str} {XP : (Str -> Option Value) -> Heap -> Prop} {YP : World -> Heap -> Prop} {d : DefRec} {K : Params -> PySem.W.Frag} (hn : l.most = some 63) (hdf : d.params.defaults = [])
  (hY : ∀ (w : World) (h : Heap), YP w h -> (K w.params).In h)
  (F : ∀ (w : World) (mg : Str -> Option Value) (fa : Addr) (h : Heap), (K w.params).In h -> h.Ns mainGlobals mg -> mg d.name = some (.ref fa) →
   ∃ fd : FuncData, (∀ (s : Shared) (u : Value), BindsTo s fd ⟨[u], []⟩ [("_law_script", u)]) /\ ∀ base : Heap, (K w.params).In base -> base.Ns mainGlobals mg -> FnOk l.prog w (K w.params) mg base CX0 72 fa fd ["_law_script"] (Zg9 (K w.params))) :
  PySem.W.WalkO q loose XP YP l.row.toRowW d [] (fun f vs => PySem.call f vs) :=
 L2.walk_of (n := 63) (k := 72) (x := "_law_script") (CX := fun _ => CX0) (sp := fun w => Zg9 (K w.params)) hn (by decide) hdf ⟨rfl, rfl, by decide, by decide⟩ hY F (fun _ _ a ns hl _ hS => ⟨a, ns, rfl, hS, hl, fun _ => rfl⟩) fun _ _ _ _ _ z => z
end K16
open PySem PySem.W PyProof.Rows
set_option maxRecDepth 100000 in
set_option maxHeartbeats 0 in
theorem PySem.Challenge.cw_likepieces_k16_patterns_filled_holds : PySem.Challenge.rw_likepieces_k16_patterns_filled.Holds := by
 w_on
 refine holds_law K16.hdS fun sd => ?_
 refine holds_open (q := K16.hdQ) (loose := K16.hdL) (Yf := K16.hdH.obs) (Ya := K16.hdH.val)
  (XP := XL K16.hdQ []) (YP := InK K16.hdK) (N := K16.hdN) K16.hdT K16.hdH.of
  K16.hdH.keeps (fun s e => xl_of s (Bool.and_eq_true_iff.mp e).1) XL.keeps (by rfl) (by rfl)
  (by rfl) (fun s e => recFacts_of (Bool.and_eq_true_iff.mp e).2) (by rfl) sd (by decide +kernel)
  ⟨rfl, rfl, rfl, rfl, rfl, by decide +kernel⟩ ?hw ?hc
 (case hw => w_witness2)
 k_fill
 refine K16.walk (l := PySem.Challenge.rw_likepieces_k16_patterns_filled) rfl rfl (K := K16.hdK) (fun w h Y => Y) ?F
 case F =>
  intro w mg fa h KX G hmg
  refine' K16.all_mk KX G hmg ?a0 ?l0 ?c0 ?k0 ?a1 ?l1 ?c1 ?k1 ?a2 ?l2 ?c2 ?k2 ?a3 ?l3 ?c3 ?k3 ?a4 ?l4 ?c4 ?k4 ?a5 ?l5 ?c5 ?k5 ?a6 ?l6 ?c6 ?k6 ?a7 ?l7 ?c7 ?k7 ?a8 ?l8 ?c8 ?k8 ?a9 ?l9 ?c9 ?k9 ?a10 ?l10 ?c10 ?k10 ?a11 ?l11 ?c11 ?k11 ?a12 ?l12 ?c12 ?k12 ?a13 ?l13 ?c13 ?k13 ?a14 ?l14 ?c14 ?k14 ?a15 ?l15 ?c15 ?k15 ?a16 ?l16 ?c16 ?k16 ?a17 ?l17 ?c17 ?k17 ?a18 ?l18 ?c18 ?k18 ?a19 ?l19 ?c19 ?k19 ?a20 ?l20 ?c20 ?k20 ?a21 ?l21 ?c21 ?k21 ?a22 ?l22 ?c22 ?k22 ?a23 ?l23 ?c23 ?k23 ?a24 ?l24 ?c24 ?k24 ?a25 ?l25 ?c25 ?k25 ?q_isinstance ?q_int ?q_bool ?q_str ?q_tuple ?q_len ?q_list ?q_range ?q_sum ?q_all ?q_any ?q_sorted ?q_reversed ?q_ValueError ?gN ?gO ?gC ?xmC ?xiC ?xmB ?xlL ?xcL ?xkL ?xlT ?xfv ?xlC ?xlB ?xo1 ?xo2 ?xo3 ?xo4 ?xo5 ?xo6 ?xo7 ?xo8 ?xo9 ?xo10 ?xca ?xsp ?xtk ?xmr ?xfn ?xsa ?xgb ?xgn ?xhd ?xkC ?kC ?kVE ?kk1 ?kk2 ?kk3 ?kk4 ?kk5 ?kk6 ?kA ?kt_NoneType_int ?kt_bool_int ?kt_int_int ?kt_str_int ?kt_tuple_int ?kt_list_int ?kt_NoneType_bool ?kt_bool_bool ?kt_int_bool ?kt_str_bool ?kt_tuple_bool ?kt_list_bool ?kt_NoneType_tuple ?kt_bool_tuple ?kt_int_tuple ?kt_str_tuple ?kt_tuple_tuple ?kt_list_tuple ?kt_int_str ?kt_str_str
  all_goals first | unfold K16.hA | unfold K16.hL | unfold K16.hC | unfold K16.hP | unfold K16.hZ | unfold K16.hI | skip
  (case a0 | l0 | c0 | k0 | a1 | l1 | c1 | k1 | a2 | l2 | c2 | k2 | a3 | l3 | c3 | k3 | a4 | l4 | c4 | k4 | a5 | l5 | c5 | k5 | a6 | l6 | c6 | k6 | a7 | l7 | c7 | k7 | a8 | l8 | c8 | k8 | a9 | l9 | c9 | k9 | a10 | l10 | c10 | k10 | a11 | l11 | c11 | k11 | a12 | l12 | c12 | k12 | a13 | l13 | c13 | k13 | a14 | l14 | c14 | k14 | a15 | l15 | c15 | k15 | a16 | l16 | c16 | k16 | a17 | l17 | c17 | k17 | a18 | l18 | c18 | k18 | a19 | l19 | c19 | k19 | a20 | l20 | c20 | k20 | a21 | l21 | c21 | k21 | a22 | l22 | c22 | k22 | a23 | l23 | c23 | k23 | a24 | l24 | c24 | k24 | a25 | l25 | c25 | k25 | q_isinstance | q_int | q_bool | q_str | q_tuple | q_len | q_list | q_range | q_sum | q_all | q_any | q_sorted | q_reversed | q_ValueError | gN | gO | gC | xmC | xiC | xmB | xlL | xcL | xkL => k_is)
  (case xlT => first | rfl | k_is)
  (case xfv => k_is)
  (case xlC | xlB => first | rfl | k_is)
  (case xo1 | xo2 | xo3 | xo4 | xo5 | xo6 | xo7 | xo8 | xo9 | xo10 | xca | xsp | xtk | xmr | xfn | xsa | xgb | xgn | xhd | xkC => k_is)
  (case kC | kVE | kk1 | kk2 | kk3 | kk4 | kk5 | kk6 | kA => first | k_is | rfl | decide +kernel)
  (case kt_NoneType_int | kt_bool_int | kt_int_int | kt_str_int | kt_tuple_int | kt_list_int | kt_NoneType_bool | kt_bool_bool | kt_int_bool | kt_str_bool | kt_tuple_bool | kt_list_bool | kt_NoneType_tuple | kt_bool_tuple | kt_int_tuple | kt_str_tuple | kt_tuple_tuple | kt_list_tuple | kt_int_str | kt_str_str => first | k_is | rfl | decide)
