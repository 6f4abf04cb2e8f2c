import PyProof.Rows.All
import Wide.All
import OpenK.AllK
import Wide.FinOn
import Lean
import PyProof.EqAt
import PyProof.EqKinds
import PyProof.TupleCall
import PyProof.NeKinds
import PyProof.Rows.SortStr
import PyProof.Rows.SeqMore
import PyProof.Rows.CatFin
import PyProof.MeetsStr
import PyProof.Rows.SumAny
import PyProof.Rows.SortShell
import PyProof.Rows.SetFrom
import PyProof.DictWalks
import PyProof.Rows.SortReads
import KE.KDictSum
import PyProof.ZipIter
import PyProof.Rows.ZipGen
import PySem.Challenge.RW_likepieces_k15_patterns_told
import PyProof.TupleOfGen
import PyProof.TupleOfStr
import KE.KIsAll
import PyProof.Rows.StrJoin2
import PyProof.AttrMissSeq
import KE.KDictOf
import PyProof.DictCompW
set_option Elab.async false
set_option linter.all false
set_option maxRecDepth 100000
set_option maxHeartbeats 4000000
namespace L2
open PySem
def Z0n (s : Stmt) : Arguments := match s with
 | .FunctionDef _ a _ _ _ _ _ _ _ _ => a
 | _ => { posonlyargs := [], args := [], vararg := none, kwonlyargs := [], kw_defaults := [], kwarg := none, defaults := [] }
def Z0m (s : Stmt) : List Stmt := match s with
 | .FunctionDef _ _ b _ _ _ _ _ _ _ => b
 | _ => []
def Z03 (s : Stmt) : Scope := match s with
 | .FunctionDef _ _ _ _ _ _ sc _ _ _ => sc
 | _ => { kind := .function, names := [], isGenerator := false, isCoroutine := false }
end L2
namespace K15
open PySem L2
def top (i : Nat) : Stmt := PySem.Challenge.pw_likepieces_k15_patterns_told.main.body.getD i (.Pass ⟨0, 0, 0, 0⟩)
abbrev eT : Obj := ⟨(.type "tuple"), none, (.seq #[] 0), #[]⟩
abbrev eF (n : Str) (i : Nat) (r : Addr) : Obj := ⟨(.type "function"), none, (.func (PySem.W.fnOf n n (Z0n (top i)) (Z0m (top i)) (Z03 (top i)) .none .none .none (.str "likepieces.trees" 187) none (.ref r) .none)), #[]⟩
abbrev eC (n : Str) (a b c : Tok) (l k f : Int) (r s : Addr) (v w : Value) (t : Addr) (m : Int) (d : Tok) : Obj := ⟨(.type "code"), none, (.fields #[(.str n a), (.str n b), (.str "/claim/cut.py" c), (.int l 0), (.int k 0), (.int 0 0), (.int 0 0), (.int f 0), (.ref r), (.bool true), (.int 181 0), (.ref s), .none, v, w, (.ref t), (.int m 0), (.int l 0), (.str "/claim/cut.py" d)]), #[]⟩
def hdQ : Program := { PySem.Challenge.pw_likepieces_k15_patterns_told with main := { PySem.Challenge.pw_likepieces_k15_patterns_told.main with body := [top 1, top 2, top 3, top 4, top 5, top 6, top 7, top 8, top 9, top 10, top 11, top 12, top 13, top 14, top 15, top 16, top 17, top 18, top 19, top 20, top 21, top 23, top 24, top 25, top 26, top 27, top 29, top 30, top 31, top 33, top 34, top 35, top 36, top 37, top 38, top 39, top 40, top 41, top 42, top 43, top 44, top 45, top 46, top 47, top 48, top 49, top 50, top 51, top 52] } }
def hdK : Params -> PySem.W.Frag := fun P =>
 (nat_lit 2, ⟨.none, none, (.dict #[] 0), #[]⟩) ::
 (nat_lit 3, ⟨(.type "dict"), none, (.dict #[⟨(PySem.PyData.keyHash P "__name__"), (.str "__name__" 165), (.str "law_likepieces_k15_patterns_told" 418)⟩, ⟨(PySem.PyData.keyHash P "__doc__"), (.str "__doc__" 166), .none⟩, ⟨(PySem.PyData.keyHash P "__package__"), (.str "__package__" 167), .none⟩, ⟨(PySem.PyData.keyHash P "__loader__"), (.str "__loader__" 168), (.builtin "__main__.__loader__#opaque")⟩, ⟨(PySem.PyData.keyHash P "__spec__"), (.str "__spec__" 169), .none⟩, ⟨(PySem.PyData.keyHash P "__annotations__"), (.str "__annotations__" 170), (.ref 6)⟩, ⟨(PySem.PyData.keyHash P "__builtins__"), (.str "__builtins__" 171), (.ref 4)⟩, ⟨(PySem.PyData.keyHash P "__file__"), (.str "__file__" 173), (.str "/claim/cut.py" 172)⟩, ⟨(PySem.PyData.keyHash P "__cached__"), (.str "__cached__" 174), .none⟩, ⟨(PySem.PyData.keyHash P "WORDS"), (.str "WORDS" 202), (.ref 15)⟩, ⟨(PySem.PyData.keyHash P "SIGNS"), (.str "SIGNS" 209), (.ref 16)⟩, ⟨(PySem.PyData.keyHash P "LONGEST_NAME"), (.str "LONGEST_NAME" 211), (.int 8 210)⟩, ⟨(PySem.PyData.keyHash P "GREATEST_VALUE"), (.str "GREATEST_VALUE" 213), (.int 999999999 212)⟩, ⟨(PySem.PyData.keyHash P "MOST_TIMES"), (.str "MOST_TIMES" 215), (.int 5 214)⟩, ⟨(PySem.PyData.keyHash P "NODE"), (.str "NODE" 217), (.str "node" 216)⟩, ⟨(PySem.PyData.keyHash P "OPENED"), (.str "OPENED" 219), (.str "opened" 218)⟩, ⟨(PySem.PyData.keyHash P "CLOSED"), (.str "CLOSED" 221), (.str "closed" 220)⟩, ⟨(PySem.PyData.keyHash P "is_whole"), (.str "is_whole" 228), (.ref 23)⟩, ⟨(PySem.PyData.keyHash P "is_name"), (.str "is_name" 234), (.ref 28)⟩, ⟨(PySem.PyData.keyHash P "is_value"), (.str "is_value" 241), (.ref 35)⟩, ⟨(PySem.PyData.keyHash P "is_sign"), (.str "is_sign" 248), (.ref 42)⟩, ⟨(PySem.PyData.keyHash P "is_times"), (.str "is_times" 255), (.ref 49)⟩, ⟨(PySem.PyData.keyHash P "RULES"), (.str "RULES" 300), (.ref 50)⟩, ⟨(PySem.PyData.keyHash P "expression_rule"), (.str "expression_rule" 307), (.ref 68)⟩, ⟨(PySem.PyData.keyHash P "is_node"), (.str "is_node" 313), (.ref 73)⟩, ⟨(PySem.PyData.keyHash P "is_tree"), (.str "is_tree" 323), (.ref 80)⟩, ⟨(PySem.PyData.keyHash P "head"), (.str "head" 329), (.ref 85)⟩, ⟨(PySem.PyData.keyHash P "parts"), (.str "parts" 335), (.ref 90)⟩, ⟨(PySem.PyData.keyHash P "steps"), (.str "steps" 341), (.ref 95)⟩, ⟨(PySem.PyData.keyHash P "flat"), (.str "flat" 347), (.ref 100)⟩, ⟨(PySem.PyData.keyHash P "is_number"), (.str "is_number" 356), (.ref 107)⟩, ⟨(PySem.PyData.keyHash P "BARE_RULES"), (.str "BARE_RULES" 369), (.ref 108)⟩, ⟨(PySem.PyData.keyHash P "bare_rule"), (.str "bare_rule" 376), (.ref 118)⟩, ⟨(PySem.PyData.keyHash P "is_bare"), (.str "is_bare" 383), (.ref 125)⟩, ⟨(PySem.PyData.keyHash P "loose"), (.str "loose" 394), (.ref 132)⟩, ⟨(PySem.PyData.keyHash P "hole_numbers"), (.str "hole_numbers" 402), (.ref 137)⟩, ⟨(PySem.PyData.keyHash P "is_pattern"), (.str "is_pattern" 410), (.ref 144)⟩, ⟨(PySem.PyData.keyHash P "hole_count"), (.str "hole_count" 417), (.ref 151)⟩, ⟨(PySem.PyData.keyHash P "_law_feed"), (.str "_law_feed" 426), (.ref 158)⟩, ⟨(PySem.PyData.keyHash P "_law_draw"), (.str "_law_draw" 438), (.ref 165)⟩, ⟨(PySem.PyData.keyHash P "_law_value"), (.str "_law_value" 446), (.ref 172)⟩, ⟨(PySem.PyData.keyHash P "_law_spelled"), (.str "_law_spelled" 456), (.ref 179)⟩, ⟨(PySem.PyData.keyHash P "_law_name"), (.str "_law_name" 471), (.ref 186)⟩, ⟨(PySem.PyData.keyHash P "_law_names"), (.str "_law_names" 481), (.ref 193)⟩, ⟨(PySem.PyData.keyHash P "_law_parts"), (.str "_law_parts" 487), (.ref 198)⟩, ⟨(PySem.PyData.keyHash P "_law_with"), (.str "_law_with" 493), (.ref 203)⟩, ⟨(PySem.PyData.keyHash P "_law_nodes"), (.str "_law_nodes" 499), (.ref 208)⟩, ⟨(PySem.PyData.keyHash P "_law_world"), (.str "_law_world" 509), (.ref 215)⟩, ⟨(PySem.PyData.keyHash P "_law_leaf"), (.str "_law_leaf" 519), (.ref 222)⟩, ⟨(PySem.PyData.keyHash P "_law_form"), (.str "_law_form" 525), (.ref 227)⟩, ⟨(PySem.PyData.keyHash P "_law_dense"), (.str "_law_dense" 531), (.ref 232)⟩, ⟨(PySem.PyData.keyHash P "_law_turned_about"), (.str "_law_turned_about" 537), (.ref 237)⟩, ⟨(PySem.PyData.keyHash P "_law_numbers"), (.str "_law_numbers" 547), (.ref 244)⟩, ⟨(PySem.PyData.keyHash P "_law_closed"), (.str "_law_closed" 553), (.ref 249)⟩, ⟨(PySem.PyData.keyHash P "_law_bent"), (.str "_law_bent" 565), (.ref 256)⟩, ⟨(PySem.PyData.keyHash P "_law_bad"), (.str "_law_bad" 574), (.ref 263)⟩, ⟨(PySem.PyData.keyHash P "_law_told"), (.str "_law_told" 583), (.ref 270)⟩, ⟨(PySem.PyData.keyHash P "law"), (.str "law" 602), (.ref 277)⟩] 58), #[]⟩) ::
 (nat_lit 15, ⟨(.type "tuple"), none, (.seq #[(.str "num" 189), (.str "name" 190), (.str "op" 191), (.str "pick" 192), (.str "let" 193), (.str "set" 194), (.str "say" 195), (.str "take" 196), (.str "do" 197), (.str "again" 198), (.str "call" 199), (.str "own" 200), (.str "hole" 201)] 0), #[]⟩) ::
 (nat_lit 16, ⟨(.type "tuple"), none, (.seq #[(.str "+" 203), (.str "-" 204), (.str "*" 205), (.str "/" 206), (.str "<" 207), (.str "=" 208)] 0), #[]⟩) ::
 (nat_lit 17, eT) ::
 (nat_lit 19, ⟨(.type "tuple"), none, (.seq #[(.str "thing" 225)] 0), #[]⟩) ::
 (nat_lit 20, eT) ::
 (nat_lit 22, eC "is_whole" 222 223 224 10 1 3 17 18 (.ref 19) (.ref 20) 21 226 227) ::
 (nat_lit 23, eF "is_whole" 9 22) ::
 (nat_lit 24, eT) ::
 (nat_lit 27, eC "is_name" 229 230 231 12 1 3 24 25 .none .none 26 232 233) ::
 (nat_lit 28, eF "is_name" 10 27) ::
 (nat_lit 29, eT) ::
 (nat_lit 31, ⟨(.type "tuple"), none, (.seq #[(.str "thing" 238)] 0), #[]⟩) ::
 (nat_lit 32, eT) ::
 (nat_lit 34, eC "is_value" 235 236 237 16 1 3 29 30 (.ref 31) (.ref 32) 33 239 240) ::
 (nat_lit 35, eF "is_value" 11 34) ::
 (nat_lit 36, eT) ::
 (nat_lit 38, ⟨(.type "tuple"), none, (.seq #[(.str "thing" 245)] 0), #[]⟩) ::
 (nat_lit 39, eT) ::
 (nat_lit 41, eC "is_sign" 242 243 244 18 1 3 36 37 (.ref 38) (.ref 39) 40 246 247) ::
 (nat_lit 42, eF "is_sign" 12 41) ::
 (nat_lit 43, eT) ::
 (nat_lit 45, ⟨(.type "tuple"), none, (.seq #[(.str "thing" 252)] 0), #[]⟩) ::
 (nat_lit 46, eT) ::
 (nat_lit 48, eC "is_times" 249 250 251 20 1 3 43 44 (.ref 45) (.ref 46) 47 253 254) ::
 (nat_lit 49, eF "is_times" 13 48) ::
 (nat_lit 50, ⟨(.type "dict"), none, (.dict #[⟨(PySem.PyData.keyHash P "num"), (.str "num" 256), (.ref 51)⟩, ⟨(PySem.PyData.keyHash P "name"), (.str "name" 259), (.ref 52)⟩, ⟨(PySem.PyData.keyHash P "op"), (.str "op" 262), (.ref 53)⟩, ⟨(PySem.PyData.keyHash P "pick"), (.str "pick" 265), (.ref 54)⟩, ⟨(PySem.PyData.keyHash P "let"), (.str "let" 268), (.ref 55)⟩, ⟨(PySem.PyData.keyHash P "set"), (.str "set" 271), (.ref 56)⟩, ⟨(PySem.PyData.keyHash P "say"), (.str "say" 274), (.ref 57)⟩, ⟨(PySem.PyData.keyHash P "take"), (.str "take" 277), (.ref 58)⟩, ⟨(PySem.PyData.keyHash P "do"), (.str "do" 280), (.ref 59)⟩, ⟨(PySem.PyData.keyHash P "again"), (.str "again" 283), (.ref 60)⟩, ⟨(PySem.PyData.keyHash P "call"), (.str "call" 286), (.ref 61)⟩] 11), #[]⟩) ::
 (nat_lit 51, ⟨(.type "tuple"), none, (.seq #[(.ref 35), (.int 0 257), (.int 0 258)] 0), #[]⟩) ::
 (nat_lit 52, ⟨(.type "tuple"), none, (.seq #[(.ref 28), (.int 0 260), (.int 0 261)] 0), #[]⟩) ::
 (nat_lit 53, ⟨(.type "tuple"), none, (.seq #[(.ref 42), (.int 2 263), (.int 2 264)] 0), #[]⟩) ::
 (nat_lit 54, ⟨(.type "tuple"), none, (.seq #[.none, (.int 3 266), (.int 3 267)] 0), #[]⟩) ::
 (nat_lit 55, ⟨(.type "tuple"), none, (.seq #[(.ref 28), (.int 2 269), (.int 2 270)] 0), #[]⟩) ::
 (nat_lit 56, ⟨(.type "tuple"), none, (.seq #[(.ref 28), (.int 1 272), (.int 1 273)] 0), #[]⟩) ::
 (nat_lit 57, ⟨(.type "tuple"), none, (.seq #[.none, (.int 1 275), (.int 1 276)] 0), #[]⟩) ::
 (nat_lit 58, ⟨(.type "tuple"), none, (.seq #[.none, (.int 0 278), (.int 0 279)] 0), #[]⟩) ::
 (nat_lit 59, ⟨(.type "tuple"), none, (.seq #[.none, (.int 1 281), (.int 6 282)] 0), #[]⟩) ::
 (nat_lit 60, ⟨(.type "tuple"), none, (.seq #[(.ref 49), (.int 1 284), (.int 1 285)] 0), #[]⟩) ::
 (nat_lit 61, ⟨(.type "tuple"), none, (.seq #[(.ref 28), (.int 0 287), (.int 6 288)] 0), #[]⟩) ::
 (nat_lit 62, eT) ::
 (nat_lit 64, ⟨(.type "tuple"), none, (.seq #[(.str "word" 304)] 0), #[]⟩) ::
 (nat_lit 65, eT) ::
 (nat_lit 67, eC "expression_rule" 301 302 303 23 1 3 62 63 (.ref 64) (.ref 65) 66 305 306) ::
 (nat_lit 68, eF "expression_rule" 15 67) ::
 (nat_lit 69, eT) ::
 (nat_lit 72, eC "is_node" 308 309 310 25 2 3 69 70 .none .none 71 311 312) ::
 (nat_lit 73, eF "is_node" 16 72) ::
 (nat_lit 74, eT) ::
 (nat_lit 76, ⟨(.type "tuple"), none, (.seq #[(.str "thing" 317), (.str "rule_of" 318), (.str "waiting" 319), (.str "node" 320)] 0), #[]⟩) ::
 (nat_lit 77, eT) ::
 (nat_lit 79, eC "is_tree" 314 315 316 38 2 3 74 75 (.ref 76) (.ref 77) 78 321 322) ::
 (nat_lit 80, eF "is_tree" 17 79) ::
 (nat_lit 81, eT) ::
 (nat_lit 84, eC "head" 324 325 326 46 1 3 81 82 .none .none 83 327 328) ::
 (nat_lit 85, eF "head" 18 84) ::
 (nat_lit 86, eT) ::
 (nat_lit 89, eC "parts" 330 331 332 48 1 3 86 87 .none .none 88 333 334) ::
 (nat_lit 90, eF "parts" 19 89) ::
 (nat_lit 91, eT) ::
 (nat_lit 94, eC "steps" 336 337 338 50 1 3 91 92 .none .none 93 339 340) ::
 (nat_lit 95, eF "steps" 20 94) ::
 (nat_lit 96, eT) ::
 (nat_lit 99, eC "flat" 342 343 344 62 1 3 96 97 .none .none 98 345 346) ::
 (nat_lit 100, eF "flat" 21 99) ::
 (nat_lit 101, eT) ::
 (nat_lit 103, ⟨(.type "tuple"), none, (.seq #[(.str "thing" 353)] 0), #[]⟩) ::
 (nat_lit 104, eT) ::
 (nat_lit 106, eC "is_number" 350 351 352 65 1 3 101 102 (.ref 103) (.ref 104) 105 354 355) ::
 (nat_lit 107, ⟨(.type "function"), none, (.func (PySem.W.fnOf "is_number" "is_number" (Z0n (top 23)) (Z0m (top 23)) (Z03 (top 23)) .none .none .none (.str "likepieces.bares" 348) none (.ref 106) .none)), #[]⟩) ::
 (nat_lit 108, ⟨(.type "dict"), none, (.dict #[⟨(PySem.PyData.keyHash P "let"), (.str "let" 357), (.ref 109)⟩, ⟨(PySem.PyData.keyHash P "own"), (.str "own" 360), (.ref 110)⟩, ⟨(PySem.PyData.keyHash P "hole"), (.str "hole" 363), (.ref 111)⟩] 3), #[]⟩) ::
 (nat_lit 109, ⟨(.type "tuple"), none, (.seq #[.none, (.int 2 358), (.int 2 359)] 0), #[]⟩) ::
 (nat_lit 110, ⟨(.type "tuple"), none, (.seq #[(.ref 107), (.int 0 361), (.int 0 362)] 0), #[]⟩) ::
 (nat_lit 111, ⟨(.type "tuple"), none, (.seq #[(.ref 107), (.int 0 364), (.int 0 365)] 0), #[]⟩) ::
 (nat_lit 112, eT) ::
 (nat_lit 114, ⟨(.type "tuple"), none, (.seq #[(.str "word" 373)] 0), #[]⟩) ::
 (nat_lit 115, eT) ::
 (nat_lit 117, eC "bare_rule" 370 371 372 68 1 3 112 113 (.ref 114) (.ref 115) 116 374 375) ::
 (nat_lit 118, ⟨(.type "function"), none, (.func (PySem.W.fnOf "bare_rule" "bare_rule" (Z0n (top 25)) (Z0m (top 25)) (Z03 (top 25)) .none .none .none (.str "likepieces.bares" 348) none (.ref 117) .none)), #[]⟩) ::
 (nat_lit 119, eT) ::
 (nat_lit 121, ⟨(.type "tuple"), none, (.seq #[(.str "thing" 380)] 0), #[]⟩) ::
 (nat_lit 122, eT) ::
 (nat_lit 124, eC "is_bare" 377 378 379 70 1 3 119 120 (.ref 121) (.ref 122) 123 381 382) ::
 (nat_lit 125, ⟨(.type "function"), none, (.func (PySem.W.fnOf "is_bare" "is_bare" (Z0n (top 26)) (Z0m (top 26)) (Z03 (top 26)) .none .none .none (.str "likepieces.bares" 348) none (.ref 124) .none)), #[]⟩) ::
 (nat_lit 126, eT) ::
 (nat_lit 128, ⟨(.type "tuple"), none, (.seq #[(.str "b" 387), (.str "beyond" 388), (.str "level" 389), (.str "deed" 390), (.str "node" 391)] 0), #[]⟩) ::
 (nat_lit 129, eT) ::
 (nat_lit 131, eC "loose" 384 385 386 72 1 3 126 127 (.ref 128) (.ref 129) 130 392 393) ::
 (nat_lit 132, ⟨(.type "function"), none, (.func (PySem.W.fnOf "loose" "loose" (Z0n (top 27)) (Z0m (top 27)) (Z03 (top 27)) .none .none .none (.str "likepieces.bares" 348) none (.ref 131) .none)), #[]⟩) ::
 (nat_lit 133, eT) ::
 (nat_lit 136, eC "hole_numbers" 397 398 399 84 1 3 133 134 .none .none 135 400 401) ::
 (nat_lit 137, ⟨(.type "function"), none, (.func (PySem.W.fnOf "hole_numbers" "hole_numbers" (Z0n (top 29)) (Z0m (top 29)) (Z03 (top 29)) .none .none .none (.str "likepieces.patterns" 395) none (.ref 136) .none)), #[]⟩) ::
 (nat_lit 138, eT) ::
 (nat_lit 140, ⟨(.type "tuple"), none, (.seq #[(.str "thing" 406), (.str "numbers" 407)] 0), #[]⟩) ::
 (nat_lit 141, eT) ::
 (nat_lit 143, eC "is_pattern" 403 404 405 86 1 3 138 139 (.ref 140) (.ref 141) 142 408 409) ::
 (nat_lit 144, ⟨(.type "function"), none, (.func (PySem.W.fnOf "is_pattern" "is_pattern" (Z0n (top 30)) (Z0m (top 30)) (Z03 (top 30)) .none .none .none (.str "likepieces.patterns" 395) none (.ref 143) .none)), #[]⟩) ::
 (nat_lit 145, eT) ::
 (nat_lit 147, ⟨(.type "tuple"), none, (.seq #[(.str "pattern" 414)] 0), #[]⟩) ::
 (nat_lit 148, eT) ::
 (nat_lit 150, eC "hole_count" 411 412 413 91 1 3 145 146 (.ref 147) (.ref 148) 149 415 416) ::
 (nat_lit 151, ⟨(.type "function"), none, (.func (PySem.W.fnOf "hole_count" "hole_count" (Z0n (top 31)) (Z0m (top 31)) (Z03 (top 31)) .none .none .none (.str "likepieces.patterns" 395) none (.ref 150) .none)), #[]⟩) ::
 (nat_lit 152, eT) ::
 (nat_lit 154, ⟨(.type "tuple"), none, (.seq #[(.str "_law_script" 423)] 0), #[]⟩) ::
 (nat_lit 155, eT) ::
 (nat_lit 157, eC "_law_feed" 420 421 422 94 1 3 152 153 (.ref 154) (.ref 155) 156 424 425) ::
 (nat_lit 158, ⟨(.type "function"), none, (.func (PySem.W.fnOf "_law_feed" "_law_feed" (Z0n (top 33)) (Z0m (top 33)) (Z03 (top 33)) .none .none .none (.str "law_likepieces_k15_patterns_told" 418) none (.ref 157) .none)), #[]⟩) ::
 (nat_lit 159, eT) ::
 (nat_lit 161, ⟨(.type "tuple"), none, (.seq #[(.str "_law_feed_here" 430), (.str "_law_many" 431), (.str "_law_found" 432), (.str "_law_at" 433), (.str "_law_cell" 434), (.str "_law_number" 435)] 0), #[]⟩) ::
 (nat_lit 162, eT) ::
 (nat_lit 164, eC "_law_draw" 427 428 429 96 2 3 159 160 (.ref 161) (.ref 162) 163 436 437) ::
 (nat_lit 165, ⟨(.type "function"), none, (.func (PySem.W.fnOf "_law_draw" "_law_draw" (Z0n (top 34)) (Z0m (top 34)) (Z03 (top 34)) .none .none .none (.str "law_likepieces_k15_patterns_told" 418) none (.ref 164) .none)), #[]⟩) ::
 (nat_lit 166, eT) ::
 (nat_lit 168, ⟨(.type "tuple"), none, (.seq #[(.str "_law_feed_here" 442), (.str "_law_way" 443)] 0), #[]⟩) ::
 (nat_lit 169, eT) ::
 (nat_lit 171, eC "_law_value" 439 440 441 113 1 3 166 167 (.ref 168) (.ref 169) 170 444 445) ::
 (nat_lit 172, ⟨(.type "function"), none, (.func (PySem.W.fnOf "_law_value" "_law_value" (Z0n (top 35)) (Z0m (top 35)) (Z03 (top 35)) .none .none .none (.str "law_likepieces_k15_patterns_told" 418) none (.ref 171) .none)), #[]⟩) ::
 (nat_lit 173, eT) ::
 (nat_lit 175, ⟨(.type "tuple"), none, (.seq #[(.str "_law_number" 450), (.str "_law_long" 451), (.str "_law_word" 452), (.str "_law_k" 453)] 0), #[]⟩) ::
 (nat_lit 176, eT) ::
 (nat_lit 178, eC "_law_spelled" 447 448 449 120 2 3 173 174 (.ref 175) (.ref 176) 177 454 455) ::
 (nat_lit 179, ⟨(.type "function"), none, (.func (PySem.W.fnOf "_law_spelled" "_law_spelled" (Z0n (top 36)) (Z0m (top 36)) (Z03 (top 36)) .none .none .none (.str "law_likepieces_k15_patterns_told" 418) none (.ref 178) .none)), #[]⟩) ::
 (nat_lit 180, eT) ::
 (nat_lit 182, ⟨(.type "tuple"), none, (.seq #[(.str "_law_feed_here" 460), (.str "_law_taken" 461), (.str "_law_words" 462), (.str "_law_way" 463), (.str "_law_long" 464), (.str "_law_number" 465), (.str "_law_name_here" 466), (.str "_law_word" 467), (.str "_law_at" 468)] 0), #[]⟩) ::
 (nat_lit 183, eT) ::
 (nat_lit 185, eC "_law_name" 457 458 459 126 2 3 180 181 (.ref 182) (.ref 183) 184 469 470) ::
 (nat_lit 186, ⟨(.type "function"), none, (.func (PySem.W.fnOf "_law_name" "_law_name" (Z0n (top 37)) (Z0m (top 37)) (Z03 (top 37)) .none .none .none (.str "law_likepieces_k15_patterns_told" 418) none (.ref 185) .none)), #[]⟩) ::
 (nat_lit 187, eT) ::
 (nat_lit 189, ⟨(.type "tuple"), none, (.seq #[(.str "_law_feed_here" 475), (.str "_law_many" 476), (.str "_law_names_here" 477), (.str "_law_k" 478)] 0), #[]⟩) ::
 (nat_lit 190, eT) ::
 (nat_lit 192, eC "_law_names" 472 473 474 146 2 3 187 188 (.ref 189) (.ref 190) 191 479 480) ::
 (nat_lit 193, ⟨(.type "function"), none, (.func (PySem.W.fnOf "_law_names" "_law_names" (Z0n (top 38)) (Z0m (top 38)) (Z03 (top 38)) .none .none .none (.str "law_likepieces_k15_patterns_told" 418) none (.ref 192) .none)), #[]⟩) ::
 (nat_lit 194, eT) ::
 (nat_lit 197, eC "_law_parts" 482 483 484 151 1 3 194 195 .none .none 196 485 486) ::
 (nat_lit 198, ⟨(.type "function"), none, (.func (PySem.W.fnOf "_law_parts" "_law_parts" (Z0n (top 39)) (Z0m (top 39)) (Z03 (top 39)) .none .none .none (.str "law_likepieces_k15_patterns_told" 418) none (.ref 197) .none)), #[]⟩) ::
 (nat_lit 199, eT) ::
 (nat_lit 202, eC "_law_with" 488 489 490 153 2 3 199 200 .none .none 201 491 492) ::
 (nat_lit 203, ⟨(.type "function"), none, (.func (PySem.W.fnOf "_law_with" "_law_with" (Z0n (top 40)) (Z0m (top 40)) (Z03 (top 40)) .none .none .none (.str "law_likepieces_k15_patterns_told" 418) none (.ref 202) .none)), #[]⟩) ::
 (nat_lit 204, eT) ::
 (nat_lit 207, eC "_law_nodes" 494 495 496 155 1 3 204 205 .none .none 206 497 498) ::
 (nat_lit 208, ⟨(.type "function"), none, (.func (PySem.W.fnOf "_law_nodes" "_law_nodes" (Z0n (top 41)) (Z0m (top 41)) (Z03 (top 41)) .none .none .none (.str "law_likepieces_k15_patterns_told" 418) none (.ref 207) .none)), #[]⟩) ::
 (nat_lit 209, eT) ::
 (nat_lit 211, ⟨(.type "tuple"), none, (.seq #[(.str "_law_names_here" 503), (.str "_law_room" 504), (.str "_law_holes" 505), (.str "_law_astray" 506)] 0), #[]⟩) ::
 (nat_lit 212, eT) ::
 (nat_lit 214, eC "_law_world" 500 501 502 157 4 3 209 210 (.ref 211) (.ref 212) 213 507 508) ::
 (nat_lit 215, ⟨(.type "function"), none, (.func (PySem.W.fnOf "_law_world" "_law_world" (Z0n (top 42)) (Z0m (top 42)) (Z03 (top 42)) .none .none .none (.str "law_likepieces_k15_patterns_told" 418) none (.ref 214) .none)), #[]⟩) ::
 (nat_lit 216, eT) ::
 (nat_lit 218, ⟨(.type "tuple"), none, (.seq #[(.str "_law_feed_here" 513), (.str "_law_world_here" 514), (.str "_law_lets" 515), (.str "_law_way" 516)] 0), #[]⟩) ::
 (nat_lit 219, eT) ::
 (nat_lit 221, eC "_law_leaf" 510 511 512 159 3 3 216 217 (.ref 218) (.ref 219) 220 517 518) ::
 (nat_lit 222, ⟨(.type "function"), none, (.func (PySem.W.fnOf "_law_leaf" "_law_leaf" (Z0n (top 43)) (Z0m (top 43)) (Z03 (top 43)) .none .none .none (.str "law_likepieces_k15_patterns_told" 418) none (.ref 221) .none)), #[]⟩) ::
 (nat_lit 223, eT) ::
 (nat_lit 226, eC "_law_form" 520 521 522 170 4 3 223 224 .none .none 225 523 524) ::
 (nat_lit 227, ⟨(.type "function"), none, (.func (PySem.W.fnOf "_law_form" "_law_form" (Z0n (top 44)) (Z0m (top 44)) (Z03 (top 44)) .none .none .none (.str "law_likepieces_k15_patterns_told" 418) none (.ref 226) .none)), #[]⟩) ::
 (nat_lit 228, eT) ::
 (nat_lit 231, eC "_law_dense" 526 527 528 202 2 3 228 229 .none .none 230 529 530) ::
 (nat_lit 232, ⟨(.type "function"), none, (.func (PySem.W.fnOf "_law_dense" "_law_dense" (Z0n (top 45)) (Z0m (top 45)) (Z03 (top 45)) .none .none .none (.str "law_likepieces_k15_patterns_told" 418) none (.ref 231) .none)), #[]⟩) ::
 (nat_lit 233, eT) ::
 (nat_lit 236, eC "_law_turned_about" 532 533 534 208 2 3 233 234 .none .none 235 535 536) ::
 (nat_lit 237, ⟨(.type "function"), none, (.func (PySem.W.fnOf "_law_turned_about" "_law_turned_about" (Z0n (top 46)) (Z0m (top 46)) (Z03 (top 46)) .none .none .none (.str "law_likepieces_k15_patterns_told" 418) none (.ref 236) .none)), #[]⟩) ::
 (nat_lit 238, eT) ::
 (nat_lit 240, ⟨(.type "tuple"), none, (.seq #[(.str "_law_b" 541), (.str "_law_word" 542), (.str "_law_found" 543), (.str "_law_part" 544)] 0), #[]⟩) ::
 (nat_lit 241, eT) ::
 (nat_lit 243, eC "_law_numbers" 538 539 540 212 2 3 238 239 (.ref 240) (.ref 241) 242 545 546) ::
 (nat_lit 244, ⟨(.type "function"), none, (.func (PySem.W.fnOf "_law_numbers" "_law_numbers" (Z0n (top 47)) (Z0m (top 47)) (Z03 (top 47)) .none .none .none (.str "law_likepieces_k15_patterns_told" 418) none (.ref 243) .none)), #[]⟩) ::
 (nat_lit 245, eT) ::
 (nat_lit 248, eC "_law_closed" 548 549 550 219 2 3 245 246 .none .none 247 551 552) ::
 (nat_lit 249, ⟨(.type "function"), none, (.func (PySem.W.fnOf "_law_closed" "_law_closed" (Z0n (top 48)) (Z0m (top 48)) (Z03 (top 48)) .none .none .none (.str "law_likepieces_k15_patterns_told" 418) none (.ref 248) .none)), #[]⟩) ::
 (nat_lit 250, eT) ::
 (nat_lit 252, ⟨(.type "tuple"), none, (.seq #[(.str "_law_b" 557), (.str "_law_at" 558), (.str "_law_bad_here" 559), (.str "_law_inner" 560), (.str "_law_k" 561), (.str "_law_long" 562)] 0), #[]⟩) ::
 (nat_lit 253, eT) ::
 (nat_lit 255, eC "_law_bent" 554 555 556 225 3 3 250 251 (.ref 252) (.ref 253) 254 563 564) ::
 (nat_lit 256, ⟨(.type "function"), none, (.func (PySem.W.fnOf "_law_bent" "_law_bent" (Z0n (top 49)) (Z0m (top 49)) (Z03 (top 49)) .none .none .none (.str "law_likepieces_k15_patterns_told" 418) none (.ref 255) .none)), #[]⟩) ::
 (nat_lit 257, eT) ::
 (nat_lit 259, ⟨(.type "tuple"), none, (.seq #[(.str "_law_feed_here" 569), (.str "_law_one" 570), (.str "_law_some" 571)] 0), #[]⟩) ::
 (nat_lit 260, eT) ::
 (nat_lit 262, eC "_law_bad" 566 567 568 236 1 3 257 258 (.ref 259) (.ref 260) 261 572 573) ::
 (nat_lit 263, ⟨(.type "function"), none, (.func (PySem.W.fnOf "_law_bad" "_law_bad" (Z0n (top 50)) (Z0m (top 50)) (Z03 (top 50)) .none .none .none (.str "law_likepieces_k15_patterns_told" 418) none (.ref 262) .none)), #[]⟩) ::
 (nat_lit 264, eT) ::
 (nat_lit 266, ⟨(.type "tuple"), none, (.seq #[(.str "_law_thing" 578), (.str "_law_due" 579), (.str "_law_found" 580)] 0), #[]⟩) ::
 (nat_lit 267, eT) ::
 (nat_lit 269, eC "_law_told" 575 576 577 246 2 3 264 265 (.ref 266) (.ref 267) 268 581 582) ::
 (nat_lit 270, ⟨(.type "function"), none, (.func (PySem.W.fnOf "_law_told" "_law_told" (Z0n (top 51)) (Z0m (top 51)) (Z03 (top 51)) .none .none .none (.str "law_likepieces_k15_patterns_told" 418) none (.ref 269) .none)), #[]⟩) ::
 (nat_lit 271, eT) ::
 (nat_lit 273, ⟨(.type "tuple"), none, (.seq #[(.str "_law_script" 587), (.str "_law_feed_here" 588), (.str "_law_names_here" 589), (.str "_law_k" 590), (.str "_law_holes" 591), (.str "_law_world_here" 592), (.str "_law_form_here" 593), (.str "_law_seen" 594), (.str "_law_numbers_here" 595), (.str "_law_due" 596), (.str "_law_many" 597), (.str "_law_bent_here" 598), (.str "_law_thing" 599)] 0), #[]⟩) ::
 (nat_lit 274, eT) ::
 (nat_lit 276, eC "law" 584 585 586 249 1 3 271 272 (.ref 273) (.ref 274) 275 600 601) ::
 (nat_lit 277, ⟨(.type "function"), none, (.func (PySem.W.fnOf "law" "law" (Z0n (top 52)) (Z0m (top 52)) (Z03 (top 52)) .none .none .none (.str "law_likepieces_k15_patterns_told" 418) none (.ref 276) .none)), #[]⟩) :: []
def hdA : List Addr := [2, 3, 15, 16, 17, 19, 20, 22, 23, 24, 27, 28, 29, 31, 32, 34, 35, 36, 38, 39, 41, 42, 43, 45, 46, 48, 49, 50, 51, 52, 53, 54, 55, 56, 57, 58, 59, 60, 61, 62, 64, 65, 67, 68, 69, 72, 73, 74, 76, 77, 79, 80, 81, 84, 85, 86, 89, 90, 91, 94, 95, 96, 99, 100, 101, 103, 104, 106, 107, 108, 109, 110, 111, 112, 114, 115, 117, 118, 119, 121, 122, 124, 125, 126, 128, 129, 131, 132, 133, 136, 137, 138, 140, 141, 143, 144, 145, 147, 148, 150, 151, 152, 154, 155, 157, 158, 159, 161, 162, 164, 165, 166, 168, 169, 171, 172, 173, 175, 176, 178, 179, 180, 182, 183, 185, 186, 187, 189, 190, 192, 193, 194, 197, 198, 199, 202, 203, 204, 207, 208, 209, 211, 212, 214, 215, 216, 218, 219, 221, 222, 223, 226, 227, 228, 231, 232, 233, 236, 237, 238, 240, 241, 243, 244, 245, 248, 249, 250, 252, 253, 255, 256, 257, 259, 260, 262, 263, 264, 266, 267, 269, 270, 271, 273, 274, 276, 277]
abbrev hdL : List Str := ["RULES", "BARE_RULES"]
abbrev hdN : Nat := 3258
abbrev hdH : PySem.W.Hook := PySem.W.kHook hdK hdA (fun _ => by kernel_rfl)
theorem hdS : PySem.Challenge.rw_likepieces_k15_patterns_told.wellSaid = true := by decide +kernel
set_option maxHeartbeats 0 in
open PySem.W.Fast in
theorem hdT : PySem.W.LeftO (PySem.Challenge.rw_likepieces_k15_patterns_told).row.toRowW.prog hdQ hdL (fun s => PySem.W.xlAt hdQ [] s && PySem.W.recOk (PySem.W.RowW.records (PySem.Challenge.rw_likepieces_k15_patterns_told).row.toRowW) s) (PySem.W.Hook.obs hdH) (PySem.W.Hook.val hdH) hdN := by
 refine PySem.W.LeftO.of_split "special-get-raises" ?_
 intro w
 unfold PySem.W.fencedOpening PySem.W.topFrom
 rw [te10274390034422433532, te1435165496053646825, te14289696077712309145, te14082659384304107361, te4187177175401517315, te14364793385576792824, te8920871248978507458, te5923862056798008813]
 kernel_rfl
end K15
namespace L2
open PySem PySem.Spec PyProof.Rows
abbrev Key := Sum Int Str
def Zbv : Key -> Value -> Bool
 | .inl k, v => Value.isInt k v
 | .inr x, v => Value.isStrOf x v
def Zow (w : World) : Key -> Int
 | .inl k => hashInt k
 | .inr x => hashStr w x
theorem Z15 : ∀ {k : Key} {v : Value}, Zbv k v = true -> (∃ i t, k = Sum.inl i /\ v = Value.int i t) ∨ (∃ x t, k = Sum.inr x /\ v = Value.str x t)
 | .inl i, v, h => by
  obtain ⟨t, e⟩ := Value.isInt_shape (k := i) (v := v) h
  exact .inl ⟨i, t, rfl, e⟩
 | .inr x, v, h => by
  obtain ⟨t, e⟩ := Value.isStrOf_shape (x := x) (v := v) h
  exact .inr ⟨x, t, rfl, e⟩
theorem Zcy (i : Int) (t : Tok) : Zbv (.inl i) (.int i t) = true := by simp [Zbv, Value.isInt]
theorem Zcz (x : Str) (t : Tok) : Zbv (.inr x) (.str x t) = true := by simp [Zbv, Value.isStrOf]
theorem Zl0 (a b : Int) : decide ((Sum.inl a : Key) = Sum.inl b) = (a == b) := by
 by_cases e : a = b
 ·subst e; simp
 ·have h : ¬ (Sum.inl a : Key) = Sum.inl b := fun q => e (Sum.inl.inj q)
  rw [decide_eq_false h]
  exact (beq_eq_false_iff_ne.mpr e).symm
theorem Zl1 (a b : Str) : decide ((Sum.inr a : Key) = Sum.inr b) = decide (a = b) := by
 by_cases e : a = b
 ·subst e; simp
 ·have h : ¬ (Sum.inr a : Key) = Sum.inr b := fun q => e (Sum.inr.inj q)
  rw [decide_eq_false h, decide_eq_false e]
theorem Zl2 (a : Int) (b : Str) : decide ((Sum.inl a : Key) = Sum.inr b) = false := decide_eq_false (fun q => nomatch q)
theorem Zl3 (a : Str) (b : Int) : decide ((Sum.inr a : Key) = Sum.inl b) = false := decide_eq_false (fun q => nomatch q)
def Z0z (prog : Program) (w : World) : PySem.KeyKind prog w Key where
 is := Zbv
 hash := Zow w
 inj := fun v a b ha hb => by
  rcases Z15 ha with ⟨i, t, rfl, rfl⟩ | ⟨x, t, rfl, rfl⟩
  ·rcases Z15 hb with ⟨j, u, rfl, e⟩ | ⟨y, u, rfl, e⟩
   ·injection e with e1 _; rw [e1]
   ·exact nomatch e
  ·rcases Z15 hb with ⟨j, u, rfl, e⟩ | ⟨y, u, rfl, e⟩
   ·exact nomatch e
   ·injection e with e1 _; rw [e1]
 byValue := fun k v h => by
  rcases Z15 h with ⟨i, t, rfl, rfl⟩ | ⟨x, t, rfl, rfl⟩ <;> rfl
 pyHash := fun hv h => by
  rcases Z15 hv with ⟨i, t, rfl, rfl⟩ | ⟨x, t, rfl, rfl⟩
  ·exact wpAny_pyHash_int h
  ·exact wpAny_pyHash_str h
 eqBool := fun hu hv h => by
  rcases Z15 hu with ⟨i, t, rfl, rfl⟩ | ⟨x, t, rfl, rfl⟩
  ·rcases Z15 hv with ⟨j, u, rfl, rfl⟩ | ⟨y, u, rfl, rfl⟩
   ·rw [Zl0] at h; exact wpAny_eqBool_int h
   ·rw [Zl2] at h; exact SeqAt.EqAt.int_str i t y u _ _ _ _ h
  ·rcases Z15 hv with ⟨j, u, rfl, rfl⟩ | ⟨y, u, rfl, rfl⟩
   ·rw [Zl3] at h; exact SeqAt.EqAt.str_int x t j u _ _ _ _ h
   ·rw [Zl1] at h; exact wpAny_eqBool_str h
 «strs» := fun k x t v h => by
  rcases Z15 h with ⟨i, u, rfl, e⟩ | ⟨y, u, rfl, e⟩
  ·exact nomatch e
  ·injection e with e1 _
   subst e1
   cases v <;> rfl
theorem Z9h (prog : Program) (w : World) (i : Int) (t : Tok) : (Z0z prog w).is (.inl i) (.int i t) = true := Zcy i t
theorem Z3h (prog : Program) (w : World) (x : Str) (t : Tok) : (Z0z prog w).is (.inr x) (.str x t) = true := Zcz x t
inductive V where
 | non | bl (b : Bool) | int (i : Int) | str (x : Str) | byt (b : Array UInt8) | flt (b : UInt64) | ref (a : Addr) | ty (n : String)
 deriving DecidableEq
def RelV : V -> Value -> Prop
 | .non, u => u = Value.none
 | .bl b, u => u = Value.bool b
 | .int i, u => ∃ t, u = Value.int i t
 | .str x, u => ∃ t, u = Value.str x t
 | .byt b, u => ∃ t, u = Value.bytes b t
 | .flt b, u => ∃ t, u = Value.float b t
 | .ref a, u => u = Value.ref a
 | .ty n, u => u = Value.type n
abbrev Vals : List V -> List Value -> Prop := Paired RelV
theorem Vals.length {xs : List V} {us : List Value} (r : Vals xs us) : xs.length = us.length := Paired.length r
theorem Vals.get : ∀ {xs : List V} {us : List Value} {i : Nat} {x : V}, Vals xs us -> xs[i]? = some x -> ∃ u, us[i]? = some u /\ RelV x u
 | _, _, _, _, .nil, e => by simp at e
 | _, _, 0, _, .cons r _, e => by simp at e; subst e; exact ⟨_, rfl, r⟩
 | _, _, i + 1, x, .cons _ t, e => by
  obtain ⟨u, h1, h2⟩ := Vals.get (i := i) (x := x) t (by simpa using e)
  exact ⟨u, by simpa using h1, h2⟩
theorem Vals.set {x : V} {u : Value} (r : RelV x u) : ∀ {xs : List V} {us : List Value} (i : Nat), Vals xs us -> Vals (xs.set i x) (us.set i u)
 | _, _, _, .nil => .nil
 | _, _, 0, .cons _ t => .cons r t
 | _, _, i + 1, .cons q t => .cons q (Vals.set r i t)
theorem Vals.append : ∀ {xs ys : List V} {us ws : List Value}, Vals xs us -> Vals ys ws -> Vals (xs ++ ys) (us ++ ws)
 | _, _, _, _, .nil, s => s
 | _, _, _, _, .cons r t, s => .cons r (Vals.append t s)
theorem Vals.take : ∀ {xs : List V} {us : List Value} (n : Nat), Vals xs us -> Vals (xs.take n) (us.take n)
 | _, _, 0, _ => .nil
 | _, _, _ + 1, .nil => .nil
 | _, _, n + 1, .cons r t => .cons r (Vals.take n t)
theorem Vals.drop : ∀ {xs : List V} {us : List Value} (n : Nat), Vals xs us -> Vals (xs.drop n) (us.drop n)
 | _, _, 0, r => r
 | _, _, _ + 1, .nil => .nil
 | _, _, n + 1, .cons _ t => Vals.drop n t
def RelO : Option V -> Option Value -> Prop
 | some v, some u => RelV v u
 | none, none => True
 | _, _ => False
def KV {κ : Type} : List (κ × V) -> List (κ × Value) -> Prop := Paired fun (p : κ × V) (q : κ × Value) => p.1 = q.1 /\ RelV p.2 q.2
def kV : Key -> V
 | .inl i => .int i
 | .inr x => .str x
inductive HO where
 | lst (xs : List V)
 | tup (xs : List V)
 | dK (kvs : List (Key × V)) | dT (kvs : List (List Key × V))
 | set (S : Int -> Bool) (n : Nat)
 | ins (C dx : Addr) (fs : List (Str × V))
 | own (x : Addr)
 | xd (fs : List (Str × V))
 | met (f x : Addr)
 | rng (lo hi : Int)
 | frz (o : Obj) (u : HO)
 | tbl (ps : Array Value)
 | ext (φ : Heap -> Prop)
abbrev Hp := Addr -> Option HO
def upd (H : Hp) (a : Addr) (o : HO) : Hp := fun b => if b = a then some o else H b
theorem Z01 {H : Hp} {a : Addr} {o : HO} : upd H a o a = some o := by unfold upd; rw [if_pos rfl]
theorem Z0g {H : Hp} {a b : Addr} {o : HO} (h : b ≠ a) : upd H a o b = H b := by unfold upd; rw [if_neg h]
theorem Z3i {H : Hp} {a b : Addr} {o u : HO} (h : H a = some o) (h' : H b = some u) (d : o ≠ u) : a ≠ b := by
 intro e; subst e; rw [h] at h'; exact d (Option.some.inj h')
theorem Z0i {H : Hp} {a b : Addr} {o : HO} (h : H a = some o) (h' : H b = none) : a ≠ b := by
 intro e; subst e; rw [h] at h'; cases h'
section
variable (P : Program) (w : World)
def ObjOk (H : Hp) (h : Heap) (a : Addr) : HO -> Prop
 | .lst xs => xs.length <= sizeLine /\ ∃ (its : List Value) (n : Nat), Vals xs its /\ h.get? a = some { cls := .type "list", data := .seq its.toArray n }
 | .tup xs => xs.length <= sizeLine /\ ∃ its : List Value, Vals xs its /\ IsTup h a its.toArray
 | .dK kvs => kvs.length <= sizeLine /\ (a == sysModules) = false /\ ∃ vs, KV kvs vs /\ h.DictOf (Z0z P w) a vs
 | .dT kvs => kvs.length <= sizeLine /\ (a == sysModules) = false /\ ∃ xs : List (List Key × Addr × Value),
   Paired (fun (p : List Key × V) (q : List Key × Addr × Value) => p.1 = q.1 /\ H q.2.1 = some (.tup (p.1.map kV)) /\ RelV p.2 q.2.2) kvs xs ∧
   ∃ o es ep, h.get? a = some o /\ o.ExactDict /\ o.data = .dict es ep /\ es.toList = xs.map (entryOfKey (tupleKind (Z0z P w))) /\ (xs.map (·.1)).Nodup
 | .set S n => h.SetOf (intKind P w) a S n
 | .ins C dx fs => H dx = some (.own a) /\ fs.length <= 1000 /\ dx ≠ a /\ h.get? a = some (PySem.W.instObj C dx) ∧
   ∃ mA, h.Ns1 dx mA /\ (∀ f, RelO (fs.lookup f) (mA f)) /\ PySem.Within mA (fs.map (·.1))
 | .own _ => ∃ o, h.get? a = some o
 | .xd fs => ∃ mA, h.Ns1 a mA /\ ∀ f, RelO (fs.lookup f) (mA f)
 | .rng lo hi => ∃ t u v, h.get? a = some { cls := .type "range", data := .fields #[.int lo t, .int hi u, .int 1 v] }
 | .frz o u => h.get? a = some o /\ ObjOk H h a u
 | .tbl ps => h.get? a = some { cls := .none, data := .fields ps }
 | .met f x => h.get? a = some (PySem.W.methodObj (.ref f) (.ref x))
 | .ext φ => φ h /\ (∃ o, h.get? a = some o) /\ ∀ h1 h2 : Heap, φ h1 -> (∀ o, h1.get? a = some o -> h2.get? a = some o) -> φ h2
def HOk (H : Hp) (h : Heap) : Prop := ∀ a o, H a = some o -> ObjOk P w H h a o
end
section
variable {P : Program} {w : World} {H H' : Hp} {h h' : Heap} {a : Addr} {o : HO}
theorem ObjOk.lt (x : ObjOk P w H h a o) : a < h.objs.size := by
 cases o with
 | lst xs => obtain ⟨_, _, _, _, e⟩ := x; exact Heap.lt_size e
 | tup xs => obtain ⟨_, _, _, p⟩ := x; exact p.lt
 | dK kvs => obtain ⟨_, _, _, _, o, _, _, e, _⟩ := x; exact Heap.lt_size e
 | dT kvs => obtain ⟨_, _, _, _, o, _, _, e, _⟩ := x; exact Heap.lt_size e
 | set S n => obtain ⟨o, _, _, _, e, _⟩ := x; exact Heap.lt_size e
 | ins C dx fs => obtain ⟨_, _, _, e, _⟩ := x; exact Heap.lt_size e
 | own y => obtain ⟨_, e⟩ := x; exact Heap.lt_size e
 | xd fs => obtain ⟨_, ⟨_, _, _, e, _⟩, _⟩ := x; exact Heap.lt_size e
 | rng lo hi => obtain ⟨_, _, _, e⟩ := x; exact Heap.lt_size e
 | frz ob u => obtain ⟨e, _⟩ := x; exact Heap.lt_size e
 | tbl ps => exact Heap.lt_size (show h.get? a = some _ from x)
 | met f y => exact Heap.lt_size (show h.get? a = some _ from x)
 | ext φ => obtain ⟨_, ⟨_, e⟩, _⟩ := x; exact Heap.lt_size e
theorem Paired.mapP {α β : Type} {F G : α -> β -> Prop} : ∀ {l₁ : List α} {l₂ : List β}, Paired F l₁ l₂ -> (∀ a b, F a b -> G a b) -> Paired G l₁ l₂
 | _, _, .nil, _ => .nil
 | _, _, .cons r t, f => .cons (f _ _ r) (Paired.mapP t f)
theorem ObjOk.stay (x : ObjOk P w H h a o) (k : ∀ b u, (b = a ∨ H b = some (.own a)) -> h.get? b = some u -> h'.get? b = some u)
  (ho : ∀ b, H b = some (.own a) -> H' b = some (.own a)) (ht : ∀ b xs, H b = some (.tup xs) -> H' b = some (.tup xs)) : ObjOk P w H' h' a o := by
 induction o with
 | lst xs => obtain ⟨z, its, n, r, e⟩ := x; exact ⟨z, its, n, r, k _ _ (.inl rfl) e⟩
 | tup xs => obtain ⟨z, its, r, ob, e, c⟩ := x; exact ⟨z, its, r, ob, k _ _ (.inl rfl) e, c⟩
 | dK kvs => obtain ⟨z, y, vs, r, ob, es, ep, e, c⟩ := x; exact ⟨z, y, vs, r, ob, es, ep, k _ _ (.inl rfl) e, c⟩
 | dT kvs =>
  obtain ⟨z, y, xs, r, ob, es, ep, e, c⟩ := x
  exact ⟨z, y, xs, Paired.mapP r fun p q z => ⟨z.1, ht _ _ z.2.1, z.2.2⟩, ob, es, ep, k _ _ (.inl rfl) e, c⟩
 | set S n => obtain ⟨ob, es, ep, t, e, c⟩ := x; exact ⟨ob, es, ep, t, k _ _ (.inl rfl) e, c⟩
 | ins C dx fs =>
  obtain ⟨d, z, ne, e, mA, ⟨od, es, ep, e2, c⟩, r⟩ := x
  exact ⟨ho _ d, z, ne, k _ _ (.inl rfl) e, mA, ⟨od, es, ep, k _ _ (.inr d) e2, c⟩, r⟩
 | own y => obtain ⟨ob, e⟩ := x; exact ⟨ob, k _ _ (.inl rfl) e⟩
 | xd fs => obtain ⟨mA, ⟨od, es, ep, e, c⟩, r⟩ := x; exact ⟨mA, ⟨od, es, ep, k _ _ (.inl rfl) e, c⟩, r⟩
 | rng lo hi => obtain ⟨t, u, v, e⟩ := x; exact ⟨t, u, v, k _ _ (.inl rfl) e⟩
 | frz ob u ih => obtain ⟨e, q⟩ := x; exact ⟨k _ _ (.inl rfl) e, ih q⟩
 | tbl ps =>
  have e : h.get? a = some { cls := .none, data := .fields ps } := x
  show h'.get? a = some { cls := .none, data := .fields ps }
  exact k a _ (.inl rfl) e
 | met f y =>
  have e : h.get? a = some (PySem.W.methodObj (.ref f) (.ref y)) := x
  show h'.get? a = some (PySem.W.methodObj (.ref f) (.ref y))
  exact k a _ (.inl rfl) e
 | ext φ => obtain ⟨p, ⟨o, e⟩, st⟩ := x; exact ⟨st _ _ p fun o q => k _ _ (.inl rfl) q, ⟨o, k _ _ (.inl rfl) e⟩, st⟩
theorem HOk.lt (x : HOk P w H h) (e : H a = some o) : a < h.objs.size := (x a o e).lt
theorem HOk.fresh (x : HOk P w H h) (e : h.objs.size <= a) : H a = none := by
 cases q : H a with
 | none => rfl
 | some u => exact absurd (Nat.lt_of_lt_of_le (x.lt q) e) (Nat.lt_irrefl _)
theorem HOk.kept (x : HOk P w H h) (k : ∀ b u, h.get? b = some u -> h'.get? b = some u) : HOk P w H h' := fun a o e =>
 (x a o e).stay (fun b u _ q => k b u q) (fun _ q => q) fun _ _ q => q
theorem HOk.laid (x : HOk P w H h) (k : ∀ b u, h.get? b = some u -> h'.get? b = some u) (hp : h.objs.size <= a) (new : ObjOk P w (upd H a o) h' a o) : HOk P w (upd H a o) h' := fun b u e => by
 have hn := x.fresh hp
 by_cases hb : b = a
 ·subst hb; rw [Z01] at e; cases e; exact new
 ·rw [Z0g hb] at e
  exact (x b u e).stay (fun c v _ q => k c v q) (fun c q => by rw [Z0g (Z0i q hn)]; exact q) fun c xs q => by rw [Z0g (Z0i q hn)]; exact q
end
def Rd (H : Hp) (a : Addr) (u : HO) : Prop := H a = some u ∨ ∃ o, H a = some (.frz o u)
theorem Rd.ok {P : Program} {w : World} {H : Hp} {h : Heap} {a : Addr} {u : HO} (r : Rd H a u) (x : HOk P w H h) : ObjOk P w H h a u := by
 rcases r with r | ⟨o, r⟩
 ·exact x a u r
 ·obtain ⟨_, q⟩ := x a _ r
  exact q
def Mut : Option HO -> Prop
 | some (.lst _) => True
 | some (.dK _) => True
 | some (.dT _) => True
 | some (.set _ _) => True
 | some (.ins _ _ _) => True
 | some (.ext _) => True
 | _ => False
section
variable {P : Program} {w : World} {H : Hp} {h h' : Heap} {x e : Addr} {o' : HO}
theorem HOk.write (ok : HOk P w H h) (mu : Mut (H x)) (he : e = x ∨ H e = some (.own x)) (k : ∀ b u, b ≠ e -> h.get? b = some u -> h'.get? b = some u) (heo : ∃ u, h'.get? e = some u)
  (new : ObjOk P w (upd H x o') h' x o') : HOk P w (upd H x o') h' := fun b u q => by
 have nown : ∀ c y, H c = some (.own y) -> c ≠ x := fun c y r z => by subst z; rw [r] at mu; exact mu
 have ntup : ∀ c xs, H c = some (.tup xs) -> c ≠ x := fun c xs r z => by subst z; rw [r] at mu; exact mu
 by_cases hb : b = x
 ·subst hb; rw [Z01] at q; cases q; exact new
 ·rw [Z0g hb] at q
  by_cases hbe : b = e
  ·have q' : H b = some (.own x) := by
    rcases he with z | z
    ·exact absurd (hbe.trans z) hb
    ·rw [hbe]; exact z
   rw [q] at q'; cases q'
   obtain ⟨v, hv⟩ := heo
   exact ⟨v, by rw [hbe]; exact hv⟩
  ·refine (ok b u q).stay (fun c v hc r => k c v ?_ r) (fun c r => by rw [Z0g (nown c b r)]; exact r) fun c xs r => by rw [Z0g (ntup c xs r)]; exact r
   rcases hc with rfl | hc
   ·exact hbe
   ·rintro rfl
    rcases he with z | z
    ·exact nown c b hc z
    ·rw [hc] at z; cases z; exact hb rfl
end
structure Un (fs ex : List Addr) (H H' : Hp) (h h' : Heap) : Prop where
 keep : ∀ b o, h.get? b = some o -> H b = none -> b ∉ fs -> b ∉ ex -> h'.get? b = some o
 slot : ∀ b o, h.get? b = some o -> H b = none -> b ∈ fs -> b ∉ ex -> ∃ sl, h'.get? b = some { o with slots := sl }
 free : ∀ b o, h.get? b = some o -> H b = none -> b ∉ ex -> H' b = none
 there : ∀ b o, h.get? b = some o -> b ∉ ex -> ∃ o', h'.get? b = some o'
 tups : ∀ b xs, H b = some (.tup xs) -> H' b = some (.tup xs)
 frzs : ∀ b o u, H b = some (.frz o u) -> H' b = some (.frz o u)
 tbls : ∀ b ps, H b = some (.tbl ps) -> ∃ more, H' b = some (.tbl (ps ++ more))
section
variable {fs fs' ex ex' : List Addr} {H H1 H2 : Hp} {h h1 h2 h' : Heap} {a x e : Addr} {o : HO}
theorem Un.any (u : Un fs ex H H1 h h1) {b : Addr} {ob : Obj} (q : h.get? b = some ob) (n : H b = none) (hx : b ∉ ex) : ∃ sl, h1.get? b = some { ob with slots := sl } := by
 by_cases hb : b ∈ fs
 ·exact u.slot b ob q n hb hx
 ·exact ⟨ob.slots, u.keep b ob q n hb hx⟩
theorem Un.kept (k : ∀ b u, h.get? b = some u -> h'.get? b = some u) : Un fs ex H H h h' :=
 ⟨fun b ob q _ _ _ => k b ob q, fun b ob q _ _ _ => ⟨ob.slots, k b ob q⟩, fun _ _ _ n _ => n, fun b ob q _ => ⟨ob, k b ob q⟩, fun _ _ q => q, fun _ _ _ q => q, fun _ ps q => ⟨#[], by rw [q]; simp⟩⟩
theorem Un.refl : Un fs ex H H h h := Un.kept fun _ _ q => q
theorem Un.laid (k : ∀ b u, h.get? b = some u -> h'.get? b = some u) (hp : h.objs.size <= a) (hn : H a = none) : Un fs ex H (upd H a o) h h' where
 keep := fun b u q _ _ _ => k b u q
 slot := fun b u q _ _ _ => ⟨u.slots, k b u q⟩
 free := fun b u q n _ => by rw [Z0g (Nat.ne_of_lt (Nat.lt_of_lt_of_le (Heap.lt_size q) hp))]; exact n
 there := fun b u q _ => ⟨u, k b u q⟩
 tups := fun b xs q => by rw [Z0g (Z0i q hn)]; exact q
 frzs := fun b u xs q => by rw [Z0g (Z0i q hn)]; exact q
 tbls := fun b ps q => ⟨#[], by rw [Z0g (Z0i q hn), q]; simp⟩
theorem Un.write (mu : Mut (H x)) (he : e = x ∨ H e = some (.own x)) (k : ∀ b u, b ≠ e -> h.get? b = some u -> h'.get? b = some u) (heo : ∃ u, h'.get? e = some u) : Un fs ex H (upd H x o) h h' := by
 have hx : ∀ b, H b = none -> b ≠ x := fun b n z => by subst z; rw [n] at mu; exact mu
 have hb : ∀ b, H b = none -> b ≠ e := fun b n z => by
  subst z
  rcases he with r | r
  ·exact hx b n r
  ·rw [n] at r; cases r
 have hm : ∀ b u, H b = some u -> ¬ Mut (some u) -> b ≠ x := fun b u q nm z => by subst z; rw [q] at mu; exact nm mu
 refine ⟨fun b u q n _ _ => k b u (hb b n) q, fun b u q n _ _ => ⟨u.slots, k b u (hb b n) q⟩, fun b u q n _ => by rw [Z0g (hx b n)]; exact n, fun b u q _ => ?_,
  fun b xs q => by rw [Z0g (hm b _ q fun z => z)]; exact q, fun b u xs q => by rw [Z0g (hm b _ q fun z => z)]; exact q, fun b ps q => ⟨#[], by rw [Z0g (hm b _ q fun z => z), q]; simp⟩⟩
 by_cases hbe : b = e
 ·subst hbe; exact heo
 ·exact ⟨u, k b u hbe q⟩
end
def trk (h : Heap) (H : Hp) : List Addr := (List.range h.objs.size).filter fun a => (H a).isSome
def Zfp (h : Heap) (H : Hp) : Heap := PySem.W.hideAll h (trk h H)
theorem Zd0 (h : Heap) (H : Hp) : (Zfp h H).objs.size = h.objs.size := PySem.W.hideAll_size _ _
theorem Zfq {h : Heap} {H : Hp} {b : Addr} {o : Obj} (e : h.get? b = some o) (n : H b = none) : (Zfp h H).get? b = some o :=
 PySem.W.hideAll_get _ e fun hm => by
  have q : (H b).isSome = true := (List.mem_filter.mp hm).2
  rw [n] at q; simp at q
theorem Zik {h : Heap} {H : Hp} {b : Addr} {o : Obj} (e : (Zfp h H).get? b = some o) : h.get? b = some o /\ H b = none := by
 have e' : h.get? b = some o := PySem.W.of_hideAll (trk h H) e
 refine ⟨e', ?_⟩
 cases q : H b with
 | none => rfl
 | some x =>
  have hm : b ∈ trk h H := List.mem_filter.mpr ⟨List.mem_range.mpr (Heap.lt_size e'), by simp [q]⟩
  have z : (Zfp h H).get? b = none := PySem.W.hideAll_none (trk h H) hm
  rw [z] at e; cases e
structure Mod (K : PySem.W.Frag) (mg : Str -> Option Value) (base : Heap) : Prop where
 kin : K.In base
 glob : base.Ns mainGlobals mg
 blt : ∃ mb, base.Ns builtinsNs mb /\ ∀ x : Str, x ≠ "__name__" -> mb x = bootBuiltins x
 nolimit : base.NoLimit
structure Cx where
 prog : Program
 w : World
 K : PySem.W.Frag
 mg : Str -> Option Value
 base : Heap
 A : Around
 N : List Str
 s₀ : Shared
 H₀ : Hp
 env : Env
 outer : List Env
 stack : List Env
 ex : List Addr
 fn : Str -> Bool
 calm : Bool
 pn : List (Addr × Obj)
 xe : Value -> Shared -> Prop
def frs (l : List Env) : List Addr := l.filterMap (·.frame)
abbrev Cx.fs (X : Cx) : List Addr := frs X.outer
def Vis (sc : Scope) (x : Str) : Prop := sc.names.lookup x = some .local ∨ sc.names.lookup x = some .cell ∨ sc.names.lookup x = some .free
def Loc (sc : Scope) (x : Str) : Prop := sc.names.lookup x = some .local ∨ sc.names.lookup x = some .cell
def Zox (env : Env) (h : Heap) (m : Str -> Option Value) (x : Str) (u : Value) : Prop :=
 (env.kindOf x = some .local /\ m x = some u) ∨ ((env.kindOf x = some .cell ∨ env.kindOf x = some .free) /\ ∃ c, env.cells.lookup x = some c /\ h.IsCell c (some u))
structure Cx.Ok (X : Cx) : Prop where
 mod : Mod X.K X.mg X.base
 kind : X.env.scope.kind = .function
 glob : X.env.globals = mainGlobals
 blt : X.env.builtins = builtinsNs
 above : X.s₀.heap.objs.size <= X.env.locals
 inj : ∀ x y c, X.env.cells.lookup x = some c -> X.env.cells.lookup y = some c -> x = y
 has : ∀ x, (X.env.kindOf x = some .cell ∨ X.env.kindOf x = some .free) -> ∃ c, X.env.cells.lookup x = some c
 cab : ∀ x c, X.fn x = true -> X.env.cells.lookup x = some c -> X.s₀.heap.objs.size <= c
 hd : X.calm = true -> X.A.handled = none
 frames : X.A.frames = some X.stack
 stk : X.stack = X.outer ∨ (X.stack = X.env :: X.outer /\ X.env.frame = some X.env.locals)
 exf : ∀ b ∈ X.ex, b ≠ X.env.locals /\ ∀ x c, X.env.cells.lookup x = some c -> c ≠ b
 bs : ∀ b o, X.base.get? b = some o -> X.s₀.heap.get? b = some o /\ X.H₀ b = none
 bsz : X.base.objs.size <= X.s₀.heap.objs.size
 noex : ∀ b o, X.base.get? b = some o -> b ∉ X.ex
 exfs : ∀ b ∈ X.ex, b ∉ X.fs
 funs : X.s₀.heap.FunFrames X.base X.outer
 frf : ∀ b ∈ X.fs, X.H₀ b = none
structure Inv (X : Cx) (pins : List (Addr × Obj)) (σ : List (Option V)) (H : Hp) (s : Shared) : Prop where
 ok : X.Ok
 os : s.os = X.s₀.os
 bare : AllBare s.gens
 base : Un X.fs X.ex X.H₀ H X.s₀.heap s.heap
 loc : ∃ m, s.heap.Ns X.env.locals m /\ ∀ (i : Nat) (x : Str) (v : V), X.N[i]? = some x -> σ[i]? = some (some v) -> Vis X.env.scope x -> ∃ u, RelV v u /\ Zox X.env s.heap m x u
 cell : ∀ x c, X.env.cells.lookup x = some c -> ∃ v, s.heap.IsCell c v
 free : H X.env.locals = none
 freeC : ∀ x c, X.env.cells.lookup x = some c -> H c = none
 pin : ∀ p ∈ X.pn ++ pins, s.heap.get? p.1 = some p.2 /\ H p.1 = none /\ p.1 ≠ X.env.locals /\ p.1 ∉ X.fs /\ ∀ v, p.2.data ≠ .cell v
 hok : HOk X.prog X.w H s.heap
 len : σ.length = X.N.length
section
variable {X : Cx} {pins : List (Addr × Obj)} {σ : List (Option V)} {H H' : Hp} {s : Shared} {h' : Heap}
theorem Cx.Ok.nofr (ok : X.Ok) {b : Addr} {o : Obj} (e : X.base.get? b = some o) : b ∉ X.fs := fun hb => by
 have := (ok.funs.mem hb).1
 rw [e] at this; cases this
theorem Inv.bs (I : Inv X pins σ H s) : ∀ b o, X.base.get? b = some o -> s.heap.get? b = some o /\ H b = none := fun b o e =>
 ⟨I.base.keep b o (I.ok.bs b o e).1 (I.ok.bs b o e).2 (I.ok.nofr e) (I.ok.noex b o e), I.base.free b o (I.ok.bs b o e).1 (I.ok.bs b o e).2 (I.ok.noex b o e)⟩
theorem Inv.bk (I : Inv X pins σ H s) : ∀ b o, X.base.get? b = some o -> s.heap.get? b = some o := fun b o e => (I.bs b o e).1
theorem Inv.mod (I : Inv X pins σ H s) : Mod X.K X.mg X.base := I.ok.mod
theorem Inv.kIn (I : Inv X pins σ H s) : X.K.In s.heap := I.ok.mod.kin.keeps I.bk
theorem Inv.lt (I : Inv X pins σ H s) : X.env.locals < s.heap.objs.size := let ⟨_, hn, _⟩ := I.loc; hn.lt
theorem Inv.sz (I : Inv X pins σ H s) : X.s₀.heap.objs.size <= s.heap.objs.size := Nat.le_trans I.ok.above (Nat.le_of_lt I.lt)
theorem Inv.nofs (I : Inv X pins σ H s) {a : Addr} (h : s.heap.objs.size <= a) : a ∉ X.fs := fun hb => by
 obtain ⟨_, o, ho, _⟩ := I.ok.funs.mem hb
 exact absurd (Nat.lt_of_lt_of_le (Heap.lt_size ho) (Nat.le_trans I.sz h)) (Nat.lt_irrefl _)
theorem Inv.cne (I : Inv X pins σ H s) : ∀ x c, X.env.cells.lookup x = some c -> c ≠ X.env.locals := fun x c e z => by
 obtain ⟨v, o, ho, hd⟩ := I.cell x c e
 obtain ⟨m, ⟨o', es, ep, ho', hd', _⟩, _⟩ := I.loc
 rw [z, ho'] at ho; cases ho; rw [hd'] at hd; cases hd
theorem Inv.funs (I : Inv X pins σ H s) : s.heap.FunFrames X.base X.outer := by
 have all : ∀ (l : List Env), (∀ b ∈ frs l, b ∈ X.fs) -> X.s₀.heap.FunFrames X.base l -> s.heap.FunFrames X.base l := by
  intro l
  induction l with
  | nil => intro _ _; trivial
  | cons env r ih =>
   intro hs hl
   obtain ⟨hk, ⟨L, o, hf, hn, ho, hd⟩, hr⟩ := hl
   have hL : L ∈ X.fs := hs L (by unfold frs; rw [List.filterMap_cons, hf]; exact List.mem_cons_self)
   obtain ⟨sl, e⟩ := I.base.slot L o ho (I.ok.frf L hL) hL fun z => I.ok.exfs L z hL
   exact ⟨hk, ⟨L, _, hf, hn, e, hd⟩, ih (fun b hb => hs b (by unfold frs; rw [List.filterMap_cons, hf]; exact List.mem_cons_of_mem _ hb)) hr⟩
 exact all X.outer (fun _ hb => hb) I.ok.funs
theorem Inv.stack (I : Inv X pins σ H s) : s.heap.FunFrames X.base X.stack := by
 rcases I.ok.stk with e | ⟨e, hf⟩
 ·rw [e]; exact I.funs
 ·rw [e]
  obtain ⟨m, hn, _⟩ := I.loc
  refine .cons (by rw [I.ok.kind]; decide) hf hn ?_ I.funs
  exact Heap.get?_none_of_le (Nat.le_trans I.ok.bsz I.ok.above)
theorem Inv.stkSub (I : Inv X pins σ H s) : ∀ b ∈ frs X.stack, b ∈ X.env.locals :: X.fs := fun b hb => by
 rcases I.ok.stk with e | ⟨e, hf⟩
 ·rw [e] at hb; exact List.mem_cons_of_mem _ hb
 ·rw [e] at hb
  unfold frs at hb
  rw [List.filterMap_cons, hf] at hb
  exact hb
theorem Inv.stkFree (I : Inv X pins σ H s) : ∀ b ∈ frs X.stack, H b = none := fun b hb => by
 rcases List.mem_cons.mp (I.stkSub b hb) with e | hb
 ·rw [e]; exact I.free
 ·obtain ⟨_, o, ho, _⟩ := I.ok.funs.mem hb
  exact I.base.free b o ho (I.ok.frf b hb) fun z => I.ok.exfs b z hb
theorem Inv.step {g' : Array GenState} {t' : Nat} {d' : Drawn} {ch : List Addr} (I : Inv X pins σ H s)
  (hch : ∀ b ∈ ch, (b ∈ X.ex ∨ X.s₀.heap.objs.size <= b) /\ b ≠ X.env.locals /\ (∀ x c, X.env.cells.lookup x = some c -> c ≠ b) /\ ∀ p ∈ X.pn ++ pins, p.1 ≠ b)
  (keep : ∀ b o, b ≠ X.env.locals -> b ∉ X.fs -> b ∉ ch -> s.heap.get? b = some o -> H b = none -> h'.get? b = some o)
  (slot : ∀ b o, b ≠ X.env.locals -> b ∈ X.fs -> b ∉ ch -> s.heap.get? b = some o -> H b = none -> ∃ sl, h'.get? b = some { o with slots := sl }) (free : ∀ b o, b ∉ ch -> s.heap.get? b = some o -> H b = none -> H' b = none)
  (there : ∀ b o, b ∉ ch -> s.heap.get? b = some o -> ∃ o', h'.get? b = some o')
  (tups : ∀ b xs, H b = some (.tup xs) -> H' b = some (.tup xs)) (frzs : ∀ b o u, H b = some (.frz o u) -> H' b = some (.frz o u)) (tbls : ∀ b ps, H b = some (.tbl ps) -> ∃ more, H' b = some (.tbl (ps ++ more)))
  (ns : ∀ m, s.heap.Ns X.env.locals m -> h'.Ns X.env.locals m) (hok : HOk X.prog X.w H' h') (hg : AllBare g') :
  Inv X pins σ H' { s with heap := h', gens := g', drawn := d', toks := t' } := by
 have neL : ∀ b o, X.s₀.heap.get? b = some o -> b ≠ X.env.locals := fun b o e => Nat.ne_of_lt (Nat.lt_of_lt_of_le (Heap.lt_size e) I.ok.above)
 have neC : ∀ b o, X.s₀.heap.get? b = some o -> b ∉ X.ex -> b ∉ ch := fun b o e hx hb => by
  rcases (hch b hb).1 with z | z
  ·exact hx z
  ·exact absurd (Nat.lt_of_lt_of_le (Heap.lt_size e) z) (Nat.lt_irrefl _)
 have cellK : ∀ x c, X.env.cells.lookup x = some c -> ∀ v, s.heap.IsCell c v -> h'.IsCell c v := fun x c e v ⟨o, ho, hd⟩ => by
  have nch : c ∉ ch := fun z => (hch c z).2.2.1 x c e rfl
  by_cases hc : c ∈ X.fs
  ·obtain ⟨sl, q⟩ := slot c o (I.cne x c e) hc nch ho (I.freeC x c e)
   exact ⟨_, q, hd⟩
  ·exact ⟨o, keep c o (I.cne x c e) hc nch ho (I.freeC x c e), hd⟩
 refine ⟨I.ok, I.os, hg, ⟨fun b o e n hb hx => ?_, fun b o e n hb hx => ?_, fun b o e n hx => ?_, fun b o e hx => ?_, fun b xs e => tups b xs (I.base.tups b xs e), fun b o xs e => frzs b o xs (I.base.frzs b o xs e), fun b ps e => ?_⟩, ?_, fun x c e => ?_, ?_, fun x c e => ?_, fun p hp => ?_, hok, I.len⟩
 ·exact keep b o (neL b o e) hb (neC b o e hx) (I.base.keep b o e n hb hx) (I.base.free b o e n hx)
 ·obtain ⟨sl, e1⟩ := I.base.slot b o e n hb hx
  obtain ⟨sl', e2⟩ := slot b _ (neL b o e) hb (neC b o e hx) e1 (I.base.free b o e n hx)
  exact ⟨sl', e2⟩
 ·obtain ⟨o', e1⟩ := I.base.there b o e hx
  exact free b o' (neC b o e hx) e1 (I.base.free b o e n hx)
 ·obtain ⟨o', e1⟩ := I.base.there b o e hx
  exact there b o' (neC b o e hx) e1
 ·obtain ⟨m1, e1⟩ := I.base.tbls b ps e
  obtain ⟨m2, e2⟩ := tbls b _ e1
  exact ⟨m1 ++ m2, by rw [e2, Array.append_assoc]⟩
 ·obtain ⟨m, hn, hl⟩ := I.loc
  refine ⟨m, ns m hn, fun i x v e1 e2 e3 => ?_⟩
  obtain ⟨u, r, l⟩ := hl i x v e1 e2 e3
  refine ⟨u, r, ?_⟩
  rcases l with l | ⟨k, c, e, z⟩
  ·exact .inl l
  ·exact .inr ⟨k, c, e, cellK x c e _ z⟩
 ·obtain ⟨v, z⟩ := I.cell x c e
  exact ⟨v, cellK x c e v z⟩
 ·obtain ⟨m, ⟨o, _, _, ho, _⟩, _⟩ := I.loc
  exact free _ o (fun z => (hch _ z).2.1 rfl) ho I.free
 ·obtain ⟨v, o, ho, hd⟩ := I.cell x c e
  exact free c o (fun z => (hch c z).2.2.1 x c e rfl) ho (I.freeC x c e)
 ·obtain ⟨e, n, ne, nf, d⟩ := I.pin p hp
  have nch : p.1 ∉ ch := fun z => (hch p.1 z).2.2.2 p hp rfl
  exact ⟨keep p.1 p.2 ne nf nch e n, free p.1 p.2 nch e n, ne, nf, d⟩
theorem Inv.un {t' : Nat} (I : Inv X pins σ H s) (u : Un X.fs [] H H' s.heap h') (hok : HOk X.prog X.w H' h') : Inv X pins σ H' { s with heap := h', toks := t' } := by
 obtain ⟨m, ⟨o, es, ep, ho, r⟩, _⟩ := id I.loc
 obtain ⟨sl, hL⟩ := u.any ho I.free (by simp)
 exact I.step (g' := s.gens) (d' := s.drawn) (ch := []) (fun _ z => nomatch z) (fun b o _ hb _ e n => u.keep b o e n hb (by simp)) (fun b o _ hb _ e n => u.slot b o e n hb (by simp)) (fun b o _ e n => u.free b o e n (by simp)) (fun b o _ e => u.there b o e (by simp)) u.tups u.frzs u.tbls (fun m' hm => by
  obtain ⟨o', es', ep', ho', r'⟩ := hm
  rw [ho] at ho'; cases ho'
  exact ⟨_, es', ep', hL, r'⟩) hok I.bare
theorem Inv.call {g' : Array GenState} {t' : Nat} {d' : Drawn} {ch : List Addr} (I : Inv X pins σ H s) (u : Un (frs X.stack) ch H H' s.heap h') (hok : HOk X.prog X.w H' h') (hg : AllBare g')
  (hch : ∀ b ∈ ch, (b ∈ X.ex ∨ X.s₀.heap.objs.size <= b) /\ b ≠ X.env.locals /\ (∀ x c, X.env.cells.lookup x = some c -> c ≠ b) /\ ∀ p ∈ X.pn ++ pins, p.1 ≠ b) :
  Inv X pins σ H' { s with heap := h', gens := g', drawn := d', toks := t' } := by
 obtain ⟨m, ⟨o, es, ep, ho, r⟩, _⟩ := id I.loc
 obtain ⟨sl, hL⟩ := u.any ho I.free fun z => (hch _ z).2.1 rfl
 exact I.step (ch := ch) hch (fun b o hL hb hc e n => u.keep b o e n (fun z => (List.mem_cons.mp (I.stkSub b z)).elim hL hb) hc) (fun b o _ _ hc e n => u.any e n hc) (fun b o hc e n => u.free b o e n hc) (fun b o hc e => u.there b o e hc) u.tups u.frzs u.tbls (fun m' hm => by
  obtain ⟨o', es', ep', ho', r'⟩ := hm
  rw [ho] at ho'; cases ho'
  exact ⟨_, es', ep', hL, r'⟩) hok hg
theorem Inv.turned {t' : Nat} {it : Addr} (I : Inv X pins σ H s) (k : ∀ b o, b ≠ it -> s.heap.get? b = some o -> h'.get? b = some o) (hn : H it = none) (hL : it ≠ X.env.locals)
  (h1 : it ∈ X.ex ∨ X.s₀.heap.objs.size <= it) (h2 : ∀ x c, X.env.cells.lookup x = some c -> c ≠ it) (h3 : ∀ p ∈ X.pn ++ pins, p.1 ≠ it) : Inv X pins σ H { s with heap := h', toks := t' } := by
 have nit : ∀ b u, H b = some u -> b ≠ it := fun b u e z => by rw [z, hn] at e; cases e
 refine I.step (g' := s.gens) (d' := s.drawn) (ch := [it]) (fun b hb => ?_) (fun b o _ _ hc e _ => k b o (fun z => hc (by simp [z])) e) (fun b o _ _ hc e _ => ⟨o.slots, k b o (fun z => hc (by simp [z])) e⟩) (fun _ _ _ _ n => n)
  (fun b o hc e => ⟨o, k b o (fun z => hc (by simp [z])) e⟩) (fun _ _ e => e) (fun _ _ _ e => e) (fun b ps e => ⟨#[], by rw [e]; simp⟩) (fun m hm => ?_) (fun b u e => ?_) I.bare
 ·have e : b = it := by simpa using hb
  subst e
  exact ⟨h1, hL, h2, h3⟩
 ·obtain ⟨o, es, ep, ho, r⟩ := hm
  exact ⟨o, es, ep, k _ o (Ne.symm hL) ho, r⟩
 ·refine (I.hok b u e).stay (fun c v hc q => k c v ?_ q) (fun _ q => q) fun _ _ q => q
  rcases hc with z | z
  ·rw [z]; exact nit b u e
  ·exact nit c _ z
theorem Inv.tok (I : Inv X pins σ H s) (t : Nat) : Inv X pins σ H { s with toks := t } := I.un (h' := s.heap) (t' := t) Un.refl I.hok
theorem Inv.kept {t' : Nat} (I : Inv X pins σ H s) (k : ∀ b u, s.heap.get? b = some u -> h'.get? b = some u) : Inv X pins σ H { s with heap := h', toks := t' } := I.un (Un.kept k) (I.hok.kept k)
theorem Inv.laid {a : Addr} {o : HO} {t' : Nat} (I : Inv X pins σ H s) (k : ∀ b u, s.heap.get? b = some u -> h'.get? b = some u) (hp : s.heap.objs.size <= a) (new : ObjOk X.prog X.w (upd H a o) h' a o) :
  Inv X pins σ (upd H a o) { s with heap := h', toks := t' } := I.un (Un.laid k hp (I.hok.fresh hp)) (I.hok.laid k hp new)
theorem Inv.write {x e : Addr} {o : HO} {t' : Nat} (I : Inv X pins σ H s) (mu : Mut (H x)) (he : e = x ∨ H e = some (.own x)) (k : ∀ b u, b ≠ e -> s.heap.get? b = some u -> h'.get? b = some u) (heo : ∃ u, h'.get? e = some u)
  (new : ObjOk X.prog X.w (upd H x o) h' x o) : Inv X pins σ (upd H x o) { s with heap := h', toks := t' } := I.un (Un.write mu he k heo) (I.hok.write mu he k heo new)
theorem Inv.pins_of {pins' : List (Addr × Obj)} (I : Inv X pins σ H s) (h : ∀ p ∈ pins', s.heap.get? p.1 = some p.2 /\ H p.1 = none /\ p.1 ≠ X.env.locals /\ p.1 ∉ X.fs /\ ∀ v, p.2.data ≠ .cell v) : Inv X pins' σ H s :=
 ⟨I.ok, I.os, I.bare, I.base, I.loc, I.cell, I.free, I.freeC, fun p hp => (List.mem_append.mp hp).elim (fun z => I.pin p (List.mem_append_left _ z)) (h p), I.hok, I.len⟩
theorem Za9 {N : List Str} (hN : N.Nodup) {i j : Nat} {x : Str} (a : N[i]? = some x) (b : N[j]? = some x) : i = j := by
 obtain ⟨h1, e1⟩ := List.getElem?_eq_some_iff.mp a
 obtain ⟨h2, e2⟩ := List.getElem?_eq_some_iff.mp b
 exact (List.getElem_inj hN).mp (e1.trans e2.symm)
theorem Z82 {M : Model} {A : Around} {E : Value -> Shared -> Prop} {i : Nat} {x : Str} {v : V} {u : Value} {Q : Unit -> Shared -> Prop} (I : Inv X pins σ H s) (hN : X.N.Nodup) (hi : X.N[i]? = some x) (hx : Loc X.env.scope x) (r : RelV v u)
  (h : ∀ s', Inv X pins (σ.set i (some v)) H s' -> (∃ a, Heap.SameBut a s.heap s'.heap /\ (a = X.env.locals ∨ X.env.cells.lookup x = some a)) -> Q () s') (hf : X.fn x = true ∨ X.env.scope.names.lookup x = some .local := by first | exact .inl rfl | exact .inr rfl | assumption) : wpAny M A (storeName X.env x u) Q E s := by
 obtain ⟨m, hn, hl⟩ := id I.loc
 have hcls : (X.env.scope.kind == .class || (X.env.scope.kind == .module && X.env.locals != X.env.globals)) = false := by rw [I.ok.kind]; rfl
 have hiσ : i < σ.length := by rw [I.len]; exact (List.getElem?_eq_some_iff.mp hi).1
 have cne := I.cne
 have tracked : ∀ {a : Addr} {h' : Heap}, (∃ o, s.heap.get? a = some o /\ H a = none) -> Heap.SameBut a s.heap h' -> HOk X.prog X.w H h' := fun {a h'} ha hs b ob e => by
  obtain ⟨_, _, hfree⟩ := ha
  refine (I.hok b ob e).stay (fun c w' hc q => (hs.2 c ?_).trans q) (fun _ q => q) fun _ _ q => q
  rintro rfl
  rcases hc with rfl | hc
  ·rw [hfree] at e; cases e
  ·rw [hfree] at hc; cases hc
 rcases hx with hk | hk
 ·refine wpAny_storeName_local hk hn (fun h' hn' hs => ?_) hcls
  obtain ⟨oL, _, _, hoL, _⟩ := id hn
  refine h _ ⟨I.ok, I.os, I.bare, ⟨fun b o e n hb hx => ?_, fun b o e n hb hx => ?_, I.base.free, fun b o e hx => ?_, I.base.tups, I.base.frzs, I.base.tbls⟩, ⟨_, hn', fun j y v' e1 e2 e3 => ?_⟩, fun y c e => ?_, I.free, I.freeC, fun p hp => ?_, tracked ⟨oL, hoL, I.free⟩ hs, by simpa using I.len⟩ ⟨_, hs, .inl rfl⟩
  ·exact (hs.2 b (Nat.ne_of_lt (Nat.lt_of_lt_of_le (Heap.lt_size e) I.ok.above))).trans (I.base.keep b o e n hb hx)
  ·obtain ⟨sl, e1⟩ := I.base.slot b o e n hb hx
   exact ⟨sl, (hs.2 b (Nat.ne_of_lt (Nat.lt_of_lt_of_le (Heap.lt_size e) I.ok.above))).trans e1⟩
  ·obtain ⟨o', e1⟩ := I.base.there b o e hx
   exact ⟨o', (hs.2 b (Nat.ne_of_lt (Nat.lt_of_lt_of_le (Heap.lt_size e) I.ok.above))).trans e1⟩
  ·by_cases hj : j = i
   ·subst hj
    rw [hi] at e1; cases e1
    rw [List.getElem?_set_self hiσ] at e2
    cases e2
    exact ⟨u, r, .inl ⟨hk, by simp⟩⟩
   ·rw [List.getElem?_set_ne (Ne.symm hj)] at e2
    obtain ⟨u', r', q⟩ := hl j y v' e1 e2 e3
    refine ⟨u', r', ?_⟩
    rcases q with ⟨k, e⟩ | ⟨k, c, e, z⟩
    ·refine .inl ⟨k, ?_⟩
     have : y ≠ x := fun e => hj (Za9 hN e1 (e ▸ hi))
     simp [this, e]
    ·exact .inr ⟨k, c, e, z.sameBut hs (cne y c e)⟩
  ·obtain ⟨w', z⟩ := I.cell y c e
   exact ⟨w', z.sameBut hs (cne y c e)⟩
  ·obtain ⟨e, n, ne, nf, d⟩ := I.pin p hp
   exact ⟨(hs.2 p.1 ne).trans e, n, ne, nf, d⟩
 ·have hfn : X.fn x = true := by
   rcases hf with z | z
   ·exact z
   ·rw [z] at hk; cases hk
  obtain ⟨c, hc⟩ := I.ok.has x (.inl hk)
  obtain ⟨w', z⟩ := I.cell x c hc
  refine wpAny_storeName_cell I.ok.kind hk hc z (fun h' hc' hs => ?_)
  obtain ⟨oc, hoc, hocd⟩ := id z
  refine h { s with heap := h' } ⟨I.ok, I.os, I.bare, ⟨fun b o e n hb hx => ?_, fun b o e n hb hx => ?_, I.base.free, fun b o e hx => ?_, I.base.tups, I.base.frzs, I.base.tbls⟩, ⟨m, hn.sameBut hs (Ne.symm (cne x c hc)), fun j y v' e1 e2 e3 => ?_⟩, fun y c' e => ?_, I.free, I.freeC, fun p hp => ?_, tracked ⟨oc, hoc, I.freeC x c hc⟩ hs, by simpa using I.len⟩ ⟨c, hs, .inr hc⟩
  ·exact (hs.2 b (Nat.ne_of_lt (Nat.lt_of_lt_of_le (Heap.lt_size e) (I.ok.cab x c hfn hc)))).trans (I.base.keep b o e n hb hx)
  ·obtain ⟨sl, e1⟩ := I.base.slot b o e n hb hx
   exact ⟨sl, (hs.2 b (Nat.ne_of_lt (Nat.lt_of_lt_of_le (Heap.lt_size e) (I.ok.cab x c hfn hc)))).trans e1⟩
  ·obtain ⟨o', e1⟩ := I.base.there b o e hx
   exact ⟨o', (hs.2 b (Nat.ne_of_lt (Nat.lt_of_lt_of_le (Heap.lt_size e) (I.ok.cab x c hfn hc)))).trans e1⟩
  ·by_cases hj : j = i
   ·subst hj
    rw [hi] at e1; cases e1
    rw [List.getElem?_set_self hiσ] at e2
    cases e2
    exact ⟨u, r, .inr ⟨.inl hk, c, hc, hc'⟩⟩
   ·rw [List.getElem?_set_ne (Ne.symm hj)] at e2
    obtain ⟨u', r', q⟩ := hl j y v' e1 e2 e3
    refine ⟨u', r', ?_⟩
    rcases q with q | ⟨k, c', e, z'⟩
    ·exact .inl q
    ·refine .inr ⟨k, c', e, z'.sameBut hs ?_⟩
     rintro rfl
     exact hj (Za9 hN e1 (I.ok.inj _ _ _ e hc ▸ hi))
  ·by_cases hcc : c' = c
   ·subst hcc; exact ⟨_, hc'⟩
   ·obtain ⟨w2, z2⟩ := I.cell y c' e
    exact ⟨w2, z2.sameBut hs hcc⟩
  ·obtain ⟨e, n, ne, nf, d⟩ := I.pin p hp
   refine ⟨(hs.2 p.1 ?_).trans e, n, ne, nf, d⟩
   intro q
   rw [q, hoc] at e
   have q' : oc = p.2 := Option.some.inj e
   exact d w' (by rw [<- q']; exact hocd)
theorem Z6z {M : Model} {A : Around} {E : Value -> Shared -> Prop} {i : Nat} {x : Str} {v : V} {u : Value} {Q : Unit -> Shared -> Prop} (I : Inv X pins σ H s) (hN : X.N.Nodup) (hi : X.N[i]? = some x) (hx : Loc X.env.scope x) (r : RelV v u)
  (h : ∀ s', Inv X pins (σ.set i (some v)) H s' -> Q () s') (hf : X.fn x = true ∨ X.env.scope.names.lookup x = some .local := by first | exact .inl rfl | exact .inr rfl | assumption) : wpAny M A (storeName X.env x u) Q E s :=
 Z82 I hN hi hx r (fun s' I' _ => h s' I') hf
theorem Inv.call' {s' : Shared} {ch : List Addr} (I : Inv X pins σ H s) (ho : s'.os = s.os) (u : Un (frs X.stack) ch H H' s.heap s'.heap) (hok : HOk X.prog X.w H' s'.heap) (hg : AllBare s'.gens)
  (hch : ∀ b ∈ ch, (b ∈ X.ex ∨ X.s₀.heap.objs.size <= b) /\ b ≠ X.env.locals /\ (∀ x c, X.env.cells.lookup x = some c -> c ≠ b) /\ ∀ p ∈ X.pn ++ pins, p.1 ≠ b) : Inv X pins σ H' s' := by
 obtain ⟨h', g', d', t', o'⟩ := s'
 have e : o' = s.os := ho
 subst e
 exact I.call (g' := g') (t' := t') (d' := d') u hok hg hch
end
abbrev XK := Value -> Option Addr -> Hp -> Prop
abbrev St := List (Option V)
abbrev VK := V -> Hp -> Prop
abbrev TE := St -> Hp -> VK -> Prop
abbrev TT := St -> Hp -> (Bool -> Hp -> Prop) -> Prop
abbrev TA := St -> Hp -> (List V -> Hp -> Prop) -> Prop
structure Ends where
 nx : St -> Hp -> Prop
 rt : VK
 bk : St -> Hp -> Prop := fun _ _ => False
 ct : St -> Hp -> Prop := fun _ _ => False
abbrev TS := Ends -> St -> Hp -> Prop
def EP (X : Cx) (pins : List (Addr × Obj)) (σ : St) (Q : VK) (u : Value) (s' : Shared) : Prop := ∃ v H', Inv X pins σ H' s' /\ RelV v u /\ Q v H'
def TP (X : Cx) (pins : List (Addr × Obj)) (σ : St) (Q : Bool -> Hp -> Prop) (b : Bool) (s' : Shared) : Prop := ∃ H', Inv X pins σ H' s' /\ Q b H'
def AP (X : Cx) (pins : List (Addr × Obj)) (σ : St) (Q : List V -> Hp -> Prop) (us : List Value) (s' : Shared) : Prop := ∃ vs H', Inv X pins σ H' s' /\ Vals vs us /\ Q vs H'
def SP (X : Cx) (pins : List (Addr × Obj)) (D : Ends) (f : Flow) (s' : Shared) : Prop :=
 match f with
 | .next => ∃ σ' H', Inv X pins σ' H' s' /\ D.nx σ' H'
 | .brk => ∃ σ' H', Inv X pins σ' H' s' /\ D.bk σ' H'
 | .cont => ∃ σ' H', Inv X pins σ' H' s' /\ D.ct σ' H'
 | .ret u => ∃ v σ' H', Inv X pins σ' H' s' /\ RelV v u /\ D.rt v H'
def PE (X : Cx) (e : Expr) (t : TE) : Prop :=
 ∀ (pins : List (Addr × Obj)) (s : Shared) (σ : St) (H : Hp) (Q : VK), Inv X pins σ H s -> t σ H Q -> wpAny (model X.prog X.w) X.A (eval e X.env) (EP X pins σ Q) X.xe s
def PT (X : Cx) (e : Expr) (t : TT) : Prop :=
 ∀ (pins : List (Addr × Obj)) (s : Shared) (σ : St) (H : Hp) (Q : Bool -> Hp -> Prop), Inv X pins σ H s -> t σ H Q -> wpAny (model X.prog X.w) X.A (isTrue e X.env (eval e X.env)) (TP X pins σ Q) X.xe s
def PW (X : Cx) (e : Expr) (t : TT) : Prop :=
 ∀ (whole : Sem Value) (pins : List (Addr × Obj)) (s : Shared) (σ : St) (H : Hp) (Q : Bool -> Hp -> Prop), Inv X pins σ H s -> t σ H Q -> wpAny (model X.prog X.w) X.A (isTrue e X.env whole) (TP X pins σ Q) X.xe s
theorem PW.pt {X : Cx} {e : Expr} {t : TT} (h : PW X e t) : PT X e t := h _
def PA (X : Cx) (es : List Expr) (t : TA) : Prop :=
 ∀ (pos : Pos) (pins : List (Addr × Obj)) (s : Shared) (σ : St) (H : Hp) (Q : List V -> Hp -> Prop), Inv X pins σ H s -> t σ H Q -> wpAny (model X.prog X.w) X.A (spliced (backTo pos (starEach es X.env))) (AP X pins σ Q) X.xe s
def PS (X : Cx) (st : Stmt) (t : TS) : Prop :=
 ∀ (pins : List (Addr × Obj)) (s : Shared) (σ : St) (H : Hp) (D : Ends), Inv X pins σ H s -> t D σ H -> wpAny (model X.prog X.w) X.A (exec st X.env) (SP X pins D) X.xe s
def PSs (X : Cx) (st : List Stmt) (t : TS) : Prop :=
 ∀ (pins : List (Addr × Obj)) (s : Shared) (σ : St) (H : Hp) (D : Ends), Inv X pins σ H s -> t D σ H -> wpAny (model X.prog X.w) X.A (execs st X.env) (SP X pins D) X.xe s
theorem thn {α : Type} {t : Sem α} {Q Q' : α -> Shared -> Prop} {M : Model} {A : Around} {E : Value -> Shared -> Prop} {s : Shared} (h : wpAny M A t Q E s) (hQ : ∀ a s, Q a s -> Q' a s) : wpAny M A t Q' E s := wpAny_mono h hQ fun _ _ x => x
section
variable {X : Cx}
def Zog (i : Nat) : TE := fun σ H Q => ∃ v, σ[i]? = some (some v) /\ Q v H
def tC (v : V) : TE := fun _ H Q => Q v H
theorem Zhi {i : Nat} {x : Str} {pos : Pos} (hN : X.N[i]? = some x) (hv : Vis X.env.scope x) (hd : (x == ("__debug__" : Str)) = false := by decide) (hcd : (x == ("__classdict__" : Str)) = false := by decide) : PE X (.Name x pos) (Zog i) := by
 intro pins s σ H Q I h
 obtain ⟨v, e, h⟩ := h
 obtain ⟨m, hn, hl⟩ := I.loc
 obtain ⟨u, r, l⟩ := hl i x v hN e hv
 have fin : EP X pins σ Q u s := ⟨v, H, I, r, h⟩
 rcases l with ⟨hk, hm⟩ | ⟨hk, c, hc, hcell⟩
 ·exact wpAny_Name (wpAny_loadName_local I.ok.kind hk hn hm fin) hd
 ·rcases hk with hk | hk
  ·exact wpAny_Name (wpAny_loadName_cell I.ok.kind hk hc hcell fin) hd
  ·exact wpAny_Name (wpAny_loadName_free I.ok.kind hk hc hcell fin hcd) hd
theorem Z04 {i j pos} : PE X (.Constant (.int i) j pos) (tC (.int i)) := fun _ _ _ H _ I h => wpAny_Constant_int ⟨.int i, H, I.tok _, ⟨_, rfl⟩, h⟩
theorem Z29 {b j pos} : PE X (.Constant (.bool b) j pos) (tC (.bl b)) := fun _ _ _ H _ I h => Constant_bool ⟨.bl b, H, I, rfl, h⟩
theorem Zd1 {j pos} : PE X (.Constant .none j pos) (tC .non) := fun _ _ _ H _ I h => Constant_none ⟨.non, H, I, rfl, h⟩
theorem Z0a {x j pos} : PE X (.Constant (.str x) j pos) (tC (.str x)) := fun _ _ _ H _ I h => Calls.Constant_str ⟨.str x, H, I.tok _, ⟨_, rfl⟩, h⟩
def Gl (X : Cx) (x : Str) : Prop := X.env.kindOf x = some .globalImplicit
theorem Zd2 {E : Value -> Shared -> Prop} {pins : List (Addr × Obj)} {s : Shared} {σ : St} {H : Hp} {x : Str} {u : Value} {pos : Pos} {Q : Value -> Shared -> Prop} (I : Inv X pins σ H s) (hg : Gl X x) (hm : X.mg x = some u) (h : Q u s)
  (hd : (x == ("__debug__" : Str)) = false := by decide) : wpAny (model X.prog X.w) X.A (eval (.Name x pos) X.env) Q E s :=
 Calls.Name_function_global I.ok.kind hg (Calls.loadGlobal_global (by rw [I.ok.glob]; exact I.mod.glob.keeps I.bk) hm h) hd
theorem Z5a {E : Value -> Shared -> Prop} {pins : List (Addr × Obj)} {s : Shared} {σ : St} {H : Hp} {x : Str} {u : Value} {pos : Pos} {Q : Value -> Shared -> Prop} (I : Inv X pins σ H s) (hg : Gl X x) (hm : X.mg x = none) (hv : bootBuiltins x = some u) (h : Q u s)
  (hn : x ≠ "__name__" := by decide) (hd : (x == ("__debug__" : Str)) = false := by decide) : wpAny (model X.prog X.w) X.A (eval (.Name x pos) X.env) Q E s := by
 obtain ⟨mb, h1, h2⟩ := I.mod.blt
 exact Calls.Name_function_global I.ok.kind hg (Calls.loadGlobal_builtin (by rw [I.ok.glob]; exact I.mod.glob.keeps I.bk) hm (by rw [I.ok.blt]; exact h1.keeps I.bk) ((h2 x hn).trans hv) h) hd
theorem Z1d {x : Str} {v : V} {u : Value} {pos : Pos} (hg : Gl X x) (hm : X.mg x = some u) (r : RelV v u) (hd : (x == ("__debug__" : Str)) = false := by decide) : PE X (.Name x pos) (tC v) :=
 fun _ _ _ H _ I h => Zd2 I hg hm ⟨v, H, I, r, h⟩ hd
theorem Z1j {x : Str} {v : V} {u : Value} {pos : Pos} (hg : Gl X x) (hm : X.mg x = none) (hv : bootBuiltins x = some u) (r : RelV v u) (hn : x ≠ "__name__" := by decide) (hd : (x == ("__debug__" : Str)) = false := by decide) : PE X (.Name x pos) (tC v) :=
 fun _ _ _ H _ I h => Z5a I hg hm hv ⟨v, H, I, r, h⟩ hn hd
variable {a b : Expr} {ta tb : TE} {pos : Pos}
def PC (X : Cx) (op : CmpOp) (a b : Expr) (t : TE) : Prop :=
 ∀ (pins : List (Addr × Obj)) (s : Shared) (σ : St) (H : Hp) (Q : VK), Inv X pins σ H s -> t σ H Q →
  wpAny (model X.prog X.w) X.A (eval a X.env) (fun v s₁ => wpAny (model X.prog X.w) X.A (eval b X.env) (fun u s₂ => wpAny (model X.prog X.w) X.A (compareOp op v u) (EP X pins σ Q) X.xe s₂) X.xe s₁) X.xe s
theorem Zfr (b : Expr) {op : CmpOp} (h : op ≠ .In) (h2 : op ≠ .NotIn) : behindInMarks op b = false := by
 have e1 : (op == CmpOp.In) = false := by cases op <;> first | rfl | exact absurd rfl h
 have e2 : (op == CmpOp.NotIn) = false := by cases op <;> first | rfl | exact absurd rfl h2
 cases b <;> simp [behindInMarks, e1, e2]
def Zoy (ta : TE) : TE := fun σ H Q => ta σ H fun x H1 => Q (.bl (decide (x = .non))) H1
def Zn3 (ta : TE) : TE := fun σ H Q => ta σ H fun x H1 => Q (.bl (!decide (x = .non))) H1
theorem RelV.none_iff {x : V} {v : Value} (r : RelV x v) : (v == Value.none) = decide (x = .non) := by
 cases x with
 | non => cases r; rfl
 | bl _ => cases r; rfl
 | int _ => obtain ⟨t, rfl⟩ := r; rfl
 | str _ => obtain ⟨t, rfl⟩ := r; rfl
 | byt _ => obtain ⟨t, rfl⟩ := r; rfl
 | flt _ => obtain ⟨t, rfl⟩ := r; rfl
 | ref _ => cases r; rfl
 | ty _ => cases r; rfl
theorem Zl4 {j pos'} (ha : PE X a ta) : PC X .Is a (.Constant .none j pos') (Zoy ta) := by
 intro pins s σ H Q I h
 refine thn (ha pins s σ H _ I h) fun v s1 ⟨x, H1, I1, r1, q1⟩ => ?_
 exact Constant_none (is_none_gen ⟨.bl _, H1, I1, by rw [r1.none_iff]; rfl, q1⟩)
theorem Zil {j pos'} (ha : PE X a ta) : PC X .IsNot a (.Constant .none j pos') (Zn3 ta) := by
 intro pins s σ H Q I h
 refine thn (ha pins s σ H _ I h) fun v s1 ⟨x, H1, I1, r1, q1⟩ => ?_
 exact Constant_none (isnot_none_gen ⟨.bl _, H1, I1, by rw [r1.none_iff]; rfl, q1⟩)
def tB (t : TE) : TT := fun σ H Q => t σ H fun x H1 => ∃ c, x = .bl c /\ Q c H1
theorem Zhj {op : CmpOp} {t : TE} (h : PC X op a b t) (h1 : behindInMarks op b = false := by first | exact Zfr _ (by decide) (by decide) | rfl) : PT X (.Compare a [op] [b] pos) (tB t) := by
 intro pins s σ H Q I hw
 refine wpAny_isTrue_Compare1 (thn (h pins s σ H _ I hw) fun v s1 h1 => thn h1 fun u s2 h2 => thn h2 fun c s3 ⟨x, H1, I1, r1, q1⟩ => ?_) h1
 obtain ⟨d, rfl, q⟩ := q1
 cases r1
 exact wpAny_truthy_bool ⟨H1, I1, q⟩
theorem Z1k {e : Expr} {t : TE} (h : PE X e t) (he : ∀ whole, isTrue e X.env whole = (do let v ← whole; standAt e.pos; holding [v] (truthy v)) := by intro _; rfl) : PT X e (tB t) := by
 intro pins s σ H Q I hw
 refine isTrue_plain (thn (h pins s σ H _ I hw) fun v s1 ⟨x, H1, I1, r1, q1⟩ => ?_) (he _)
 obtain ⟨d, rfl, q⟩ := q1
 cases r1
 exact wpAny_truthy_bool ⟨H1, I1, q⟩
variable {tA tB' : TT} {rest : List Expr}
def Zoz (t u : TT) : TT := fun σ H Q => t σ H fun c H1 => if c = true then u σ H1 Q else Q false H1
def tOr (t u : TT) : TT := fun σ H Q => t σ H fun c H1 => if c = true then Q true H1 else u σ H1 Q
def Zp0 (t : TT) : TT := fun σ H Q => t σ H fun c H1 => Q (!c) H1
theorem Z3j (ha : PT X a tA) : PW X (.BoolOp .And [a] pos) tA := by
 intro wh pins s σ H Q I h
 refine isTrue_and (thn (ha pins s σ H Q I h) fun c s1 e => ?_)
 cases c with
 | true => exact isTrue_and_nil e
 | false => exact e
theorem Z3t (ha : PT X a tA) : PW X (.BoolOp .Or [a] pos) tA := by
 intro wh pins s σ H Q I h
 refine isTrue_or (thn (ha pins s σ H Q I h) fun c s1 e => ?_)
 cases c with
 | false => exact isTrue_or_nil e
 | true => exact e
theorem Z5b (ha : PT X a tA) (hb : PW X (.BoolOp .And (b :: rest) pos) tB') : PW X (.BoolOp .And (a :: b :: rest) pos) (Zoz tA tB') := by
 intro wh pins s σ H Q I h
 refine isTrue_and (thn (ha pins s σ H _ I h) fun c s1 ⟨H1, I1, q1⟩ => ?_)
 cases c with
 | true => exact hb wh pins s1 σ H1 Q I1 q1
 | false => exact ⟨H1, I1, q1⟩
theorem Z4d (ha : PT X a tA) (hb : PW X (.BoolOp .Or (b :: rest) pos) tB') : PW X (.BoolOp .Or (a :: b :: rest) pos) (tOr tA tB') := by
 intro wh pins s σ H Q I h
 refine isTrue_or (thn (ha pins s σ H _ I h) fun c s1 ⟨H1, I1, q1⟩ => ?_)
 cases c with
 | true => exact ⟨H1, I1, q1⟩
 | false => exact hb wh pins s1 σ H1 Q I1 q1
theorem Z1x (ha : PT X a tA) : PT X (.UnaryOp .Not a pos) (Zp0 tA) := by
 intro pins s σ H Q I h
 exact isTrue_not (ha pins s σ H (fun c H1 => Q (!c) H1) I h)
def Zn4 (ta tb : TE) : TE := fun σ H Q => ta σ H fun x H1 => ∃ c, x = .bl c /\ if c = true then tb σ H1 Q else Q (.bl false) H1
def Zn5 (ta : TE) : TE := fun σ H Q => ta σ H fun x H1 => ∃ c, x = .bl c /\ Q (.bl (!c)) H1
theorem Z3e {op} {t : TE} (h : PE X a t) : PE X (.BoolOp op [a] pos) t := fun pins s σ H Q I hw => BoolOp_one (h pins s σ H Q I hw)
theorem Z2q (ha : PE X a ta) (hb : PE X (.BoolOp .And (b :: rest) pos) tb) : PE X (.BoolOp .And (a :: b :: rest) pos) (Zn4 ta tb) := by
 intro pins s σ H Q I h
 refine BoolOp_and (thn (ha pins s σ H _ I h) fun v s1 ⟨x, H1, I1, r1, q1⟩ => ?_)
 obtain ⟨c, rfl, q1⟩ := q1
 cases r1
 refine wpAny_truthy_bool ?_
 cases c with
 | true => exact hb pins s1 σ H1 Q I1 q1
 | false => exact ⟨.bl false, H1, I1, rfl, q1⟩
theorem Zl5 (ha : PE X a ta) : PE X (.UnaryOp .Not a pos) (Zn5 ta) := by
 intro pins s σ H Q I h
 refine UnaryOp_ (thn (ha pins s σ H _ I h) fun v s1 ⟨x, H1, I1, r1, q1⟩ => ?_)
 obtain ⟨c, rfl, q1⟩ := q1
 cases r1
 exact not_of (wpAny_truthy_bool ⟨.bl (!c), H1, I1, rfl, q1⟩)
end
def SqL (K : PySem.W.Frag) (H : Hp) (a : Addr) (xs : List V) : Prop :=
 Rd H a (.lst xs) ∨
  ∃ (o : Obj) (its : Array Value) (n : Nat), K.lookup a = some o /\ o.cls = .type "list" /\ o.dict = none /\ o.data = .seq its n /\ its.size <= sizeLine /\ Vals xs its.toList
def SqT (K : PySem.W.Frag) (H : Hp) (a : Addr) (xs : List V) : Prop :=
 Rd H a (.tup xs) ∨
  ∃ (o : Obj) (its : Array Value) (n : Nat), K.lookup a = some o /\ o.cls = .type "tuple" /\ o.data = .seq its n /\ its.size <= sizeLine /\ Vals xs its.toList
def Zp1 : Value -> Option V
 | .none => some .non
 | .bool b => some (.bl b)
 | .int i _ => some (.int i)
 | .str x _ => some (.str x)
 | .bytes b _ => some (.byt b)
 | .float b _ => some (.flt b)
 | .ref a => some (.ref a)
 | .type n => some (.ty n)
 | _ => none
theorem RelV.abs {x : V} {u : Value} (r : RelV x u) : Zp1 u = some x := by
 cases x with
 | non => cases r; rfl
 | bl _ => cases r; rfl
 | int _ => obtain ⟨t, rfl⟩ := r; rfl
 | str _ => obtain ⟨t, rfl⟩ := r; rfl
 | byt _ => obtain ⟨t, rfl⟩ := r; rfl
 | flt _ => obtain ⟨t, rfl⟩ := r; rfl
 | ref _ => cases r; rfl
 | ty _ => cases r; rfl
theorem RelV.inj {x y : V} {u : Value} (r : RelV x u) (q : RelV y u) : x = y := Option.some.inj (r.abs.symm.trans q.abs)
theorem Vals.inj : ∀ {xs ys : List V} {us : List Value}, Vals xs us -> Vals ys us -> xs = ys
 | _, _, _, .nil, .nil => rfl
 | _, _, _, .cons r t, .cons r' t' => by rw [r.inj r', Vals.inj t t']
section
variable {X : Cx} {pins : List (Addr × Obj)} {σ : St} {H : Hp} {s : Shared} {a : Addr} {xs ys : List V}
theorem SqL.of {K : PySem.W.Frag} (h : H a = some (.lst xs)) : SqL K H a xs := .inl (.inl h)
theorem SqT.of {K : PySem.W.Frag} (h : H a = some (.tup xs)) : SqT K H a xs := .inl (.inl h)
theorem Inv.list (I : Inv X pins σ H s) (h : SqL X.K H a xs) : ∃ its : List Value, Vals xs its /\ PlainL s.heap a its.toArray /\ xs.length <= sizeLine := by
 rcases h with h | ⟨o, its, n, hk, hc, hd, hs, hz, r⟩
 ·obtain ⟨z, its, n, r, e⟩ := h.ok I.hok
  exact ⟨its, r, ⟨_, n, e, rfl, rfl, rfl⟩, z⟩
 ·refine ⟨its.toList, r, ⟨o, n, I.kIn a o hk, hc, hd, by simpa using hs⟩, ?_⟩
  have e := r.length
  simp only [Array.length_toList] at e
  omega
theorem Inv.tuple (I : Inv X pins σ H s) (h : SqT X.K H a xs) : ∃ its : List Value, Vals xs its /\ IsTup s.heap a its.toArray /\ xs.length <= sizeLine := by
 rcases h with h | ⟨o, its, n, hk, hc, hs, hz, r⟩
 ·obtain ⟨z, its, r, p⟩ := h.ok I.hok
  exact ⟨its, r, p, z⟩
 ·refine ⟨its.toList, r, ⟨o, I.kIn a o hk, hc, n, by simpa using hs⟩, ?_⟩
  have e := r.length
  simp only [Array.length_toList] at e
  omega
theorem Inv.list_inj (I : Inv X pins σ H s) (h : SqL X.K H a xs) (h' : SqL X.K H a ys) : xs = ys := by
 obtain ⟨its, r, ⟨o, n, e, _, _, d⟩, _⟩ := I.list h
 obtain ⟨its', r', ⟨o', n', e', _, _, d'⟩, _⟩ := I.list h'
 rw [e] at e'; cases e'
 rw [d] at d'
 injection d' with d1 _
 have : its = its' := by simpa using congrArg Array.toList d1
 subst this
 exact r.inj r'
theorem Inv.tuple_inj (I : Inv X pins σ H s) (h : SqT X.K H a xs) (h' : SqT X.K H a ys) : xs = ys := by
 obtain ⟨its, r, ⟨o, e, _, n, d⟩, _⟩ := I.tuple h
 obtain ⟨its', r', ⟨o', e', _, n', d'⟩, _⟩ := I.tuple h'
 rw [e] at e'; cases e'
 rw [d] at d'
 injection d' with d1 _
 have : its = its' := by simpa using congrArg Array.toList d1
 subst this
 exact r.inj r'
end
abbrev Cx.wish (X : Cx) (E : Value -> Shared -> Prop) : Cx := { X with xe := E }
abbrev Cx.nox (X : Cx) : Cx := X.wish fun _ _ => False
theorem Cx.Ok.wish {X : Cx} (ok : X.Ok) (E : Value -> Shared -> Prop) : (X.wish E).Ok :=
 ⟨ok.mod, ok.kind, ok.glob, ok.blt, ok.above, ok.inj, ok.has, ok.cab, ok.hd, ok.frames, ok.stk, ok.exf, ok.bs, ok.bsz, ok.noex, ok.exfs, ok.funs, ok.frf⟩
theorem Cx.Ok.unwish {X : Cx} {E : Value -> Shared -> Prop} (ok : (X.wish E).Ok) : X.Ok :=
 ⟨ok.mod, ok.kind, ok.glob, ok.blt, ok.above, ok.inj, ok.has, ok.cab, ok.hd, ok.frames, ok.stk, ok.exf, ok.bs, ok.bsz, ok.noex, ok.exfs, ok.funs, ok.frf⟩
section
variable {X : Cx} {pins : List (Addr × Obj)} {σ : St} {H : Hp} {s : Shared} {E : Value -> Shared -> Prop}
theorem Inv.wish (I : Inv X pins σ H s) (E : Value -> Shared -> Prop) : Inv (X.wish E) pins σ H s := ⟨I.ok.wish E, I.os, I.bare, I.base, I.loc, I.cell, I.free, I.freeC, I.pin, I.hok, I.len⟩
theorem Inv.unwish (I : Inv (X.wish E) pins σ H s) : Inv X pins σ H s := ⟨I.ok.unwish, I.os, I.bare, I.base, I.loc, I.cell, I.free, I.freeC, I.pin, I.hok, I.len⟩
theorem SP.unwish {D : Ends} {f : Flow} {s' : Shared} (h : SP (X.wish E) pins D f s') : SP X pins D f s' := by
 cases f with
 | next => obtain ⟨σ', H', I, q⟩ := h; exact ⟨σ', H', I.unwish, q⟩
 | brk => obtain ⟨σ', H', I, q⟩ := h; exact ⟨σ', H', I.unwish, q⟩
 | cont => obtain ⟨σ', H', I, q⟩ := h; exact ⟨σ', H', I.unwish, q⟩
 | ret u => obtain ⟨v, σ', H', I, r, q⟩ := h; exact ⟨v, σ', H', I.unwish, r, q⟩
theorem PSs.nox {st : List Stmt} {t : TS} (h : PSs X.nox st t) : PSs X st t := fun pins s σ H D I hw =>
 wpAny_mono (h pins s σ H D (I.wish _) hw) (fun _ _ q => q.unwish) fun _ _ z => False.elim z
end
section
variable {X : Cx} {st : Stmt} {rest : List Stmt} {t u : TS} {e : Expr} {te : TE} {pos : Pos}
def tNext : TS := fun D σ H => D.nx σ H
def Zp2 (t u : TS) : TS := fun D σ H => t { D with nx := u D } σ H
theorem Z0f : PSs X [] tNext := fun _ _ σ H _ I h => wpAny_execs_nil ⟨σ, H, I, h⟩
theorem Z06 (h1 : PS X st t) (h2 : PSs X rest u) : PSs X (st :: rest) (Zp2 t u) := by
 intro pins s σ H D I h
 refine wpAny_execs_cons (thn (h1 pins s σ H { D with nx := u D } I h) fun f s1 q => ?_)
 cases f with
 | next =>
  obtain ⟨σ', H', I', q⟩ := q
  exact h2 pins s1 σ' H' D I' q
 | ret v => exact q
 | brk => exact q
 | cont => exact q
theorem Z05 (h1 : PS X st t) : PSs X [st] t := by
 intro pins s σ H D I h
 refine wpAny_execs_cons (thn (h1 pins s σ H D I h) fun f s1 q => ?_)
 cases f with
 | next => exact wpAny_execs_nil q
 | ret v => exact q
 | brk => exact q
 | cont => exact q
theorem Inv.quiet {pins : List (Addr × Obj)} {σ : St} {H : Hp} {s : Shared} (I : Inv X pins σ H s) : interactive X.env = false := by simp [interactive, I.ok.kind]
def Zn6 (te : TE) : TS := fun D σ H => te σ H fun _ H1 => D.nx σ H1
theorem Z2r (he : PE X e te) (hs : swapsWith e none pos.line X.env = pure false := by rfl) : PS X (.Expr e pos) (Zn6 te) := by
 intro pins s σ H D I h
 exact wpAny_Expr_any (thn (he pins s σ H _ I h) fun v s1 ⟨x, H1, I1, r1, q1⟩ => ⟨σ, H1, I1, q1⟩) I.quiet hs
def Zp3 (te : TE) : TS := fun D σ H => te σ H D.rt
theorem Z0d (he : PE X e te) : PS X (.Return (some e) pos) (Zp3 te) := by
 intro pins s σ H D I h
 exact wpAny_Return_some (thn (he pins s σ H _ I h) fun v s1 ⟨x, H1, I1, r1, q1⟩ => ⟨x, σ, H1, I1, r1, q1⟩)
def Zp4 (c : TT) (t u : TS) : TS := fun D σ H => c σ H fun b H1 => if b = true then t D σ H1 else u D σ H1
theorem Z0v {c : Expr} {a b : List Stmt} {tc : TT} (hc : PT X c tc) (ha : PSs X a t) (hb : PSs X b u) : PS X (.If c a b pos) (Zp4 tc t u) := by
 intro pins s σ H D I h
 refine wpAny_If (thn (hc pins s σ H _ I h) fun d s1 ⟨H1, I1, q1⟩ => ?_)
 cases d with
 | true => exact ha pins s1 σ H1 D I1 q1
 | false => exact hb pins s1 σ H1 D I1 q1
end
abbrev TG := V -> St -> Hp -> (St -> Hp -> Prop) -> Prop
abbrev TGs := List V -> St -> Hp -> (St -> Hp -> Prop) -> Prop
def PG (X : Cx) (target : Expr) (t : TG) : Prop :=
 ∀ (pins : List (Addr × Obj)) (s : Shared) (σ : St) (H : Hp) (v : V) (u : Value) (Q : St -> Hp -> Prop), Inv X pins σ H s -> RelV v u -> t v σ H Q →
  wpAny (model X.prog X.w) X.A (assign target X.env u) (fun _ s' => ∃ σ' H', Inv X pins σ' H' s' /\ Q σ' H') X.xe s
def PGs (X : Cx) (ts : List Expr) (t : TGs) : Prop :=
 ∀ (pins : List (Addr × Obj)) (s : Shared) (σ : St) (H : Hp) (vs : List V) (us : List Value) (Q : St -> Hp -> Prop), Inv X pins σ H s -> Vals vs us -> t vs σ H Q →
  wpAny (model X.prog X.w) X.A (assignInOrder ((assignEach ts X.env).map (·.2)) us) (fun _ s' => ∃ σ' H', Inv X pins σ' H' s' /\ Q σ' H') X.xe s
abbrev TSet := V -> V -> V -> Hp -> (Hp -> Prop) -> Prop
def Zoh (X : Cx) (t : TSet) : Prop :=
 ∀ (pins : List (Addr × Obj)) (s : Shared) (σ : St) (H : Hp) (o i v : V) (ov iv u : Value) (Q : Hp -> Prop), Inv X pins σ H s -> RelV o ov -> RelV i iv -> RelV v u -> t o i v H Q →
  wpAny (model X.prog X.w) X.A (setItem ov iv u) (fun _ s' => ∃ H', Inv X pins σ H' s' /\ Q H') X.xe s
abbrev TIp := V -> V -> Hp -> VK -> Prop
def PIp (X : Cx) (op : Operator) (t : TIp) : Prop :=
 ∀ (pins : List (Addr × Obj)) (s : Shared) (σ : St) (H : Hp) (x y : V) (v u : Value) (Q : VK), Inv X pins σ H s -> RelV x v -> RelV y u -> t x y H Q →
  wpAny (model X.prog X.w) X.A (inplaceOp op v u) (EP X pins σ Q) X.xe s
section
variable {X : Cx} {pos : Pos}
def Z83 (i : Nat) : TG := fun v σ H Q => Q (σ.set i (some v)) H
theorem Z0t {i : Nat} {x : Str} (hN : X.N.Nodup) (hi : X.N[i]? = some x) (hx : Loc X.env.scope x) (hf : X.fn x = true ∨ X.env.scope.names.lookup x = some .local := by first | exact .inl rfl | exact .inr rfl | assumption) : PG X (.Name x pos) (Z83 i) := by
 intro pins s σ H v u Q I r h
 exact wpAny_assign_Name (Z6z I hN hi hx r (fun s' I' => ⟨_, H, I', h⟩) hf)
def gNil : TGs := fun vs σ H Q => vs = [] /\ Q σ H
def Zim (t : TG) (u : TGs) : TGs := fun vs σ H Q => ∃ v r, vs = v :: r /\ t v σ H fun σ' H' => u r σ' H' Q
theorem Z70 : PGs X [] gNil := by
 intro pins s σ H vs us Q I r h
 obtain ⟨e, h⟩ := h
 subst e
 cases r
 exact assignInOrder_nil ⟨σ, H, I, h⟩
theorem Z20 {e : Expr} {es : List Expr} {t : TG} {u : TGs} (h1 : PG X e t) (h2 : PGs X es u)
  (hs : (assignEach (e :: es) X.env).map (·.2) = assign e X.env :: (assignEach es X.env).map (·.2) := by rfl) : PGs X (e :: es) (Zim t u) := by
 intro pins s σ H vs us Q I r h
 obtain ⟨v, vr, e1, h⟩ := h
 subst e1
 cases r with
 | cons r rr =>
  rw [hs]
  refine assignInOrder_cons (thn (h1 pins s σ H _ _ _ I r h) fun _ s1 ⟨σ1, H1, I1, q1⟩ => ?_)
  exact h2 pins s1 σ1 H1 _ _ Q I1 rr q1
def Zoi (K : PySem.W.Frag) (n : Nat) (t : TGs) : TG := fun v σ H Q => ∃ a xs, v = .ref a /\ SqT K H a xs /\ xs.length = n /\ t xs σ H Q
theorem Zaa {es : List Expr} {k : Nat} {t : TGs} {n : Nat} (hc : X.calm = true) (h : PGs X es t)
  (hn : (assignEach es X.env).length = n := by rfl) (hst : (assignEach es X.env).findIdx? (·.1) = none := by rfl) : PG X (.Tuple es k pos) (Zoi X.K n t) := by
 intro pins s σ H v u Q I r hw
 obtain ⟨a, xs, e1, hq, hl, hw⟩ := hw
 subst e1
 cases r
 obtain ⟨its, rv, ht, hz⟩ := I.tuple hq
 refine assign_Tuple_tuple (I.ok.hd hc) ht (by simp [hn, <- hl, rv.length]) hst fun h' hx => ?_
 have I1 : Inv X pins σ H { s with heap := h' } := I.kept (t' := s.toks) fun b o e => hx b o (Nat.ne_of_lt (Heap.lt_size e)) e
 exact h pins _ σ H xs _ Q I1 (by simpa using rv) hw
def Zp5 (to ti : TE) (t : TSet) : TG := fun v σ H Q => to σ H fun o H1 => ti σ H1 fun i H2 => t o i v H2 fun H3 => Q σ H3
theorem Zl6 {o i : Expr} {to ti : TE} {t : TSet} (ho : PE X o to) (hi : PE X i ti) (hs : Zoh X t)
  (ha : ∀ v, assign (.Subscript o i pos) X.env v = (do
   let ov ← holding [v] (eval o X.env)
   let iv ← holding [v, ov] (eval i X.env)
   standAt pos
   holding [v, ov, iv] (setItem ov iv v)
   release [v, ov, iv] []) := by intro _; rfl) : PG X (.Subscript o i pos) (Zp5 to ti t) := by
 intro pins s σ H v u Q I r h
 rw [ha]
 refine wpAny_bind (wpAny_holding (thn (ho pins s σ H _ I h) fun ov s1 ⟨x, H1, I1, r1, q1⟩ => ?_))
 refine wpAny_bind (wpAny_holding (thn (hi pins s1 σ H1 _ I1 q1) fun iv s2 ⟨y, H2, I2, r2, q2⟩ => ?_))
 refine wpAny_bind (wpAny_standAt (wpAny_bind (wpAny_holding (thn (hs pins s2 σ H2 x y v ov iv u _ I2 r1 r2 r q2) fun _ s3 ⟨H3, I3, q3⟩ => ?_))))
 exact wpAny_release ⟨σ, H3, I3, q3⟩
def Zkx (te : TE) (g : TG) : TS := fun D σ H => te σ H fun x H1 => g x σ H1 D.nx
theorem Zd3 {tg e : Expr} {te : TE} {g : TG} (he : PE X e te) (hg : PG X tg g) (hs : swapsWithSole [tg] e pos.line X.env = pure false := by rfl) (hw : swappedStores [tg] e X.env = pure none := by rfl)
  (h1 : (assignEach [tg] X.env).map (·.2) = [assign tg X.env] := by rfl) : PS X (.Assign [tg] e pos) (Zkx te g) := by
 intro pins s σ H D I h
 refine wpAny_Assign_stores (thn (he pins s σ H _ I h) fun v s1 ⟨x, H1, I1, r1, q1⟩ => ?_) hs hw
 rw [h1]
 exact thn (hg pins s1 σ H1 x v _ I1 r1 q1) fun _ s2 q => q
theorem Z08 {i : Nat} {x : Str} {e : Expr} {te : TE} {pos' : Pos} (hN : X.N.Nodup) (hi : X.N[i]? = some x) (hx : Loc X.env.scope x) (he : PE X e te) (hs : swapsWith e (some (.Name x pos')) pos.line X.env = pure false := by rfl) (hf : X.fn x = true ∨ X.env.scope.names.lookup x = some .local := by first | exact .inl rfl | exact .inr rfl | assumption) :
  PS X (.Assign [.Name x pos'] e pos) (Zkx te (Z83 i)) := by
 intro pins s σ H D I h
 refine wpAny_Assign_Name (thn (he pins s σ H _ I h) fun v s1 ⟨y, H1, I1, r1, q1⟩ => ?_) hs
 exact Z6z I1 hN hi hx r1 (fun s2 I2 => ⟨_, H1, I2, q1⟩) hf
def Zp6 (i : Nat) (te : TE) (ti : TIp) : TS := fun D σ H => ∃ x, σ[i]? = some (some x) /\ te σ H fun y H1 => ti x y H1 fun z H2 => D.nx (σ.set i (some z)) H2
theorem Zhk {i : Nat} {x : Str} {e : Expr} {te : TE} {op : Operator} {ti : TIp} {pos' : Pos} (hN : X.N.Nodup) (hi : X.N[i]? = some x) (hx : Loc X.env.scope x) (he : PE X e te) (ho : PIp X op ti) (hf : X.fn x = true ∨ X.env.scope.names.lookup x = some .local := by first | exact .inl rfl | exact .inr rfl | assumption) :
  PS X (.AugAssign (.Name x pos') op e pos) (Zp6 i te ti) := by
 intro pins s σ H D I h
 obtain ⟨v, e1, h⟩ := h
 obtain ⟨m, hn, hl⟩ := I.loc
 have vis : Vis X.env.scope x := by rcases hx with k | k; exact .inl k; exact .inr (.inl k)
 obtain ⟨u, r, l⟩ := hl i x v hi e1 vis
 refine wpAny_AugAssign_Name ?_
 have go : wpAny (model X.prog X.w) X.A (eval e X.env) (fun w s₂ => wpAny (model X.prog X.w) X.A (inplaceOp op u w) (fun r s₃ => wpAny (model X.prog X.w) X.A (storeName X.env x r) (fun _ => SP X pins D .next) X.xe s₃) X.xe s₂) X.xe s := by
  refine thn (he pins s σ H _ I h) fun w s1 ⟨y, H1, I1, r1, q1⟩ => ?_
  refine thn (ho pins s1 σ H1 v y u w _ I1 r r1 q1) fun z s2 ⟨zv, H2, I2, r2, q2⟩ => ?_
  exact Z6z I2 hN hi hx r2 (fun s3 I3 => ⟨_, H2, I3, q2⟩) hf
 rcases l with ⟨hk, hm⟩ | ⟨hk, c, hc, hcell⟩
 ·exact wpAny_loadName_local I.ok.kind hk hn hm go
 ·rcases hk with hk | hk
  ·exact wpAny_loadName_cell I.ok.kind hk hc hcell go
  ·rcases hx with k | k
   ·have : X.env.scope.names.lookup x = some .free := hk
    rw [k] at this; cases this
   ·have : X.env.scope.names.lookup x = some .free := hk
    rw [k] at this; cases this
def ipI (f : Int -> Int -> Int) : TIp := fun x y H Q => ∃ i j, x = .int i /\ y = .int j /\ Q (.int (f i j)) H
theorem Zl7 : PIp X .Add (ipI fun i j => i + j) := by
 intro pins s σ H x y v u Q I r1 r2 h
 obtain ⟨i, j, e1, e2, q⟩ := h
 subst e1; subst e2
 obtain ⟨t, rfl⟩ := r1
 obtain ⟨t', rfl⟩ := r2
 exact iadd_int ⟨.int _, H, I.tok _, ⟨_, rfl⟩, q⟩
theorem Zl8 : PIp X .Sub (ipI fun i j => i - j) := by
 intro pins s σ H x y v u Q I r1 r2 h
 obtain ⟨i, j, e1, e2, q⟩ := h
 subst e1; subst e2
 obtain ⟨t, rfl⟩ := r1
 obtain ⟨t', rfl⟩ := r2
 exact isub_int ⟨.int _, H, I.tok _, ⟨_, rfl⟩, q⟩
end
section
variable {X : Cx} {pos : Pos}
def Zd4 (c : TT) (tb : TS) : TS := fun D σ H => ∃ W : Nat -> St -> Hp -> Prop, (∃ m, W m σ H) /\ ∀ m σ H, W m σ H →
 c σ H fun b H1 => if b = true then ∃ N : St -> Hp -> Prop, (∀ σ' H', N σ' H' -> ∃ m', m' < m /\ W m' σ' H') /\ tb { D with nx := N, ct := N, bk := D.nx } σ H1 else D.nx σ H1
theorem Z71 {c : Expr} {body : List Stmt} {tc : TT} {tb : TS} (hp : PassesOwn (model X.prog X.w) X.A X.env X.xe) (hc : PT X c tc) (hb : PSs X body tb) : PS X (.While c body [] pos) (Zd4 tc tb) := by
 intro pins s σ H D I h
 obtain ⟨W, ⟨m0, w0⟩, turn⟩ := h
 refine wpAny_While (codeAny_whileLoop (fun n s' => ∃ σ' H', Inv X pins σ' H' s' /\ W n σ' H') ?_ m0 ⟨σ, H, I, w0⟩)
 rintro n s1 ⟨σ1, H1, I1, w1⟩
 refine wpAny_passesOwn hp (thn (hc pins s1 σ1 H1 _ I1 (turn n σ1 H1 w1)) fun b s2 ⟨H2, I2, q2⟩ => ?_)
 cases b with
 | true =>
  obtain ⟨N, hN, q2⟩ := q2
  rw [if_pos rfl]
  refine wpAny_passesOwn hp (thn (hb pins s2 σ1 H2 _ I2 q2) fun f s3 q3 => ?_)
  cases f with
  | next =>
   obtain ⟨σ3, H3, I3, n3⟩ := q3
   obtain ⟨m', hm, w3⟩ := hN σ3 H3 n3
   exact ⟨m', hm, σ3, H3, I3, w3⟩
  | cont =>
   obtain ⟨σ3, H3, I3, n3⟩ := q3
   obtain ⟨m', hm, w3⟩ := hN σ3 H3 n3
   exact ⟨m', hm, σ3, H3, I3, w3⟩
  | brk => exact q3
  | ret v => exact q3
 | false =>
  rw [if_neg Bool.false_ne_true]
  exact wpAny_execs_nil ⟨σ1, H2, I2, q2⟩
end
structure It where
 go : Nat -> Hp -> Prop
 yld : Nat -> Hp -> V -> Hp -> Prop
 stop : Nat -> Hp -> Prop
def Z3u (X : Cx) (pins : List (Addr × Obj)) (H : Hp) (b : Addr) : Prop :=
 H b = none /\ b ≠ X.env.locals /\ b ∉ X.fs /\ (b ∈ X.ex ∨ X.s₀.heap.objs.size <= b) /\ (∀ x c, X.env.cells.lookup x = some c -> c ≠ b) /\ ∀ p ∈ X.pn ++ pins, p.1 ≠ b
theorem Inv.fpOk {X : Cx} {pins : List (Addr × Obj)} {σ : St} {H H' : Hp} {s : Shared} {b : Addr} (I : Inv X pins σ H s) (hb : s.heap.objs.size <= b) (hn : H' b = none) : Z3u X pins H' b := by
 refine ⟨hn, Nat.ne_of_gt (Nat.lt_of_lt_of_le I.lt hb), I.nofs hb, .inr (Nat.le_trans I.sz hb), fun x c e z => ?_, fun p hp z => ?_⟩
 ·obtain ⟨v, q⟩ := I.cell x c e
  exact absurd (Nat.lt_of_lt_of_le q.lt (by rw [z]; exact hb)) (Nat.lt_irrefl _)
 ·exact absurd (Nat.lt_of_lt_of_le (Heap.lt_size (I.pin p hp).1) (by rw [z]; exact hb)) (Nat.lt_irrefl _)
structure Turn (P : Program) (w : World) (K : PySem.W.Frag) (tg : Expr) (J : It) (fp : List Addr) (it : Addr) (tn : Nat -> Heap -> Prop) : Prop where
 mem : it ∈ fp
 obj : ∀ i h, tn i h -> ∀ b ∈ fp, ∃ o, h.get? b = some o /\ ∀ v, o.data ≠ .cell v
 keep : ∀ i h h', tn i h -> (∀ b ∈ fp, ∀ o, h.get? b = some o -> h'.get? b = some o) -> tn i h'
 item : ∀ (X : Cx), X.prog = P -> X.w = w -> X.K = K -> X.calm = true -> ∀ (i : Nat) (pins : List (Addr × Obj)) (s : Shared) (σ : St) (H : Hp) (E : Value -> Shared -> Prop), Inv X pins σ H s -> (∀ b ∈ fp, Z3u X pins H b) -> tn i s.heap -> J.go i H →
  wpAny (model P w) X.A (pyNext (.ref it)) (fun r s1 => ∃ u, r = some u ∧
   wpAny (model P w) X.A (letOwnedTupleGo tg (.ref it) u) (fun _ s2 => ∃ x H', Inv X pins σ H' s2 /\ RelV x u /\ J.yld i H x H' /\ tn (i + 1) s2.heap /\ ∀ b ∈ fp, H' b = none) E s1) E s
 done : ∀ (X : Cx), X.prog = P -> X.w = w -> X.K = K -> X.calm = true -> ∀ (i : Nat) (pins : List (Addr × Obj)) (s : Shared) (σ : St) (H : Hp) (E : Value -> Shared -> Prop), Inv X pins σ H s -> (∀ b ∈ fp, Z3u X pins H b) -> tn i s.heap -> J.stop i H →
  wpAny (model P w) X.A (pyNext (.ref it)) (fun r s1 => r = none /\ Inv X pins σ H s1) E s
 self : ∀ (A : Around) (i : Nat) (s : Shared) (Q : Value -> Shared -> Prop) (E : Value -> Shared -> Prop), tn i s.heap -> Q (.ref it) s -> wpAny (model P w) A (pyIter (.ref it)) Q E s
abbrev TI := St -> Hp -> (It -> Hp -> Prop) -> Prop
def PIE (X : Cx) (pins : List (Addr × Obj)) (σ : St) (tg : Expr) (R : It -> Hp -> Prop) (itv : Value) (s2 : Shared) : Prop :=
 ∃ (it : Addr) (fp : List Addr) (tn : Nat -> Heap -> Prop) (J : It) (H' : Hp), itv = .ref it /\ Inv X pins σ H' s2 /\ Turn X.prog X.w X.K tg J fp it tn /\ tn 0 s2.heap /\ (∀ b ∈ fp, Z3u X pins H' b) /\ R J H'
def PI (X : Cx) (tg iter : Expr) (wi : TI) : Prop :=
 ∀ (pins : List (Addr × Obj)) (s : Shared) (σ : St) (H : Hp) (R : It -> Hp -> Prop), Inv X pins σ H s -> wi σ H R →
  wpAny (model X.prog X.w) X.A (eval iter X.env) (fun v s1 => wpAny (model X.prog X.w) X.A (pyIter v) (PIE X pins σ tg R) X.xe s1) X.xe s
theorem Zfs {M : Model} {A : Around} {E : Value -> Shared -> Prop} {s : Shared} {tg : Expr} {it : Addr} {u : Value} {o : Obj} {n : String} {vs : Array Value} {Q : Unit -> Shared -> Prop} (ho : s.heap.get? it = some o) (hc : o.cls = .type n) (hd : o.data = .fields vs)
  (hn : ["enumerate", "zip", "dict_itemiterator", "dict_reverseitemiterator", "odict_iterator", "itertools.zip_longest", "itertools.pairwise"].contains n = false) (hQ : Q () s) : wpAny M A (letOwnedTupleGo tg (.ref it) u) Q E s := by
 unfold letOwnedTupleGo
 cases tg <;> first
  | exact wpAny_pure hQ
  | (cases u <;> first
    | exact wpAny_pure hQ
    | (refine wpAny_bind (wpAny_load ho ?_)
       rw [hc, hd]
       show wpAny M A (if (["enumerate", "zip", "dict_itemiterator", "dict_reverseitemiterator", "odict_iterator", "itertools.zip_longest", "itertools.pairwise"].contains n && vs[0]? == some (rawInt _)) = true then _ else _) Q E s
       rw [if_neg (by intro h; rw [hn, Bool.false_and] at h; cases h)]
       exact wpAny_pure hQ))
def Itl (K : PySem.W.Frag) (a : Addr) : It :=
 ⟨fun i H => ∃ xs x, SqL K H a xs /\ xs[i]? = some x, fun i H x H' => H' = H /\ ∀ xs, SqL K H a xs -> xs[i]? = some x, fun i H => ∃ xs, SqL K H a xs /\ xs.length <= i⟩
def Itt (K : PySem.W.Frag) (a : Addr) : It :=
 ⟨fun i H => ∃ xs x, SqT K H a xs /\ xs[i]? = some x, fun i H x H' => H' = H /\ ∀ xs, SqT K H a xs -> xs[i]? = some x, fun i H => ∃ xs, SqT K H a xs /\ xs.length <= i⟩
def Itr (lo : Int) (n : Nat) : It := ⟨fun i _ => i < n, fun i H x H' => H' = H /\ x = .int (lo + i), fun i _ => n <= i⟩
theorem Zd5 {P : Program} {w : World} {K : PySem.W.Frag} {tg : Expr} (a it : Addr) : Turn P w K tg (Itl K a) [it] it (fun i h => h.IsListIter it a i) where
 mem := by simp
 obj := fun i h st b hb => by
  have e : b = it := by simpa using hb
  subst e
  obtain ⟨o, e, c, d⟩ := st
  exact ⟨o, e, fun v z => by rw [d] at z; cases z⟩
 keep := fun i h h' st k => st.at fun o e => k it (by simp) o e
 item := by
  intro X hP hw hK hc i pins s σ H E I hf st hg
  subst hP hw hK
  obtain ⟨xs, x, hq, hx⟩ := hg
  obtain ⟨its, rv, p, hz⟩ := I.list hq
  obtain ⟨u, hu, ru⟩ := rv.get hx
  obtain ⟨f0, f1, f2, f3, f4, f5⟩ := hf it (by simp)
  refine wpAny_pyNext_list_item st p.isList (x := u) (by simpa using hu) fun h' st' sb => ?_
  have I1 : Inv X pins σ H { s with heap := h' } := I.turned (t' := s.toks) (fun b o hb e => (sb.2 b hb).trans e) f0 f1 f3 f4 f5
  obtain ⟨o, e, c, d⟩ := id st'
  exact ⟨u, rfl, Zfs (s := { s with heap := h' }) e c d (by decide) ⟨x, H, I1, ru, ⟨rfl, fun ys hy => by rw [I.list_inj hy hq]; exact hx⟩, st', fun b hb => (hf b hb).1⟩⟩
 done := by
  intro X hP hw hK hc i pins s σ H E I hf st hg
  subst hP hw hK
  obtain ⟨xs, hq, hx⟩ := hg
  obtain ⟨its, rv, p, hz⟩ := I.list hq
  obtain ⟨f0, f1, f2, f3, f4, f5⟩ := hf it (by simp)
  have hl := rv.length
  exact wpAny_pyNext_list_end (I.ok.hd hc) st p.isList (by simp; omega) fun h' eb => ⟨rfl, I.turned (t' := s.toks) (fun b o hb e => eb b o hb e) f0 f1 f3 f4 f5⟩
 self := fun _ _ _ _ _ st h => wpAny_pyIter_listiter st h
theorem Zbw {P : Program} {w : World} {K : PySem.W.Frag} {tg : Expr} (a it : Addr) : Turn P w K tg (Itt K a) [it] it (fun i h => h.IsTupleIter it a i) where
 mem := by simp
 obj := fun i h st b hb => by
  have e : b = it := by simpa using hb
  subst e
  obtain ⟨o, e, c, d⟩ := st
  exact ⟨o, e, fun v z => by rw [d] at z; cases z⟩
 keep := fun i h h' st k => st.at fun o e => k it (by simp) o e
 item := by
  intro X hP hw hK hc i pins s σ H E I hf st hg
  subst hP hw hK
  obtain ⟨xs, x, hq, hx⟩ := hg
  obtain ⟨its, rv, p, hz⟩ := I.tuple hq
  obtain ⟨u, hu, ru⟩ := rv.get hx
  obtain ⟨f0, f1, f2, f3, f4, f5⟩ := hf it (by simp)
  refine wpAny_pyNext_tuple_item st (show s.heap.IsTuple a its.toArray from p) (x := u) (by simpa using hu) fun h' st' sb => ?_
  have I1 : Inv X pins σ H { s with heap := h' } := I.turned (t' := s.toks) (fun b o hb e => (sb.2 b hb).trans e) f0 f1 f3 f4 f5
  obtain ⟨o, e, c, d⟩ := id st'
  exact ⟨u, rfl, Zfs (s := { s with heap := h' }) e c d (by decide) ⟨x, H, I1, ru, ⟨rfl, fun ys hy => by rw [I.tuple_inj hy hq]; exact hx⟩, st', fun b hb => (hf b hb).1⟩⟩
 done := by
  intro X hP hw hK hc i pins s σ H E I hf st hg
  subst hP hw hK
  obtain ⟨xs, hq, hx⟩ := hg
  obtain ⟨its, rv, p, hz⟩ := I.tuple hq
  obtain ⟨f0, f1, f2, f3, f4, f5⟩ := hf it (by simp)
  have hl := rv.length
  exact wpAny_pyNext_tuple_end (I.ok.hd hc) st (show s.heap.IsTuple a its.toArray from p) (by simp; omega) fun h' eb => ⟨rfl, I.turned (t' := s.toks) (fun b o hb e => eb b o hb e) f0 f1 f3 f4 f5⟩
 self := fun _ _ _ _ _ st h => wpAny_pyIter_tupleiter st h
theorem Zbx {P : Program} {w : World} {K : PySem.W.Frag} {tg : Expr} (it : Addr) (lo : Int) (n : Nat) : Turn P w K tg (Itr lo n) [it] it (fun i h => IsRangeIter h it (lo + (i : Nat) * 1) ((n : Int) - (i : Nat)) 1) where
 mem := by simp
 obj := fun i h st b hb => by
  have e : b = it := by simpa using hb
  subst e
  exact ⟨_, st, fun v z => by
   have z' : Data.fields _ = Data.cell v := z
   cases z'⟩
 keep := fun i h h' st k => k it (by simp) _ st
 item := by
  intro X hP hw hK hc i pins s σ H E I hf st hg
  subst hP hw hK
  obtain ⟨f0, f1, f2, f3, f4, f5⟩ := hf it (by simp)
  have W := Walks.range (prog := X.prog) (w := X.w) (I.ok.hd hc) it lo 1 n
  refine W.item i s _ _ hg st fun v h' tk hv st' kk => ?_
  obtain ⟨t, rfl⟩ := hv
  have I1 : Inv X pins σ H { s with heap := h', toks := tk } := I.turned (fun b o hb e => kk b o (by simpa using hb) e) f0 f1 f3 f4 f5
  refine ⟨_, rfl, Zfs (s := { s with heap := h', toks := tk }) (n := "range_iterator") st' rfl rfl (by decide) ⟨.int (lo + i), H, I1, ⟨t, ?_⟩, ⟨rfl, rfl⟩, st', fun b hb => (hf b hb).1⟩⟩
  rw [Int.mul_one]
 done := by
  intro X hP hw hK hc i pins s σ H E I hf st hg
  subst hP hw hK
  obtain ⟨f0, f1, f2, f3, f4, f5⟩ := hf it (by simp)
  exact wpAny_pyNext_range_end (I.ok.hd hc) st (by have : n <= i := hg; omega) fun h' eb => ⟨rfl, I.turned (t' := s.toks) (fun b o hb e => eb b o hb e) f0 f1 f3 f4 f5⟩
 self := fun _ _ _ _ _ st h => wpAny_pyIter_rangeiter st h
section
variable {X : Cx} {tg : Expr}
def Zn7 (K : PySem.W.Frag) (tl : TE) : TI := fun σ H R => tl σ H fun x H1 => ∃ a, x = .ref a /\ (∃ xs, SqL K H1 a xs) /\ R (Itl K a) H1
def Zp7 (K : PySem.W.Frag) (tl : TE) : TI := fun σ H R => tl σ H fun x H1 => ∃ a, x = .ref a /\ (∃ xs, SqT K H1 a xs) /\ R (Itt K a) H1
theorem Z2k {l : Expr} {tl : TE} (hl : PE X l tl) : PI X tg l (Zn7 X.K tl) := by
 intro pins s σ H R I h
 refine thn (hl pins s σ H _ I h) fun v s1 ⟨x, H1, I1, r1, q1⟩ => ?_
 obtain ⟨a, e, ⟨xs, hq⟩, q⟩ := q1
 subst e
 cases r1
 obtain ⟨its, rv, p, hz⟩ := I1.list hq
 refine wpAny_pyIter_list p.isList ?_
 refine ⟨s1.heap.objs.size, [s1.heap.objs.size], _, _, H1, rfl, I1.kept (t' := s1.toks) fun b o e => Heap.get?_push_of_some _ e, Zd5 a _, ⟨_, Heap.get?_push_size _ rfl, rfl, rfl⟩, fun b hb => ?_, q⟩
 have e : b = s1.heap.objs.size := by simpa using hb
 subst e
 exact I1.fpOk (Nat.le_refl _) (I1.hok.fresh (Nat.le_refl _))
theorem Z6h {l : Expr} {tl : TE} (hl : PE X l tl) : PI X tg l (Zp7 X.K tl) := by
 intro pins s σ H R I h
 refine thn (hl pins s σ H _ I h) fun v s1 ⟨x, H1, I1, r1, q1⟩ => ?_
 obtain ⟨a, e, ⟨xs, hq⟩, q⟩ := q1
 subst e
 cases r1
 obtain ⟨its, rv, p, hz⟩ := I1.tuple hq
 refine wpAny_pyIter_tuple (show s1.heap.IsTuple a its.toArray from p) ?_
 refine ⟨s1.heap.objs.size, [s1.heap.objs.size], _, _, H1, rfl, I1.kept (t' := s1.toks) fun b o e => Heap.get?_push_of_some _ e, Zbw a _, ⟨_, Heap.get?_push_size _ rfl, rfl, rfl⟩, fun b hb => ?_, q⟩
 have e : b = s1.heap.objs.size := by simpa using hb
 subst e
 exact I1.fpOk (Nat.le_refl _) (I1.hok.fresh (Nat.le_refl _))
theorem Zft {pins : List (Addr × Obj)} {σ : St} {H : Hp} {s : Shared} {R : It -> Hp -> Prop} {E : Value -> Shared -> Prop} {lo hi : Int} {t u v : Tok} {tk : Nat} (I : Inv X pins σ H s) (h1 : -(2 ^ 62) <= lo) (h2 : lo < 2 ^ 62) (h3 : -(2 ^ 62) <= hi) (h4 : hi < 2 ^ 62)
  (q : R (Itr lo (hi - lo).toNat) H) : wpAny (model X.prog X.w) X.A (pyIter (.ref s.heap.objs.size)) (PIE X pins σ tg R) E { s with heap := s.heap.push { cls := .type "range", data := .fields #[.int lo t, .int hi u, .int 1 v] }, toks := tk } := by
 refine wpAny_pyIter_range (IsRange.new ..) (small_one h1 h2 h3 h4) ?_
 have I1 : Inv X pins σ H { s with heap := s.heap.push { cls := .type "range", data := .fields #[.int lo t, .int hi u, .int 1 v] }, toks := tk } := I.kept fun b o e => Heap.get?_push_of_some _ e
 refine ⟨(s.heap.push { cls := .type "range", data := .fields #[.int lo t, .int hi u, .int 1 v] }).objs.size, [(s.heap.push { cls := .type "range", data := .fields #[.int lo t, .int hi u, .int 1 v] }).objs.size], _, _, H, rfl,
  I1.kept (t' := tk) fun b o e => Heap.get?_push_of_some _ e, Zbx _ lo (hi - lo).toNat, ?_, fun b hb => ?_, q⟩
 ·have e1 : lo + ((0 : Nat) : Int) * 1 = lo := by simp
  have e2 : (((hi - lo).toNat : Nat) : Int) - ((0 : Nat) : Int) = Builtin.Range.rangeSize lo hi 1 := by rw [rangeSize_one]; split <;> omega
  show IsRangeIter _ _ (lo + ((0 : Nat) : Int) * 1) ((((hi - lo).toNat : Nat) : Int) - ((0 : Nat) : Int)) 1
  rw [e1, e2]
  exact Heap.get?_push_size _ rfl
 ·have e : b = (s.heap.push { cls := .type "range", data := .fields #[.int lo t, .int hi u, .int 1 v] }).objs.size := by simpa using hb
  subst e
  exact I1.fpOk (Nat.le_refl _) (I1.hok.fresh (Nat.le_refl _))
def Zn8 (ta : TA) : TI := fun σ H R => ta σ H fun vs H1 => ∃ j : Int, vs = [.int j] /\ -(2 ^ 62) <= j /\ j < 2 ^ 62 /\ R (Itr 0 j.toNat) H1
theorem Z2s {a : Expr} {ta : TA} {p pos : Pos} (hg : Gl X "range") (hm : X.mg "range" = none) (ha : PA X [a] ta) (hs : starEach [a] X.env = [(false, eval a X.env)] := by rfl) : PI X tg (.Call (.Name "range" p) [a] [] pos) (Zn8 ta) := by
 intro pins s σ H R I h
 refine Call_ (Z5a I hg hm boot_range (PyProof.Rows.callWith_type1 (thn (ha pos pins s σ H _ I h) fun us s1 ⟨vs, H1, I1, r1, q1⟩ => ?_) hs rfl))
 obtain ⟨j, e, q1, q2, q⟩ := q1
 subst e
 cases r1 with
 | cons r rr =>
  cases rr
  obtain ⟨t, rfl⟩ := r
  exact call_range_1 (Zft I1 (by omega) (by omega) q1 q2 (by simpa using q))
def Zp8 (wi : TI) (g : TG) (tb : TS) : TS := fun D σ H => wi σ H fun J H1 => ∃ W : Nat -> Nat -> St -> Hp -> Prop, (∃ m, W 0 m σ H1) /\ ∀ i m σ H, W i m σ H →
 (J.stop i H /\ D.nx σ H) ∨ (J.go i H /\ ∃ N : St -> Hp -> Prop, (∀ σ' H', N σ' H' -> ∃ m', m' < m /\ W (i + 1) m' σ' H') /\ ∀ x H', J.yld i H x H' -> g x σ H' fun σ2 H2 => tb { D with nx := N, ct := N, bk := D.nx } σ2 H2)
def Z6i (fp : List Addr) (h : Heap) : List (Addr × Obj) := fp.filterMap fun b => (h.get? b).map fun o => (b, o)
theorem Z23 {fp : List Addr} {h : Heap} {b : Addr} {o : Obj} (hb : b ∈ fp) (e : h.get? b = some o) : (b, o) ∈ Z6i fp h := List.mem_filterMap.mpr ⟨b, hb, by rw [e]; rfl⟩
theorem Zd6 {fp : List Addr} {h : Heap} {p : Addr × Obj} (hp : p ∈ Z6i fp h) : p.1 ∈ fp /\ h.get? p.1 = some p.2 := by
 obtain ⟨b, hb, e⟩ := List.mem_filterMap.mp hp
 cases q : h.get? b with
 | none => rw [q] at e; cases e
 | some o =>
  rw [q] at e
  have e' : (b, o) = p := Option.some.inj e
  subst e'
  exact ⟨hb, q⟩
theorem Inv.pinned {pins : List (Addr × Obj)} {σ : St} {H : Hp} {s : Shared} {fp : List Addr} (I : Inv X pins σ H s) (hf : ∀ b ∈ fp, Z3u X pins H b) (ho : ∀ b ∈ fp, ∃ o, s.heap.get? b = some o /\ ∀ v, o.data ≠ .cell v) : Inv X (pins ++ Z6i fp s.heap) σ H s :=
 I.pins_of fun p hp => (List.mem_append.mp hp).elim (fun z => I.pin p (List.mem_append_right _ z)) fun z => by
  obtain ⟨hb, e⟩ := Zd6 z
  obtain ⟨f0, f1, f2, _⟩ := hf p.1 hb
  obtain ⟨o, e', d⟩ := ho p.1 hb
  rw [e] at e'; cases e'
  exact ⟨e, f0, f1, f2, d⟩
theorem Inv.unpinned {pins pl : List (Addr × Obj)} {σ : St} {H : Hp} {s : Shared} (I : Inv X (pins ++ pl) σ H s) : Inv X pins σ H s := I.pins_of fun p hp => I.pin p (List.mem_append_right _ (List.mem_append_left _ hp))
theorem Z5c {iter : Expr} {body : List Stmt} {wi : TI} {g : TG} {tb : TS} {pos : Pos} (hp : PassesOwn (model X.prog X.w) X.A X.env X.xe) (hc : X.calm = true) (hi : PI X tg iter wi) (hg : PG X tg g) (hb : PSs X body tb)
  (hs : ∀ x, foldedSetIterable iter X.env x = pure x := by intro _; rfl) : PS X (.For tg iter body [] pos) (Zp8 wi g tb) := by
 intro pins s σ H D I h
 refine wpAny_For (thn (hi pins s σ H _ I h) fun v s1 h1 => thn h1 fun itv s2 h2 => ?_) hs
 obtain ⟨it, fp, tn, J, H2, e, I2, T, st2, f2, W, ⟨m0, w0⟩, turn⟩ := h2
 subst e
 have stat : ∀ {H' : Hp}, (∀ b ∈ fp, H' b = none) -> ∀ b ∈ fp, Z3u X pins H' b := fun hn b hb => ⟨hn b hb, (f2 b hb).2⟩
 refine codeAny_forLoop_any (fun n s' => ∃ i σ' H', Inv X pins σ' H' s' /\ tn i s'.heap /\ (∀ b ∈ fp, H' b = none) /\ W i n σ' H') ?_ m0 ⟨0, σ, H2, I2, st2, fun b hb => (f2 b hb).1, w0⟩
 rintro n s3 ⟨i, σ3, H3, I3, st3, fr3, w3⟩
 rcases turn i n σ3 H3 w3 with ⟨stop, qn⟩ | ⟨go, N, hN, step⟩
 ·refine wpAny_passesOwn hp (thn (T.done X rfl rfl rfl hc i pins s3 σ3 H3 X.xe I3 (stat fr3) st3 stop) fun r s4 ⟨hr, I4⟩ => ?_)
  subst hr
  exact wpAny_execs_nil ⟨σ3, H3, I4, qn⟩
 ·refine wpAny_passesOwn hp (thn (T.item X rfl rfl rfl hc i pins s3 σ3 H3 X.xe I3 (stat fr3) st3 go) fun r s4 ⟨u, hr, h4⟩ => ?_)
  subst hr
  refine wpAny_passesOwn hp (thn h4 fun _ s5 ⟨x, H5, I5, r5, y5, st5, fr5⟩ => ?_)
  have I5' := I5.pinned (stat fr5) (T.obj _ _ st5)
  refine wpAny_passesOwn hp (thn (hg _ s5 σ3 H5 x u _ I5' r5 (step x H5 y5)) fun _ s6 ⟨σ6, H6, I6, q6⟩ => ?_)
  refine wpAny_passesOwn hp (thn (hb _ s6 σ6 H6 _ I6 q6) fun f s7 q7 => ?_)
  have again : ∀ {σ7 : St} {H7 : Hp}, Inv X (pins ++ Z6i fp s5.heap) σ7 H7 s7 -> N σ7 H7 -> ∃ m, m < n /\ ∃ i σ' H', Inv X pins σ' H' s7 /\ tn i s7.heap /\ (∀ b ∈ fp, H' b = none) /\ W i m σ' H' := fun {σ7 H7} I7 n7 => by
   obtain ⟨m', hm, w7⟩ := hN σ7 H7 n7
   refine ⟨m', hm, i + 1, σ7, H7, I7.unpinned, T.keep _ _ _ st5 fun b hb o e => (I7.pin (b, o) (List.mem_append_right _ (List.mem_append_right _ (Z23 hb e)))).1, fun b hb => ?_, w7⟩
   obtain ⟨o, e, d⟩ := T.obj _ _ st5 b hb
   exact (I7.pin (b, o) (List.mem_append_right _ (List.mem_append_right _ (Z23 hb e)))).2.1
  cases f with
  | next => obtain ⟨σ7, H7, I7, n7⟩ := q7; exact again I7 n7
  | cont => obtain ⟨σ7, H7, I7, n7⟩ := q7; exact again I7 n7
  | brk => obtain ⟨σ7, H7, I7, q7⟩ := q7; exact ⟨σ7, H7, I7.unpinned, q7⟩
  | ret v => obtain ⟨x7, σ7, H7, I7, r7, q7⟩ := q7; exact ⟨x7, σ7, H7, I7.unpinned, r7, q7⟩
end
theorem Z72 {K : PySem.W.Frag} {a : Addr} {xs : List V} {g : TG} {tb : TS} {D : Ends} {σ : St} {H : Hp} (Pv : Nat -> St -> Hp -> Prop) (h0 : Pv 0 σ H) (hl : ∀ i σ H, i <= xs.length -> Pv i σ H -> SqL K H a xs)
  (hs : ∀ i x σ H, xs[i]? = some x -> Pv i σ H -> g x σ H fun σ2 H2 => tb { D with nx := Pv (i + 1), ct := Pv (i + 1), bk := D.nx } σ2 H2) (hd : ∀ σ H, Pv xs.length σ H -> D.nx σ H) :
  ∃ W : Nat -> Nat -> St -> Hp -> Prop, (∃ m, W 0 m σ H) /\ ∀ i m σ H, W i m σ H →
   ((Itl K a).stop i H /\ D.nx σ H) ∨ ((Itl K a).go i H /\ ∃ N : St -> Hp -> Prop, (∀ σ' H', N σ' H' -> ∃ m', m' < m /\ W (i + 1) m' σ' H') /\ ∀ x H', (Itl K a).yld i H x H' -> g x σ H' fun σ2 H2 => tb { D with nx := N, ct := N, bk := D.nx } σ2 H2) := by
 refine ⟨fun i m σ H => m = xs.length - i /\ i <= xs.length /\ Pv i σ H, ⟨xs.length, by simp, Nat.zero_le _, h0⟩, ?_⟩
 rintro i m σ H ⟨rfl, hi, p⟩
 have q := hl i σ H hi p
 by_cases hlt : i < xs.length
 ·refine .inr ⟨⟨xs, xs[i], q, by simp [hlt]⟩, Pv (i + 1), fun σ' H' p' => ⟨xs.length - (i + 1), by omega, rfl, hlt, p'⟩, fun x H' y => ?_⟩
  obtain ⟨e, y⟩ := y
  subst e
  exact hs i x σ _ (y xs q) p
 ·have e : i = xs.length := by omega
  subst e
  exact .inl ⟨⟨xs, q, Nat.le_refl _⟩, hd σ H p⟩
theorem Z3v {lo : Int} {n : Nat} {g : TG} {tb : TS} {D : Ends} {σ : St} {H : Hp} (Pv : Nat -> St -> Hp -> Prop) (h0 : Pv 0 σ H)
  (hs : ∀ i σ H, i < n -> Pv i σ H -> g (.int (lo + i)) σ H fun σ2 H2 => tb { D with nx := Pv (i + 1), ct := Pv (i + 1), bk := D.nx } σ2 H2) (hd : ∀ σ H, Pv n σ H -> D.nx σ H) :
  ∃ W : Nat -> Nat -> St -> Hp -> Prop, (∃ m, W 0 m σ H) /\ ∀ i m σ H, W i m σ H →
   ((Itr lo n).stop i H /\ D.nx σ H) ∨ ((Itr lo n).go i H /\ ∃ N : St -> Hp -> Prop, (∀ σ' H', N σ' H' -> ∃ m', m' < m /\ W (i + 1) m' σ' H') /\ ∀ x H', (Itr lo n).yld i H x H' -> g x σ H' fun σ2 H2 => tb { D with nx := N, ct := N, bk := D.nx } σ2 H2) := by
 refine ⟨fun i m σ H => m = n - i /\ i <= n /\ Pv i σ H, ⟨n, by simp, Nat.zero_le _, h0⟩, ?_⟩
 rintro i m σ H ⟨rfl, hi, p⟩
 by_cases hlt : i < n
 ·refine .inr ⟨hlt, Pv (i + 1), fun σ' H' p' => ⟨n - (i + 1), by omega, rfl, hlt, p'⟩, fun x H' y => ?_⟩
  obtain ⟨e, y⟩ := y
  subst e y
  exact hs i σ _ hlt p
 ·have e : i = n := by omega
  subst e
  exact .inl ⟨Nat.le_refl _, hd σ H p⟩
theorem Zfu {c : TT} {tb : TS} {D : Ends} {σ : St} {H : Hp} (Pv : St -> Hp -> Prop) (μ : St -> Hp -> Nat) (h0 : Pv σ H)
  (hs : ∀ σ H, Pv σ H -> c σ H fun b H1 => if b = true then tb { D with nx := fun σ' H' => Pv σ' H' /\ μ σ' H' < μ σ H, ct := fun σ' H' => Pv σ' H' /\ μ σ' H' < μ σ H, bk := D.nx } σ H1 else D.nx σ H1)
  (mono : ∀ σ H Q Q', (∀ b H1, Q b H1 -> Q' b H1) -> c σ H Q -> c σ H Q') : Zd4 c tb D σ H := by
 refine ⟨fun m σ H => m = μ σ H /\ Pv σ H, ⟨_, rfl, h0⟩, ?_⟩
 rintro m σ H ⟨rfl, p⟩
 refine mono σ H _ _ (fun b H1 q => ?_) (hs σ H p)
 cases b with
 | true => exact ⟨_, fun σ' H' ⟨p', l⟩ => ⟨_, l, rfl, p'⟩, q⟩
 | false => exact q
abbrev R2 := V -> V -> Hp -> VK -> Prop
def OpR (X : Cx) (f : Value -> Value -> Sem Value) (r : R2) : Prop :=
 ∀ (pins : List (Addr × Obj)) (s : Shared) (σ : St) (H : Hp) (x y : V) (v u : Value) (Q : VK), Inv X pins σ H s -> RelV x v -> RelV y u -> r x y H Q →
  wpAny (model X.prog X.w) X.A (f v u) (EP X pins σ Q) X.xe s
def UnR (X : Cx) (f : Value -> Sem Value) (r : V -> Hp -> VK -> Prop) : Prop :=
 ∀ (pins : List (Addr × Obj)) (s : Shared) (σ : St) (H : Hp) (x : V) (v : Value) (Q : VK), Inv X pins σ H s -> RelV x v -> r x H Q →
  wpAny (model X.prog X.w) X.A (f v) (EP X pins σ Q) X.xe s
def Z3k (X : Cx) (f : Value) (r : List V -> Hp -> VK -> Prop) : Prop :=
 ∀ (pins : List (Addr × Obj)) (s : Shared) (σ : St) (H : Hp) (xs : List V) (us : List Value) (Q : VK), Inv X pins σ H s -> Vals xs us -> r xs H Q →
  wpAny (model X.prog X.w) X.A (call f us) (EP X pins σ Q) X.xe s
def Zp9 (X : Cx) (r : V -> Hp -> (Bool -> Hp -> Prop) -> Prop) : Prop :=
 ∀ (pins : List (Addr × Obj)) (s : Shared) (σ : St) (H : Hp) (x : V) (v : Value) (Q : Bool -> Hp -> Prop), Inv X pins σ H s -> RelV x v -> r x H Q →
  wpAny (model X.prog X.w) X.A (truthy v) (TP X pins σ Q) X.xe s
def tOp (r : R2) (ta tb : TE) : TE := fun σ H Q => ta σ H fun x H1 => tb σ H1 fun y H2 => r x y H2 Q
def tUn (r : V -> Hp -> VK -> Prop) (ta : TE) : TE := fun σ H Q => ta σ H fun x H1 => r x H1 Q
def rI (C : Int -> Int -> Prop) (g : Int -> Int -> V) : R2 := fun x y H Q => ∃ i j, x = .int i /\ y = .int j /\ C i j /\ Q (g i j) H
def rI0 (g : Int -> Int -> V) : R2 := fun x y H Q => ∃ i j, x = .int i /\ y = .int j /\ Q (g i j) H
def rU (g : Int -> V) : V -> Hp -> VK -> Prop := fun x H Q => ∃ i, x = .int i /\ Q (g i) H
section
variable {X : Cx} {a b c : Expr} {ta tb tc : TE} {pos : Pos}
theorem Zn9 (ha : PE X a ta) (hb : PE X b tb) {pins : List (Addr × Obj)} {s : Shared} {σ : St} {H : Hp} {R : V -> V -> Hp -> Prop} (I : Inv X pins σ H s)
  (h : ta σ H fun x H1 => tb σ H1 fun y H2 => R x y H2) {Q : Value -> Shared -> Prop} {f : Value -> Value -> Sem Value}
  (hf : ∀ v u s2 x y H2, Inv X pins σ H2 s2 -> RelV x v -> RelV y u -> R x y H2 -> wpAny (model X.prog X.w) X.A (f v u) Q X.xe s2) :
  wpAny (model X.prog X.w) X.A (eval a X.env) (fun v s₁ => wpAny (model X.prog X.w) X.A (eval b X.env) (fun u s₂ => wpAny (model X.prog X.w) X.A (f v u) Q X.xe s₂) X.xe s₁) X.xe s := by
 refine thn (ha pins s σ H _ I h) fun v s1 ⟨x, H1, I1, r1, q1⟩ => ?_
 refine thn (hb pins s1 σ H1 _ I1 q1) fun u s2 ⟨y, H2, I2, r2, q2⟩ => ?_
 exact hf v u s2 x y H2 I2 r1 r2 q2
theorem Z0o {op : Operator} {r : R2} (ho : OpR X (binaryOp op) r) (ha : PE X a ta) (hb : PE X b tb) : PE X (.BinOp a op b pos) (tOp r ta tb) := by
 intro pins s σ H Q I h
 exact wpAny_BinOp (Zn9 ha hb I h fun v u s2 x y H2 I2 rx ry q => ho pins s2 σ H2 x y v u Q I2 rx ry q)
theorem Zl9 {op : UnaryOp} {r : V -> Hp -> VK -> Prop} (ho : UnR X (unaryOp op) r) (ha : PE X a ta) : PE X (.UnaryOp op a pos) (tUn r ta) := by
 intro pins s σ H Q I h
 exact UnaryOp_ (thn (ha pins s σ H _ I h) fun v s1 ⟨x, H1, I1, r1, q1⟩ => ho pins s1 σ H1 x v Q I1 r1 q1)
theorem opI {f : Value -> Value -> Sem Value} {C : Int -> Int -> Prop} {g : Int -> Int -> Int}
  (rule : ∀ (i j : Int) (t u : Tok) (s : Shared) (Q : Value -> Shared -> Prop) (E : Value -> Shared -> Prop), C i j -> Q (.int (g i j) s.toks) { s with toks := s.toks + 1 } -> wpAny (model X.prog X.w) X.A (f (.int i t) (.int j u)) Q E s) :
  OpR X f (rI C fun i j => .int (g i j)) := by
 intro pins s σ H x y v u Q I rx ry h
 obtain ⟨i, j, rfl, rfl, hc, q⟩ := h
 obtain ⟨t, rfl⟩ := rx
 obtain ⟨t', rfl⟩ := ry
 exact rule i j t t' s _ _ hc ⟨.int (g i j), H, I.tok _, ⟨_, rfl⟩, q⟩
theorem Zoj {f : Value -> Value -> Sem Value} {g : Int -> Int -> Int}
  (rule : ∀ (i j : Int) (t u : Tok) (s : Shared) (Q : Value -> Shared -> Prop) (E : Value -> Shared -> Prop), Q (.int (g i j) s.toks) { s with toks := s.toks + 1 } -> wpAny (model X.prog X.w) X.A (f (.int i t) (.int j u)) Q E s) :
  OpR X f (rI0 fun i j => .int (g i j)) := by
 intro pins s σ H x y v u Q I rx ry h
 obtain ⟨i, j, rfl, rfl, q⟩ := h
 obtain ⟨t, rfl⟩ := rx
 obtain ⟨t', rfl⟩ := ry
 exact rule i j t t' s _ _ ⟨.int (g i j), H, I.tok _, ⟨_, rfl⟩, q⟩
theorem Zn0 {f : Value -> Value -> Sem Value} {g : Int -> Int -> Bool}
  (rule : ∀ (i j : Int) (t u : Tok) (s : Shared) (Q : Value -> Shared -> Prop) (E : Value -> Shared -> Prop), Q (.bool (g i j)) s -> wpAny (model X.prog X.w) X.A (f (.int i t) (.int j u)) Q E s) :
  OpR X f (rI0 fun i j => .bl (g i j)) := by
 intro pins s σ H x y v u Q I rx ry h
 obtain ⟨i, j, rfl, rfl, q⟩ := h
 obtain ⟨t, rfl⟩ := rx
 obtain ⟨t', rfl⟩ := ry
 exact rule i j t t' s _ _ ⟨.bl (g i j), H, I, rfl, q⟩
def Zpa (i j : Int) : Prop := 0 <= j /\ j <= 1000000 /\ i.natAbs < 2 ^ 64
def CMul (i j : Int) : Prop := (-(2 ^ 64) < i /\ i < 2 ^ 64) ∨ (-(2 ^ 64) < j /\ j < 2 ^ 64)
theorem CMul.ok {i j : Int} (h : CMul i j) : IntMulOk i j := by
 rcases h with ⟨h1, h2⟩ | ⟨h1, h2⟩
 ·exact .of_left (intBits_le_64 h1 h2)
 ·exact .of_right (intBits_le_64 h1 h2)
theorem Z1l : OpR X (binaryOp .Add) (rI0 fun i j => .int (i + j)) := Zoj fun _ _ _ _ _ _ _ q => add_int q
theorem Z2n : OpR X (binaryOp .Sub) (rI0 fun i j => .int (i - j)) := Zoj fun _ _ _ _ _ _ _ q => sub_int q
theorem Z3f : OpR X (binaryOp .Mult) (rI CMul fun i j => .int (i * j)) := opI fun _ _ _ _ _ _ _ hc q => mul_int q hc.ok
theorem Z2c : OpR X (binaryOp .Mod) (rI (fun _ j => 0 < j) fun i j => .int (i % j)) := opI fun i j _ _ _ _ _ hc q => by
 have h1 : (0 : Int) < j := hc
 exact mod_int' (by omega) (by rw [Int.fmod_eq_emod_of_nonneg i (by omega)]; exact q)
theorem Zhl : OpR X (binaryOp .Pow) (rI Zpa fun i j => .int (i ^ j.toNat)) := opI fun _ _ _ _ _ _ _ hc q => pow_int_small hc.1 hc.2.1 hc.2.2 q
theorem unI {f : Value -> Sem Value} {g : Int -> Int}
  (rule : ∀ (i : Int) (t : Tok) (s : Shared) (Q : Value -> Shared -> Prop) (E : Value -> Shared -> Prop), Q (.int (g i) s.toks) { s with toks := s.toks + 1 } -> wpAny (model X.prog X.w) X.A (f (.int i t)) Q E s) :
  UnR X f (rU fun i => .int (g i)) := by
 intro pins s σ H x v Q I rx h
 obtain ⟨i, rfl, q⟩ := h
 obtain ⟨t, rfl⟩ := rx
 exact rule i t s _ _ ⟨.int (g i), H, I.tok _, ⟨_, rfl⟩, q⟩
theorem Zhm : UnR X (unaryOp .USub) (rU fun i => .int (-i)) := unI fun _ _ _ _ _ q => neg_int q
end
def Zok : V -> V -> Bool
 | .non, .non => true | .non, .int _ => true | .int _, .non => true | .non, .bl _ => true | .bl _, .non => true | .non, .str _ => true | .str _, .non => true
 | .int _, .int _ => true | .bl _, .bl _ => true | .str _, .str _ => true | .byt _, .byt _ => true
 | .int _, .str _ => true | .str _, .int _ => true | .bl _, .str _ => true | .str _, .bl _ => true
 | _, _ => false
def rEq : R2 := fun x y H Q => Zok x y = true /\ Q (.bl (decide (x = y))) H
def rNe : R2 := fun x y H Q => Zok x y = true /\ Q (.bl (!decide (x = y))) H
theorem Zd7 {i j : Int} : decide (V.int i = V.int j) = (i == j) := by
 rw [Bool.eq_iff_iff]
 simp
theorem Zhn {i j : Bool} : decide (V.bl i = V.bl j) = (i == j) := by
 rw [Bool.eq_iff_iff]
 simp
theorem Zd8 {i j : Str} : decide (V.str i = V.str j) = (i == j) := by
 rw [Bool.eq_iff_iff]
 simp
theorem Zd9 {i j : Array UInt8} : decide (V.byt i = V.byt j) = (i.toList == j.toList) := by
 rw [Bool.eq_iff_iff]
 cases i
 cases j
 simp
section
variable {X : Cx} {a b c : Expr} {ta tb tc : TE} {pos : Pos}
theorem Z0s {pins : List (Addr × Obj)} {σ : St} {H : Hp} {s : Shared} {Q : VK} {k k' : Bool} (I : Inv X pins σ H s) (q : Q (.bl k) H) (e : k = k') : EP X pins σ Q (.bool k') s := by
 subst e
 exact ⟨.bl k, H, I, rfl, q⟩
theorem Z1f : OpR X (compareOp .Eq) rEq := by
 intro pins s σ H x y v u Q I rx ry h
 obtain ⟨hs, q⟩ := h
 cases x with
 | non =>
  cases rx
  cases y with
  | non => cases ry; exact PySem.EqNone.eq_none_none (Z0s I q (by simp))
  | bl j => cases ry; exact PySem.EqNone.eq_none_bool (Z0s I q (by simp))
  | int j => obtain ⟨t', rfl⟩ := ry; exact PySem.EqNone.eq_none_int (Z0s I q (by simp))
  | str j => obtain ⟨t', rfl⟩ := ry; exact PySem.EqNone.eq_none_str (Z0s I q (by simp))
  | _ => exact absurd (show false = true from hs) Bool.false_ne_true
 | bl i =>
  cases rx
  cases y with
  | non => cases ry; exact PySem.EqNone.eq_bool_none (Z0s I q (by simp))
  | bl j => cases ry; exact eq_bool (Z0s I q Zhn)
  | str j => obtain ⟨t', rfl⟩ := ry; exact PySem.EqMixed.eq_bool_str (Z0s I q (by simp))
  | _ => exact absurd (show false = true from hs) Bool.false_ne_true
 | int i =>
  obtain ⟨t, rfl⟩ := rx
  cases y with
  | non => cases ry; exact PySem.EqNone.eq_int_none (Z0s I q (by simp))
  | int j => obtain ⟨t', rfl⟩ := ry; exact eq_int (Z0s I q Zd7)
  | str j => obtain ⟨t', rfl⟩ := ry; exact PySem.EqMixed.eq_int_str (Z0s I q (by simp))
  | _ => exact absurd (show false = true from hs) Bool.false_ne_true
 | str i =>
  obtain ⟨t, rfl⟩ := rx
  cases y with
  | non => cases ry; exact PySem.EqNone.eq_str_none (Z0s I q (by simp))
  | bl j => cases ry; exact PySem.EqMixed.eq_str_bool (Z0s I q (by simp))
  | int j => obtain ⟨t', rfl⟩ := ry; exact PySem.EqMixed.eq_str_int (Z0s I q (by simp))
  | str j => obtain ⟨t', rfl⟩ := ry; exact eq_str (Z0s I q Zd8)
  | _ => exact absurd (show false = true from hs) Bool.false_ne_true
 | byt i =>
  obtain ⟨t, rfl⟩ := rx
  cases y with
  | byt j => obtain ⟨t', rfl⟩ := ry; exact PySem.W.eq_bytes (Z0s I q Zd9)
  | _ => exact absurd (show false = true from hs) Bool.false_ne_true
 | _ => cases y <;> exact absurd (show false = true from hs) Bool.false_ne_true
theorem Zla : OpR X (compareOp .NotEq) rNe := by
 intro pins s σ H x y v u Q I rx ry h
 obtain ⟨hs, q⟩ := h
 cases x with
 | non =>
  cases rx
  cases y with
  | non => cases ry; exact PySem.EqNone.ne_none_none (Z0s I q (by simp))
  | bl j => cases ry; exact PySem.EqNone.ne_none_bool (Z0s I q (by simp))
  | int j => obtain ⟨t', rfl⟩ := ry; exact PySem.EqNone.ne_none_int (Z0s I q (by simp))
  | str j => obtain ⟨t', rfl⟩ := ry; exact PySem.EqNone.ne_none_str (Z0s I q (by simp))
  | _ => exact absurd (show false = true from hs) Bool.false_ne_true
 | bl i =>
  cases rx
  cases y with
  | non => cases ry; exact PySem.EqNone.ne_bool_none (Z0s I q (by simp))
  | bl j => cases ry; exact ne_bool (Z0s I q (congrArg not Zhn))
  | str j => obtain ⟨t', rfl⟩ := ry; exact PySem.EqMixed.ne_bool_str (Z0s I q (by simp))
  | _ => exact absurd (show false = true from hs) Bool.false_ne_true
 | int i =>
  obtain ⟨t, rfl⟩ := rx
  cases y with
  | non => cases ry; exact PySem.EqNone.ne_int_none (Z0s I q (by simp))
  | int j => obtain ⟨t', rfl⟩ := ry; exact ne_int (Z0s I q (congrArg not Zd7))
  | str j => obtain ⟨t', rfl⟩ := ry; exact PySem.EqMixed.ne_int_str (Z0s I q (by simp))
  | _ => exact absurd (show false = true from hs) Bool.false_ne_true
 | str i =>
  obtain ⟨t, rfl⟩ := rx
  cases y with
  | non => cases ry; exact PySem.EqNone.ne_str_none (Z0s I q (by simp))
  | bl j => cases ry; exact PySem.EqMixed.ne_str_bool (Z0s I q (by simp))
  | int j => obtain ⟨t', rfl⟩ := ry; exact PySem.EqMixed.ne_str_int (Z0s I q (by simp))
  | str j => obtain ⟨t', rfl⟩ := ry; exact ne_str (Z0s I q (congrArg not Zd8))
  | _ => exact absurd (show false = true from hs) Bool.false_ne_true
 | byt i =>
  obtain ⟨t, rfl⟩ := rx
  cases y with
  | byt j => obtain ⟨t', rfl⟩ := ry; exact PySem.W.ne_bytes (Z0s I q (congrArg not Zd9))
  | _ => exact absurd (show false = true from hs) Bool.false_ne_true
 | _ => cases y <;> exact absurd (show false = true from hs) Bool.false_ne_true
theorem Zda : OpR X (compareOp .Lt) (rI0 fun i j => .bl (decide (i < j))) := Zn0 fun _ _ _ _ _ _ _ q => lt_int q
theorem Z6c : OpR X (compareOp .LtE) (rI0 fun i j => .bl (decide (i <= j))) := Zn0 fun _ _ _ _ _ _ _ q => le_int q
theorem Zfv : OpR X (compareOp .Gt) (rI0 fun i j => .bl (decide (j < i))) := Zn0 fun _ _ _ _ _ _ _ q => gt_int q
theorem Zin : OpR X (compareOp .GtE) (rI0 fun i j => .bl (decide (j <= i))) := Zn0 fun _ _ _ _ _ _ _ q => ge_int q
theorem Z0l (b : Expr) {op : CmpOp} (h : op ≠ .In := by decide) (h2 : op ≠ .NotIn := by decide) : behindInMarks op b = false := by
 have e1 : (op == CmpOp.In) = false := by cases op <;> first | rfl | exact absurd rfl h
 have e2 : (op == CmpOp.NotIn) = false := by cases op <;> first | rfl | exact absurd rfl h2
 cases b <;> simp [behindInMarks, e1, e2]
theorem Z4e {op : CmpOp} {r : R2} (ho : OpR X (compareOp op) r) (ha : PE X a ta) (hb : PE X b tb) (hm : behindInMarks op b = false) : PE X (.Compare a [op] [b] pos) (tOp r ta tb) := by
 intro pins s σ H Q I h
 exact wpAny_Compare1 (Zn9 ha hb I h fun v u s2 x y H2 I2 rx ry q => ho pins s2 σ H2 x y v u Q I2 rx ry q) hm
def Zlb (t : TE) : TT := fun σ H Q => t σ H fun x H' => ∃ k, x = .bl k /\ Q k H'
theorem Z0b {op : CmpOp} {r : R2} (ho : OpR X (compareOp op) r) (ha : PE X a ta) (hb : PE X b tb) (hm : behindInMarks op b = false) : PT X (.Compare a [op] [b] pos) (Zlb (tOp r ta tb)) := by
 intro pins s σ H Q I h
 refine wpAny_isTrue_Compare1 (thn (ha pins s σ H _ I h) fun v s1 ⟨x, H1, I1, r1, q1⟩ => thn (hb pins s1 σ H1 _ I1 q1) fun u s2 ⟨y, H2, I2, r2, q2⟩ =>
  thn (ho pins s2 σ H2 x y v u _ I2 r1 r2 q2) fun c s3 ⟨z, H3, I3, r3, k, e, q3⟩ => ?_) hm
 subst e
 cases r3
 exact wpAny_truthy_bool ⟨H3, I3, q3⟩
def Zho (r r' : R2) (ta tb tc : TE) : TE := fun σ H Q => ta σ H fun x H1 => tb σ H1 fun y H2 => r x y H2 fun z H3 => ∃ k, z = .bl k ∧
 (if k = true then tc σ H3 fun w' H4 => r' y w' H4 Q else Q (.bl false) H3)
theorem Z56 {op op' : CmpOp} {r r' : R2} (ho : OpR X (compareOp op) r) (ho' : OpR X (compareOp op') r') (ha : PE X a ta) (hb : PE X b tb) (hc : PE X c tc)
  (hm : lastMarks [op, op'] [b, c] = false := by with_unfolding_all rfl) : PE X (.Compare a [op, op'] [b, c] pos) (Zho r r' ta tb tc) := by
 intro pins s σ H Q I h
 refine Compare_chain (thn (ha pins s σ H _ I h) fun v s1 ⟨x, H1, I1, r1, q1⟩ => chain_link (thn (hb pins s1 σ H1 _ I1 q1) fun u s2 ⟨y, H2, I2, r2, q2⟩ =>
  thn (ho pins s2 σ H2 x y v u _ I2 r1 r2 q2) fun d s3 ⟨z, H3, I3, r3, k, e, q3⟩ => ?_)) hm
 subst e
 cases r3
 refine wpAny_truthy_bool ?_
 cases k with
 | false => exact ite_ff ⟨.bl false, H3, I3, rfl, q3⟩
 | true => exact ite_tt (chain_last (thn (hc pins s3 σ H3 _ I3 q3) fun w' s4 ⟨z', H4, I4, r4, q4⟩ => ho' pins s4 σ H4 y z' u w' Q I4 r2 r4 q4))
theorem Zab {op op' : CmpOp} {r r' : R2} (ho : OpR X (compareOp op) r) (ho' : OpR X (compareOp op') r') (ha : PE X a ta) (hb : PE X b tb) (hc : PE X c tc)
  (hm : lastMarks [op, op'] [b, c] = false := by with_unfolding_all rfl) : PT X (.Compare a [op, op'] [b, c] pos) (Zlb (Zho r r' ta tb tc)) := by
 intro pins s σ H Q I h
 refine isTrue_chain (thn (ha pins s σ H _ I h) fun v s1 ⟨x, H1, I1, r1, q1⟩ => test_link (thn (hb pins s1 σ H1 _ I1 q1) fun u s2 ⟨y, H2, I2, r2, q2⟩ =>
  thn (ho pins s2 σ H2 x y v u _ I2 r1 r2 q2) fun d s3 ⟨z, H3, I3, r3, k, e, q3⟩ => ?_)) hm
 subst e
 cases r3
 refine wpAny_truthy_bool ?_
 cases k with
 | false =>
  obtain ⟨k', e', q'⟩ := q3
  cases e'
  exact ite_ff ⟨H3, I3, q'⟩
 | true =>
  refine ite_tt (test_last (thn (hc pins s3 σ H3 _ I3 q3) fun w' s4 ⟨z', H4, I4, r4, q4⟩ => thn (ho' pins s4 σ H4 y z' u w' _ I4 r2 r4 q4) fun d' s5 ⟨z2, H5, I5, r5, k2, e2, q5⟩ => ?_))
  subst e2
  cases r5
  exact wpAny_truthy_bool ⟨H5, I5, q5⟩
def Zol (K : PySem.W.Frag) (x : V) (H : Hp) (k : Bool) : Prop :=
 match x with
 | .non => k = false
 | .bl b => k = b
 | .int i => k = (i != 0)
 | .str y => y.length <= sizeLine /\ k = ((y.length : Int) != 0)
 | .byt y => y.size <= sizeLine /\ k = ((y.size : Int) != 0)
 | .ref p => (∃ xs, SqL K H p xs /\ k = !xs.isEmpty) ∨ (∃ xs, SqT K H p xs /\ k = !xs.isEmpty) ∨ ∃ kvs, H p = some (.dK kvs) /\ k = !kvs.isEmpty
 | _ => False
theorem Zby {κ : Type} {kvs : List (κ × V)} {vs : List (κ × Value)} (r : KV kvs vs) : (!vs.isEmpty) = !kvs.isEmpty := by
 cases r <;> rfl
theorem Z6j {xs : List V} {its : List Value} (r : Vals xs its) : (!its.toArray.isEmpty) = !xs.isEmpty := by
 cases r <;> simp
theorem Z5d : (sizeLine : Nat) < 2 ^ 63 := by rw [sizeLine_eq]; decide
theorem Zlc : Zp9 X (fun x H Q => ∃ k, Zol X.K x H k /\ Q k H) := by
 intro pins s σ H x v Q I rx h
 obtain ⟨k, e, q⟩ := h
 have hl := Z5d
 have hs : sizeLine = 16777216 := sizeLine_eq
 cases x with
 | non =>
  cases rx
  have e' : k = false := e
  subst e'
  exact truthy_none ⟨H, I, q⟩
 | bl b =>
  cases rx
  have e' : k = b := e
  subst e'
  exact wpAny_truthy_bool ⟨H, I, q⟩
 | int i =>
  obtain ⟨t, rfl⟩ := rx
  have e' : k = (i != 0) := e
  subst e'
  exact PySem.P.truthy_int ⟨H, I, q⟩
 | str y =>
  obtain ⟨t, rfl⟩ := rx
  obtain ⟨hy, e'⟩ : y.length <= sizeLine /\ k = ((y.length : Int) != 0) := e
  subst e'
  exact PySem.P.truthy_str (by omega) ⟨H, I.tok _, q⟩
 | byt y =>
  obtain ⟨t, rfl⟩ := rx
  obtain ⟨hy, e'⟩ : y.size <= sizeLine /\ k = ((y.size : Int) != 0) := e
  subst e'
  exact PySem.W.truthy_bytes (by omega) ⟨H, I.tok _, q⟩
 | ref p =>
  cases rx
  have e' : (∃ xs, SqL X.K H p xs /\ k = !xs.isEmpty) ∨ (∃ xs, SqT X.K H p xs /\ k = !xs.isEmpty) ∨ ∃ kvs, H p = some (.dK kvs) /\ k = !kvs.isEmpty := e
  rcases e' with ⟨xs, hx, e'⟩ | ⟨xs, hx, e'⟩ | ⟨kvs, hx, e'⟩
  ·subst e'
   obtain ⟨its, r, pl, hz⟩ := I.list hx
   have hlen := r.length
   exact wpAny_truthy_list pl.isList (by simp only [List.size_toArray]; omega) ⟨H, I.tok _, by rw [Z6j r]; exact q⟩
  ·subst e'
   obtain ⟨its, r, pl, hz⟩ := I.tuple hx
   have hlen := r.length
   exact truthy_tuple pl (by simp only [List.size_toArray]; omega) ⟨H, I.tok _, by rw [Z6j r]; exact q⟩
  ·subst e'
   obtain ⟨hz, hS, vs, r, m⟩ : kvs.length <= sizeLine /\ (p == sysModules) = false /\ ∃ vs, KV kvs vs /\ s.heap.DictOf (Z0z X.prog X.w) p vs := I.hok p _ hx
   have hlen : kvs.length = vs.length := Paired.length r
   exact wpAny_truthy_dict hS m (by omega) ⟨H, I.tok _, by rw [Zby r]; exact q⟩
 | _ => exact (show False from e).elim
theorem Zac (ha : PE X a ta) (he : ∀ whole, isTrue a X.env whole = (do let v ← whole; standAt a.pos; holding [v] (truthy v))) :
  PT X a (fun σ H Q => ta σ H fun x H' => ∃ k, Zol X.K x H' k /\ Q k H') := by
 intro pins s σ H Q I h
 exact isTrue_plain (thn (ha pins s σ H _ I h) fun v s1 ⟨x, H1, I1, r1, q1⟩ => Zlc pins s1 σ H1 x v Q I1 r1 q1) (he _)
theorem Z2d : OpR X (binaryOp .Add) (fun x y H Q => ∃ i j, x = .str i /\ y = .str j /\ i.length + j.length <= sizeLine /\ Q (.str (i ++ j)) H) := by
 intro pins s σ H x y v u Q I rx ry h
 obtain ⟨i, j, rfl, rfl, hz, q⟩ := h
 obtain ⟨t, rfl⟩ := rx
 obtain ⟨t', rfl⟩ := ry
 exact add_str (fun t' tk => ⟨.str (i ++ j), H, I.tok _, ⟨_, rfl⟩, q⟩) hz
theorem Z84 {x : V} {us : List Value} (r : Vals [x] us) : ∃ u, us = [u] /\ RelV x u := by
 cases r with
 | cons r1 r2 => cases r2; exact ⟨_, rfl, r1⟩
theorem Zna {x y : V} {us : List Value} (r : Vals [x, y] us) : ∃ u w', us = [u, w'] /\ RelV x u /\ RelV y w' := by
 cases r with
 | cons r1 r2 =>
  cases r2 with
  | cons r3 r4 => cases r4; exact ⟨_, _, rfl, r1, r3⟩
end
structure ObjM (h : Heap) (x dx C : Addr) (mA : Str -> Option Value) : Prop where
 obj : h.get? x = some (PySem.W.instObj C dx)
 ns : h.Ns1 dx mA
 ne : dx ≠ x
theorem Zdb {h : Heap} {dx : Addr} {mA : Str -> Option Value} (n : h.Ns1 dx mA) : ∃ od, h.get? dx = some od /\ ∀ name, PySem.W.lookIn name od = some (mA name) := by
 obtain ⟨o, es, ep, ho, hd, hk, _, hm⟩ := n
 refine ⟨o, ho, fun name => ?_⟩
 have e := hm name
 unfold nsFind findBy at e
 rw [<- Array.find?_toList] at e
 unfold PySem.W.lookIn
 rw [hd]
 dsimp only
 split
 ·rename_i y q
  rw [q] at e
  exact congrArg some e
 ·rename_i q
  rw [q] at e
  have a : es.toList.any (·.refKey) = false := by
   rw [List.any_eq_false]
   intro y hy
   obtain ⟨z, t, hkey⟩ := hk y (Array.mem_toList_iff.mp hy)
   simp [DictEntry.refKey, hkey]
  have a' : ¬ es.toList.any (·.refKey) = true := by rw [a]; exact Bool.false_ne_true
  rw [if_neg a']
  exact congrArg some e
theorem ObjM.look {h : Heap} {x dx C : Addr} {mA : Str -> Option Value} (I : ObjM h x dx C mA) : ∃ od, PySem.W.InstAt h x (PySem.W.instObj C dx) C (some od) /\ ∀ name, PySem.W.lookIn name od = some (mA name) :=
 let ⟨od, ho, hl⟩ := Zdb I.ns
 ⟨od, ⟨I.obj, rfl, rfl, ho⟩, hl⟩
section
variable {prog : Program} {w : World} {A : Around} {E : Value -> Shared -> Prop} {s : Shared} {K : PySem.W.Frag} {x dx C f : Addr} {mA : Str -> Option Value} {name : Str} {v : Value}
end
theorem RelO.some_of {v : V} {o : Option Value} (r : RelO (some v) o) : ∃ u, o = some u /\ RelV v u := by
 cases o with
 | none => exact (show False from r).elim
 | some u => exact ⟨u, rfl, r⟩
section
variable {P : Program} {w : World} {H H' : Hp} {h h' : Heap} {a C dx : Addr} {fs fs' : List (Str × V)}
theorem Zio (hok : HOk P w H h) (e : H a = some (.ins C dx fs)) : ∃ mA, ObjM h a dx C mA /\ (∀ f, RelO (fs.lookup f) (mA f)) /\ PySem.Within mA (fs.map (·.1)) /\ fs.length <= 1000 /\ H dx = some (.own a) := by
 obtain ⟨d, z, ne, ob, mA, n, r, q⟩ := (show ObjOk P w H h a (.ins C dx fs) from hok a _ e)
 exact ⟨mA, ⟨ob, n, ne⟩, r, q, z, d⟩
end
structure Cls (K : PySem.W.Frag) (C : Addr) : Prop where
 pg : PySem.W.plainGet K C Str.empty = true
 hd : PySem.W.hasDictIn K C = true
 po : PySem.W.plainOver K C = true
 sa : PySem.W.findIn K (.ref C) "__setattr__" = some (some (.builtin "object.__setattr__"))
theorem Cls.get {K : PySem.W.Frag} {C : Addr} (c : Cls K C) (f : Str) : PySem.W.plainGet K C f = true := c.pg
section
variable {X : Cx} {pins : List (Addr × Obj)} {σ : St} {H : Hp} {s : Shared} {a C dx : Addr} {fs : List (Str × V)} {f : Str} {v : V} {A : Around} {E : Value -> Shared -> Prop}
end
section
variable {X : Cx} {o e value : Expr} {f : Str} {pos pos' tpos : Pos} {ta tv : TE}
end
section
variable {X : Cx} {pins : List (Addr × Obj)} {σ : St} {H : Hp} {s : Shared} {A : Around} {E : Value -> Shared -> Prop} {Q : Value -> Shared -> Prop} {c : Value} {b : Bool}
inductive TyOf (K : PySem.W.Frag) (H : Hp) : V -> Value -> Prop where
 | non : TyOf K H .non (.type "NoneType")
 | bl (x : Bool) : TyOf K H (.bl x) (.type "bool")
 | int (i : Int) : TyOf K H (.int i) (.type "int")
 | str (x : Str) : TyOf K H (.str x) (.type "str")
 | flt (x : UInt64) : TyOf K H (.flt x) (.type "float")
 | lst {a : Addr} {xs : List V} (e : H a = some (.lst xs)) : TyOf K H (.ref a) (.type "list")
 | frz {a : Addr} {o : Obj} {xs : List V} (e : H a = some (.frz o (.lst xs))) : TyOf K H (.ref a) (.type "list")
 | tup {a : Addr} {xs : List V} (e : H a = some (.tup xs)) : TyOf K H (.ref a) (.type "tuple")
 | dK {a : Addr} {kvs : List (Key × V)} (e : H a = some (.dK kvs)) : TyOf K H (.ref a) (.type "dict")
 | dT {a : Addr} {kvs : List (List Key × V)} (e : H a = some (.dT kvs)) : TyOf K H (.ref a) (.type "dict")
 | ins {a C dx : Addr} {fs : List (Str × V)} (e : H a = some (.ins C dx fs)) (cl : Cls K C) (ha : PySem.W.findIn K (.ref C) "__class__" = some (some (.builtin "object.__class__")))
   (hn : PySem.W.specialIn K (.builtin "object.__class__") "__get__" = some (some (.builtin "getset_descriptor.__get__"))) (htk : PySem.W.takesIn K (.builtin "object.__class__") = some true)
   (hm : PySem.W.mroIn K C (.type "object") = some true) : TyOf K H (.ref a) (.ref C)
theorem Zdc {x : V} {u t : Value} (I : Inv X pins σ H s) (rx : RelV x u) (ty : TyOf X.K H x t) (e : PySem.W.kitOne X.K t c = some b) (h : ∀ tk, Q (.bool b) { s with toks := tk }) :
  wpAny (model X.prog X.w) A (call (.builtin "isinstance") [u, c]) Q E s := by
 cases ty with
 | non => cases (show u = Value.none from rx); exact PySem.W.kia_one PySem.W.kitx_none I.kIn True.intro e (fun z => nomatch z) h
 | bl y => cases (show u = Value.bool y from rx); exact PySem.W.kia_one PySem.W.kitx_bool I.kIn True.intro e (fun z => nomatch z) h
 | int i => obtain ⟨t, q⟩ := (show ∃ t, u = Value.int i t from rx); cases q; exact PySem.W.kia_one PySem.W.kitx_int I.kIn True.intro e (fun z => nomatch z) h
 | str y => obtain ⟨t, q⟩ := (show ∃ t, u = Value.str y t from rx); cases q; exact PySem.W.kia_one PySem.W.kitx_str I.kIn True.intro e (fun z => nomatch z) h
 | flt y => obtain ⟨t, q⟩ := (show ∃ t, u = Value.float y t from rx); cases q; exact PySem.W.kia_one PySem.W.kitx_float I.kIn True.intro e (fun z => nomatch z) h
 | @lst a xs ea =>
  cases (show u = Value.ref a from rx)
  obtain ⟨_, _, n, _, h1⟩ := (show ObjOk X.prog X.w H s.heap a (.lst xs) from I.hok a _ ea)
  exact PySem.W.kia_one PySem.W.kitx_list I.kIn ⟨_, h1, rfl⟩ e (fun z => nomatch z) h
 | @frz a ob xs ea =>
  cases (show u = Value.ref a from rx)
  obtain ⟨_, _, _, n, _, h1⟩ := (show ObjOk X.prog X.w H s.heap a (.frz ob (.lst xs)) from I.hok a _ ea)
  exact PySem.W.kia_one PySem.W.kitx_list I.kIn ⟨_, h1, rfl⟩ e (fun z => nomatch z) h
 | @tup a xs ea =>
  cases (show u = Value.ref a from rx)
  obtain ⟨_, _, _, p⟩ := (show ObjOk X.prog X.w H s.heap a (.tup xs) from I.hok a _ ea)
  obtain ⟨o, h1, h2, _⟩ := p
  exact PySem.W.kia_one PySem.W.kitx_tuple I.kIn ⟨o, h1, h2⟩ e (fun z => nomatch z) h
 | @dK a kvs ea =>
  cases (show u = Value.ref a from rx)
  obtain ⟨_, _, vs, _, p⟩ := (show ObjOk X.prog X.w H s.heap a (.dK kvs) from I.hok a _ ea)
  obtain ⟨o, es, ep, h1, h2, _⟩ := p
  exact PySem.W.kia_one PySem.W.kitx_dict I.kIn ⟨o, h1, h2.1⟩ e (fun z => nomatch z) h
 | @dT a kvs ea =>
  cases (show u = Value.ref a from rx)
  obtain ⟨_, _, xs, _, o, es, ep, h1, h2, _⟩ := (show ObjOk X.prog X.w H s.heap a (.dT kvs) from I.hok a _ ea)
  exact PySem.W.kia_one PySem.W.kitx_dict I.kIn ⟨o, h1, h2.1⟩ e (fun z => nomatch z) h
 | @ins a C dx fs ea cl ha hn htk hm =>
  cases (show u = Value.ref a from rx)
  obtain ⟨mA, O, _⟩ := Zio I.hok ea
  obtain ⟨od, J, _⟩ := O.look
  exact PySem.W.kia_one (PySem.W.kitx_own (cl.get _) cl.hd ha hn htk hm) I.kIn J e (fun z => nomatch z) h
end
structure Room (k : Nat) (A : Around) : Prop where
 hd : A.handled = none
 gd : A.guards = some []
 dp : A.depth + 3 * k + 5 < recursionLimit
 un : A.units + 16 * k + 200 < cLine
theorem Room.mono {j k : Nat} {A : Around} (r : Room k A) (h : j <= k) : Room j A := ⟨r.hd, r.gd, by have := r.dp; omega, by have := r.un; omega⟩
theorem Room.deeper {k : Nat} {A : Around} (r : Room (k + 1) A) (env : Env) : Room k (A.deeper env) :=
 ⟨r.hd, r.gd, by have := r.dp; show A.depth + 1 + 3 * k + 5 < _; omega, by have := r.un; show A.units + 3 + 16 * k + 200 < _; omega⟩
theorem Room.depth {k : Nat} {A : Around} (r : Room k A) : A.depth < recursionLimit := by have := r.dp; omega
theorem Room.units {k : Nat} {A : Around} (r : Room k A) : A.units + 64 < cLine := by have := r.un; omega
theorem Room.units0 {k : Nat} {A : Around} (r : Room k A) : A.units < cLine := by have := r.un; omega
def tNil : TA := fun _ H Q => Q [] H
def Zdd (ta : TE) (tr : TA) : TA := fun σ H Q => ta σ H fun x H1 => tr σ H1 fun xs H2 => Q (x :: xs) H2
section
variable {X : Cx} {e : Expr} {es : List Expr} {te : TE} {t : TA} {pos : Pos}
theorem Z00 : PA X [] tNil := fun _ _ _ _ H Q I h => Calls.spliced_nil ⟨[], H, I, .nil, h⟩
theorem Z09 (ha : PE X e te) (hr : PA X es t) (hs : starEach (e :: es) X.env = (false, eval e X.env) :: starEach es X.env := by rfl) : PA X (e :: es) (Zdd te t) := by
 intro pos pins s σ H Q I h
 rw [hs]
 show wpAny _ _ (spliced ((false, eval e X.env) :: backTo pos (starEach es X.env))) _ _ s
 refine Calls.spliced_cons (thn (ha pins s σ H _ I h) fun u s1 ⟨x, H1, I1, r1, q1⟩ => ?_)
 exact thn (hr pos pins s1 σ H1 _ I1 q1) fun us s2 ⟨xs, H2, I2, r2, q2⟩ => ⟨x :: xs, H2, I2, .cons r1 r2, q2⟩
def Zpb (t : TA) : TE := fun σ H Q => t σ H fun xs H1 => xs.length <= sizeLine /\ ∀ p, H1 p = none -> Q (.ref p) (upd H1 p (.tup xs))
def Znb (t : TA) : TE := fun σ H Q => t σ H fun xs H1 => xs.length <= sizeLine /\ ∀ p, H1 p = none -> Q (.ref p) (upd H1 p (.lst xs))
theorem Z1g {x1} (h : PA X es t) : PE X (.Tuple es x1 pos) (Zpb t) := by
 intro pins s σ H Q I hq
 refine wpAny_Tuple_spliced (thn (h pos pins s σ H _ I hq) fun us s1 ⟨xs, H1, I1, r, z, q⟩ => ⟨by rw [<- r.length]; exact z, ?_⟩)
 have hf : H1 s1.heap.objs.size = none := I1.hok.fresh (Nat.le_refl _)
 refine ⟨.ref s1.heap.objs.size, upd H1 s1.heap.objs.size (.tup xs), I1.laid (t' := s1.toks) (fun b u e => Heap.get?_push_of_some _ e) (Nat.le_refl _) ?_, rfl, q _ hf⟩
 exact ⟨z, us, r, ⟨_, Heap.get?_push_size _ rfl, rfl, _, rfl⟩⟩
theorem Z1h (h : PA X es t) : PE X (.List es pos) (Znb t) := by
 intro pins s σ H Q I hq
 refine wpAny_List_spliced (thn (h pos pins s σ H _ I hq) fun us s1 ⟨xs, H1, I1, r, z, q⟩ => ⟨by rw [<- r.length]; exact z, ?_⟩)
 have hf : H1 s1.heap.objs.size = none := I1.hok.fresh (Nat.le_refl _)
 refine ⟨.ref s1.heap.objs.size, upd H1 s1.heap.objs.size (.lst xs), I1.laid (t' := s1.toks) (fun b u e => Heap.get?_push_of_some _ e) (Nat.le_refl _) ?_, rfl, q _ hf⟩
 exact ⟨z, us, 0, r, Heap.get?_push_size _ rfl⟩
end
abbrev Sp := List V -> Hp -> VK -> XK -> Prop
abbrev CXT := List Env -> Hp -> Shared -> XK -> Value -> Shared -> Prop
structure Env0 (P : Program) (w : World) (K : PySem.W.Frag) (mg : Str -> Option Value) (base : Heap) (A : Around) (outer : List Env) (s : Shared) (H : Hp) : Prop where
 frames : A.frames = some outer
 mod : Mod K mg base
 bs : ∀ b o, base.get? b = some o -> s.heap.get? b = some o /\ H b = none
 bsz : base.objs.size <= s.heap.objs.size
 funs : s.heap.FunFrames base outer
 frf : ∀ b ∈ frs outer, H b = none
 hok : HOk P w H s.heap
 bare : AllBare s.gens
def CE (outer : List Env) (P : Program) (w : World) (H : Hp) (s : Shared) (Q : VK) (u : Value) (s' : Shared) : Prop :=
 ∃ v H', s'.os = s.os /\ AllBare s'.gens /\ Un (frs outer) [] H H' s.heap s'.heap /\ HOk P w H' s'.heap /\ RelV v u /\ Q v H'
def CR (CX : CXT) (outer : List Env) (P : Program) (w : World) (H : Hp) (s : Shared) (Q : VK) (E : XK) (r : Result) (s' : Shared) : Prop :=
 match r with
 | .ok (.ret u) => CE outer P w H s Q u s'
 | .ok _ => False
 | .error e => CX outer H s E e s'
structure FnOk (P : Program) (w : World) (K : PySem.W.Frag) (mg : Str -> Option Value) (base : Heap) (CX : CXT) (k : Nat) (f : Addr) (fd : FuncData) (ps : List Str) (sp : Sp) : Prop where
 len : ∀ vs H Q E, sp vs H Q E -> vs.length = ps.length
 run : ∀ (A : Around) (outer : List Env) (s : Shared) (H : Hp) (args : Args) (us : List Value) (vs : List V) (Q : VK) (E : XK), Room k A -> Env0 P w K mg base A outer s H -> BindsTo s fd args (ps.zip us) -> Vals vs us -> sp vs H Q E →
  codeAny (model P w) A (.call (.ref f) args) (CR CX outer P w H s Q E) s
theorem FnOk.mono {P : Program} {w : World} {K : PySem.W.Frag} {mg : Str -> Option Value} {base : Heap} {CX : CXT} {j k : Nat} {f : Addr} {fd : FuncData} {ps : List Str} {sp : Sp} (F : FnOk P w K mg base CX j f fd ps sp) (h : j <= k) :
  FnOk P w K mg base CX k f fd ps sp := ⟨F.len, fun A outer s H args us vs Q E hr => F.run A outer s H args us vs Q E (hr.mono h)⟩
theorem FnOk.imp {P : Program} {w : World} {K : PySem.W.Frag} {mg : Str -> Option Value} {base : Heap} {CX : CXT} {k : Nat} {f : Addr} {fd : FuncData} {ps : List Str} {sp sp' : Sp} (F : FnOk P w K mg base CX k f fd ps sp)
  (h : ∀ vs H Q E, sp' vs H Q E -> sp vs H Q E) : FnOk P w K mg base CX k f fd ps sp' :=
 ⟨fun vs H Q E q => F.len vs H Q E (h _ _ _ _ q), fun A outer s H args us vs Q E hr he hb hv hs => F.run A outer s H args us vs Q E hr he hb hv (h _ _ _ _ hs)⟩
section
variable {X : Cx} {pins : List (Addr × Obj)} {σ : St} {H : Hp} {s s' : Shared}
theorem Inv.env0 (I : Inv X pins σ H s) : Env0 X.prog X.w X.K X.mg X.base X.A X.stack s H :=
 ⟨I.ok.frames, I.ok.mod, I.bs, Nat.le_trans I.ok.bsz I.sz, I.stack, I.stkFree, I.hok, I.bare⟩
theorem Inv.after {Q : VK} {u : Value} (I : Inv X pins σ H s) (h : CE X.stack X.prog X.w H s Q u s') : EP X pins σ Q u s' := by
 obtain ⟨v, H', os, bare, un, hok, r, q⟩ := h
 obtain ⟨hh, g, d, t, os'⟩ := s'
 obtain rfl : os' = s.os := os
 exact ⟨v, H', I.call (h' := hh) (g' := g) (d' := d) (t' := t) (ch := []) un hok bare (fun b z => absurd z (by simp)), r, q⟩
end
def Znc (sp : Sp) (dvs : List V) (E : XK) (t : TA) : TE := fun σ H Q => t σ H fun vs H1 => sp (vs ++ dvs) H1 Q E
def Binds (K : PySem.W.Frag) (fd : FuncData) (ps : List Str) (ds : List Value) : Prop :=
 ∀ (s : Shared) (us : List Value), K.In s.heap -> (us ++ ds).length = ps.length -> BindsTo s fd ⟨us, []⟩ (ps.zip (us ++ ds))
theorem Binds.all {K : PySem.W.Frag} {fd : FuncData} {ps : List Str} (h : ∀ us : List Value, us.length = ps.length -> bindArgs fd ⟨us, []⟩ = pure (ps.zip us)) : Binds K fd ps [] := fun s us _ hl => by
 rw [List.append_nil] at hl ⊢
 exact .of_eq (h us hl)
def Zad (CX : CXT) (X : Cx) (E : XK) : Prop := ∀ (pins : List (Addr × Obj)) (σ : St) (H : Hp) (s : Shared) (e : Value) (s' : Shared), Inv X pins σ H s -> CX X.stack H s E e s' -> X.xe e s'
section
variable {X : Cx} {CX : CXT} {k : Nat} {f C : Addr} {fd : FuncData} {ps : List Str} {sp : Sp} {dvs : List V} {ds : List Value} {E : XK} {x m : Str} {p pos apos : Pos} {e o : Expr} {es : List Expr} {ta : TE} {t : TA}
theorem Zhp {pins : List (Addr × Obj)} {σ : St} {H : Hp} {s : Shared} {Q : VK} {us : List Value} {vs : List V} (F : FnOk X.prog X.w X.K X.mg X.base CX k f fd ps sp) (hr : Room k X.A) (hb : Binds X.K fd ps ds) (hd : Vals dvs ds) (hx : Zad CX X E)
  (I : Inv X pins σ H s) (r : Vals vs us) (h : sp (vs ++ dvs) H Q E) : wpAny (model X.prog X.w) X.A (call (.ref f) us) (EP X pins σ Q) X.xe s := by
 have r2 : Vals (vs ++ dvs) (us ++ ds) := r.append hd
 have hl : (us ++ ds).length = ps.length := by rw [<- r2.length]; exact F.len _ _ _ _ h
 refine wpAny_call (codeAny_mono (F.run X.A X.stack s H ⟨us, []⟩ (us ++ ds) (vs ++ dvs) Q E hr I.env0 (hb s us I.kIn hl) r2 h) fun r s' hq => ?_)
 cases r with
 | error e => exact hx pins σ H s e s' I hq
 | ok fl =>
  cases fl with
  | ret u => exact I.after hq
  | next => exact False.elim hq
  | brk => exact False.elim hq
  | cont => exact False.elim hq
theorem Z07 (F : FnOk X.prog X.w X.K X.mg X.base CX k f fd ps sp) (hr : Room k X.A) (hg : Gl X x) (hm : X.mg x = some (.ref f)) (hk : PySem.W.keepIn X.K (.ref f) = true) (hb : Binds X.K fd ps ds) (hd : Vals dvs ds) (hx : Zad CX X E)
  (ha : PA X (e :: es) t) (hdb : (x == ("__debug__" : Str)) = false := by decide) (he : starEach (e :: es) X.env = (false, eval e X.env) :: starEach es X.env := by rfl) (hpl : (backTo pos (starEach es X.env)).any (·.1) = false := by rfl) :
  PE X (.Call (.Name x p) (e :: es) [] pos) (Znc sp dvs E t) := by
 intro pins s σ H Q I h
 refine wpAny_Call_Name_kw (Zd2 I hg hm ?_ hdb)
 refine PySem.W.callWith_K (h₀ := X.base) I.ok.mod.kin hk (thn (ha pos pins s σ H _ I h) fun us s1 ⟨vs, H1, I1, r, q⟩ => ⟨I1.kIn, ?_⟩) he hpl
 exact Zhp F hr hb hd hx I1 r q
end
section
variable {X : Cx} {CX : CXT} {k : Nat} {f C : Addr} {fd : FuncData} {ps ks : List Str} {sp : Sp} {E : XK} {x m : Str} {p pos apos kpos : Pos} {e o : Expr} {es : List Expr} {kws : List Keyword} {te ta : TE} {t tk : TA} {nm : Option Str}
variable {g : List Value -> List Value -> List Value} {gV : List V -> List V -> List V}
end
structure FnScope (N P : List Str) (sc : Scope) : Prop where
 kind : sc.kind = .function
 co : sc.isCoroutine = false
 gen : sc.isGenerator = false
 nd : N.Nodup
 pre : N.take P.length = P
 par : ∀ x ∈ P, sc.names.lookup x = some .local ∨ sc.names.lookup x = some .cell
 nofree : ∀ y ∈ sc.names, y.2 ≠ .free
theorem Z85 {kindOf : Str -> Option NameKind} {x : Str} : ∀ {binds : List (Str × Value)} {m : Str -> Option Value}, (∀ v, (x, v) ∉ binds) -> bindL kindOf binds m x = m x
 | [], _, _ => rfl
 | (n, v) :: r, m, h => by
  unfold bindL
  rw [Z85 fun w hw => h w (List.mem_cons_of_mem _ hw)]
  split
  ·have : x ≠ n := by rintro rfl; exact h v List.mem_cons_self
   simp [this]
  ·rfl
theorem Z86 {kindOf : Str -> Option NameKind} {x : Str} : ∀ {binds : List (Str × Value)} {m : Str -> Option Value}, (∀ v, (x, v) ∉ binds) -> bindC kindOf binds m x = m x
 | [], _, _ => rfl
 | (n, v) :: r, m, h => by
  unfold bindC
  rw [Z86 fun w hw => h w (List.mem_cons_of_mem _ hw)]
  split
  ·rfl
  ·have : x ≠ n := by rintro rfl; exact h v List.mem_cons_self
   simp [this]
theorem Z87 {kindOf : Str -> Option NameKind} {x : Str} {v : Value} : ∀ {P : List Str} {vs : List Value} {i : Nat} {m : Str -> Option Value}, P.Nodup -> P[i]? = some x -> vs[i]? = some v -> kindOf x = some .local →
  bindL kindOf (P.zip vs) m x = some v
 | [], _, _, _, _, h, _, _ => by simp at h
 | _ :: _, [], _, _, _, _, h, _ => by simp at h
 | p :: P, w :: vs, 0, m, nd, h1, h2, hk => by
  simp at h1 h2; subst h1; subst h2
  show bindL kindOf ((p, w) :: P.zip vs) m p = _
  unfold bindL
  rw [Z85 fun v hv => (List.nodup_cons.mp nd).1 (List.of_mem_zip hv).1, if_pos hk]
  simp
 | p :: P, w :: vs, i + 1, m, nd, h1, h2, hk => by
  show bindL kindOf ((p, w) :: P.zip vs) m x = _
  unfold bindL
  exact Z87 (i := i) (List.nodup_cons.mp nd).2 (by simpa using h1) (by simpa using h2) hk
theorem Z88 {kindOf : Str -> Option NameKind} {x : Str} {v : Value} : ∀ {P : List Str} {vs : List Value} {i : Nat} {m : Str -> Option Value}, P.Nodup -> P[i]? = some x -> vs[i]? = some v -> kindOf x ≠ some .local →
  bindC kindOf (P.zip vs) m x = some v
 | [], _, _, _, _, h, _, _ => by simp at h
 | _ :: _, [], _, _, _, _, h, _ => by simp at h
 | p :: P, w :: vs, 0, m, nd, h1, h2, hk => by
  simp at h1 h2; subst h1; subst h2
  show bindC kindOf ((p, w) :: P.zip vs) m p = _
  unfold bindC
  rw [Z86 fun v hv => (List.nodup_cons.mp nd).1 (List.of_mem_zip hv).1, if_neg hk]
  simp
 | p :: P, w :: vs, i + 1, m, nd, h1, h2, hk => by
  show bindC kindOf ((p, w) :: P.zip vs) m x = _
  unfold bindC
  exact Z88 (i := i) (List.nodup_cons.mp nd).2 (by simpa using h1) (by simpa using h2) hk
def Z89 (N : List Str) (vs : List V) : St := vs.map some ++ List.replicate (N.length - vs.length) none
def Zip (CX : CXT) (P : Program) (w : World) (K : PySem.W.Frag) (mg : Str -> Option Value) (base : Heap) (N : List Str) (qual : Str) (scope : Scope) (f : Addr) (cd : Value) (A : Around) (outer : List Env) (s : Shared) (H : Hp) (E : XK) : Cx where
 prog := P
 w := w
 K := K
 mg := mg
 base := base
 A := A.deeper (envOfC qual scope s.heap.objs.size f cd)
 N := N
 s₀ := s
 H₀ := H
 env := envOfC qual scope s.heap.objs.size f cd
 outer := outer
 stack := envOfC qual scope s.heap.objs.size f cd :: outer
 ex := []
 calm := true
 fn := fun _ => true
 pn := []
 xe := fun e s' => wpAny (model P w) (A.deeper (envOfC qual scope s.heap.objs.size f cd)) (leaving (envOfC qual scope s.heap.objs.size f cd) e) (fun _ s'' => CX outer H s E e s'') (fun e' s'' => CX outer H s E e' s'') s'
theorem Zae {sc : Scope} {n : Nat} {x : Str} (h : sc.names.lookup x = some .cell) : ∃ c, (cellsFrom n sc.names []).lookup x = some c := by
 have q := PySem.W.cellsFrom_some sc.names n [] (.inl h)
 exact Option.isSome_iff_exists.mp q
theorem Zde {CX : CXT} {P : Program} {w : World} {K : PySem.W.Frag} {mg : Str -> Option Value} {base : Heap} {N ps : List Str} {qual : Str} {scope : Scope} {f : Addr} {cd : Value} {A : Around} {outer : List Env} {s s1 : Shared} {H : Hp} {E : XK} {us : List Value} {vs : List V}
  (S : FnScope N ps scope) (hd : A.handled = none) (e0 : Env0 P w K mg base A outer s H) (hl : vs.length = ps.length) (r : Vals vs us)
  (x : InCallC s s.heap.objs.size (bindL (envOfC qual scope s.heap.objs.size f cd).kindOf (ps.zip us) fun _ => none) (cellsFrom (s.heap.objs.size + 1) scope.names []) (bindC (envOfC qual scope s.heap.objs.size f cd).kindOf (ps.zip us) fun _ => none) s1) :
  Inv (Zip CX P w K mg base N qual scope f cd A outer s H E) [] (Z89 N vs) H s1 := by
 have hpl : ps.length <= N.length := by have := congrArg List.length S.pre; rw [List.length_take] at this; omega
 obtain ⟨h1, tk, rfl, hk⟩ := x.done
 have noA : ∀ b : Addr, b ∉ (Zip CX P w K mg base N qual scope f cd A outer s H E).ex := fun b z => absurd (show b ∈ ([] : List Addr) from z) (by simp)
 refine ⟨⟨e0.mod, S.kind, rfl, rfl, Nat.le_refl _, fun y z c h1 h2 => ?_, fun y hy => ?_, fun y c _ h => ?_, fun _ => hd, Around.frames_deeper e0.frames, .inr ⟨rfl, rfl⟩, fun b z => absurd z (noA b), e0.bs, e0.bsz, fun b _ _ => noA b, fun b z => absurd z (noA b), e0.funs, e0.frf⟩,
  rfl, e0.bare, Un.kept hk, ⟨_, x.toInCall.ns, fun i y v h1 h2 h3 => ?_⟩, fun y c h => ⟨_, x.cell y c h⟩, e0.hok.fresh (Nat.le_refl _), fun y c h => ?_, fun p hp => absurd (show p ∈ ([] : List (Addr × Obj)) from hp) (by simp), e0.hok.kept hk, ?_⟩
 ·exact name_of_addr x.apart (PySem.mem_of_lookup h1) (PySem.mem_of_lookup h2)
 ·have hy : scope.names.lookup y = some .cell ∨ scope.names.lookup y = some .free := hy
  rcases hy with hy | hy
  ·exact Zae hy
  ·exact absurd rfl (S.nofree _ (PySem.mem_of_lookup hy))
 ·exact Nat.le_of_lt (x.above y c (PySem.mem_of_lookup h))
 ·have hi : i < vs.length := by
   unfold Z89 at h2
   by_cases hi : i < vs.length
   ·exact hi
   ·rw [List.getElem?_append_right (by simpa using hi)] at h2
    rw [List.getElem?_replicate] at h2
    split at h2 <;> cases h2
  have ha : vs[i]? = some v := by
   unfold Z89 at h2
   rw [List.getElem?_append_left (by simpa using hi), List.getElem?_map] at h2
   cases e : vs[i]? with
   | none => rw [e] at h2; cases h2
   | some a => rw [e] at h2; cases h2; rfl
  obtain ⟨u, hu, rv⟩ := r.get ha
  have hp : ps[i]? = some y := by
   rw [<- S.pre, List.getElem?_take_of_lt (by omega)]; exact h1
  have ndP : ps.Nodup := by rw [<- S.pre]; exact S.nd.sublist (List.take_sublist _ _)
  refine ⟨u, rv, ?_⟩
  rcases S.par y (List.mem_of_getElem? hp) with k | k
  ·exact .inl ⟨k, Z87 ndP hp hu k⟩
  ·obtain ⟨c, e⟩ := Zae (n := s.heap.objs.size + 1) k
   refine .inr ⟨.inl k, c, e, ?_⟩
   have q := x.cell y c e
   rw [Z88 ndP hp hu (by show scope.names.lookup y ≠ _; rw [k]; decide)] at q
   exact q
 ·exact e0.hok.fresh (Nat.le_of_lt (x.above y c (PySem.mem_of_lookup h)))
 ·unfold Z89
  show _ = N.length
  rw [List.length_append, List.length_map, List.length_replicate]
  omega
theorem Znd {CX : CXT} {P : Program} {w : World} {K : PySem.W.Frag} {mg : Str -> Option Value} {base : Heap} {k : Nat} {f : Addr} {name qual : Str} {params : Arguments} {body : List Stmt} {scope : Scope} {dV kV doc pm cdv ct oc : Value} {an od : Option Addr}
  {osl : Array (Option Value)} {N ps : List Str} {sp : Sp} (lk : K.lookup f = some ⟨oc, od, .func (PySem.W.fnOf name qual params body scope dV kV doc pm an cdv ct), osl⟩) (hcd : PySem.W.codeIn K cdv qual = true) (S : FnScope N ps scope)
  (len : ∀ vs H Q E, sp vs H Q E -> vs.length = ps.length)
  (hbody : ∀ (A : Around) (outer : List Env) (s : Shared) (H : Hp) (vs : List V) (Q : VK) (E : XK), Room k (A.deeper (envOfC qual scope s.heap.objs.size f cdv)) -> sp vs H Q E →
   ∃ t, PSs (Zip CX P w K mg base N qual scope f cdv A outer s H E) body t /\ t { nx := fun _ H' => Q .non H', rt := Q } (Z89 N vs) H) :
  FnOk P w K mg base CX (k + 1) f (PySem.W.fnOf name qual params body scope dV kV doc pm an cdv ct) ps sp := by
 refine ⟨len, fun A outer s H args us vs Q E hr e0 hb r hsp => ?_⟩
 have hl := len _ _ _ _ hsp
 have KX : K.In s.heap := e0.mod.kin.keeps fun b o e => (e0.bs b o e).1
 have lim : s.heap.NoLimit := e0.mod.nolimit.keeps fun b o e => (e0.bs b o e).1
 have hkind : ∀ y ∈ ps.zip us, scope.names.lookup y.1 = some .local ∨ (scope.names.lookup y.1 = some .cell /\ ((cellsFrom (s.heap.objs.size + 1) scope.names []).lookup y.1).isSome = true) := fun ⟨n, v⟩ hy => by
  rcases S.par n (List.of_mem_zip hy).1 with q | q
  ·exact .inl q
  ·exact .inr ⟨q, PySem.W.cellsFrom_some _ _ _ (.inl q)⟩
 refine codeAny_call_function hr.depth (KX _ _ lk) rfl S.co S.gen rfl (PySem.W.codeRec_of KX hcd) (hb _ _ _ _ ?_)
 refine wpAny_newFunctionEnv_cells S.kind hkind fun env he s1 x => ?_
 subst he
 refine ⟨lim.keeps x.toInCall.keep, codeAny_func ?_⟩
 obtain ⟨t, ht, hq⟩ := hbody A outer s H vs Q E (hr.deeper _) hsp
 have I : Inv (Zip CX P w K mg base N qual scope f cdv A outer s H E) [] (Z89 N vs) H s1 := Zde S hr.hd e0 hl r x
 refine wpAny_mono (ht [] s1 (Z89 N vs) H _ I hq) (fun fl s' hs => ?_) fun e s' hs => hs
 have fin : ∀ {σ' : St} {H' : Hp} {v : V} {u : Value}, Inv (Zip CX P w K mg base N qual scope f cdv A outer s H E) [] σ' H' s' -> RelV v u -> Q v H' -> CE outer P w H s Q u s' :=
  fun {σ' H' v u} J rv q => ⟨v, H', J.os, J.bare, J.base, J.hok, rv, q⟩
 cases fl with
 | ret u =>
  obtain ⟨v, σ', H', J, rv, q⟩ := hs
  exact fin J rv q
 | next =>
  obtain ⟨σ', H', J, q⟩ := hs
  exact fin (v := V.non) (u := Value.none) J rfl q
 | brk =>
  obtain ⟨_, _, _, q⟩ := hs
  exact False.elim q
 | cont =>
  obtain ⟨_, _, _, q⟩ := hs
  exact False.elim q
section
variable {X : Cx} {x : Str} {p pos : Pos} {e : Expr} {es : List Expr} {t : TA} {id T : String} {r : List V -> Hp -> VK -> Prop}
def tCB (r : List V -> Hp -> VK -> Prop) (t : TA) : TE := fun σ H Q => t σ H fun vs H1 => r vs H1 Q
theorem Z0c (hc : Z3k X (.builtin id) r) (hg : Gl X x) (hm : X.mg x = none) (hv : bootBuiltins x = some (.builtin id)) (ha : PA X (e :: es) t) (hn : x ≠ "__name__" := by decide) (hdb : (x == ("__debug__" : Str)) = false := by decide)
  (he : starEach (e :: es) X.env = (false, eval e X.env) :: starEach es X.env := by rfl) (hpl : (backTo pos (starEach es X.env)).any (·.1) = false := by rfl) : PE X (.Call (.Name x p) (e :: es) [] pos) (tCB r t) := by
 intro pins s σ H Q I h
 refine wpAny_Call_Name_kw (Z5a I hg hm hv ?_ hn hdb)
 exact PyProof.Rows.callWith_builtin1 (thn (ha pos pins s σ H _ I h) fun us s1 ⟨vs, H1, I1, r1, q1⟩ => hc pins s1 σ H1 vs us Q I1 r1 q1) he hpl
theorem Z1m (hc : Z3k X (.type T) r) (hg : Gl X x) (hm : X.mg x = none) (hv : bootBuiltins x = some (.type T)) (ha : PA X (e :: es) t) (hn : x ≠ "__name__" := by decide) (hdb : (x == ("__debug__" : Str)) = false := by decide)
  (he : starEach (e :: es) X.env = (false, eval e X.env) :: starEach es X.env := by rfl) (hpl : (backTo pos (starEach es X.env)).any (·.1) = false := by rfl) : PE X (.Call (.Name x p) (e :: es) [] pos) (tCB r t) := by
 intro pins s σ H Q I h
 refine wpAny_Call_Name_kw (Z5a I hg hm hv ?_ hn hdb)
 exact PyProof.Rows.callWith_type1 (thn (ha pos pins s σ H _ I h) fun us s1 ⟨vs, H1, I1, r1, q1⟩ => hc pins s1 σ H1 vs us Q I1 r1 q1) he hpl
theorem Zbz (hc : Z3k X (.type T) r) (hg : Gl X x) (hm : X.mg x = none) (hv : bootBuiltins x = some (.type T)) (hn : x ≠ "__name__" := by decide) (hdb : (x == ("__debug__" : Str)) = false := by decide) :
  PE X (.Call (.Name x p) [] [] pos) (tCB r tNil) := by
 intro pins s σ H Q I h
 refine wpAny_Call_Name_kw (Z5a I hg hm hv ?_ hn hdb)
 exact PyProof.Rows.callWith_type0 (hc pins s σ H [] [] Q I .nil h)
end
end L2
namespace HT
open PySem PyProof.Rows
section
open PySem.SeqAt
open PySem.AutoSeq1 (wpAny_loadPart')
open PySem.MeetsSeq PySem.MeetsSeq2 PySem.MeetsSeq3
end
section
variable {prog : Program} {w : World} {A : Around} {E : Value -> Shared -> Prop} {s : Shared}
theorem cat_tup {t b : Addr} {vs ws : List Value} {Q : Value -> Shared -> Prop} (ht : IsTup s.heap t vs.toArray) (hb : IsTup s.heap b ws.toArray) (hv : vs ≠ [])
  (h1 : ws = [] -> Q (.ref t) s) (h2 : ws ≠ [] -> Q (.ref s.heap.objs.size) { s with heap := s.heap.push { cls := .type "tuple", data := .seq (vs ++ ws).toArray } })
  (hsz : vs.length + ws.length <= sizeLine) : wpAny (model prog w) A (binaryOp .Add (.ref t) (.ref b)) Q E s := by
 obtain ⟨⟨cls, dd, data, sl⟩, ho, hc, n, hd⟩ := id ht
 obtain ⟨⟨cls2, dd2, data2, sl2⟩, ho2, hc2, n2, hd2⟩ := id hb
 simp only at hc hd hc2 hd2
 subst hc hd hc2 hd2
 have e : vs.toArray ++ ws.toArray = (vs ++ ws).toArray := by simp
 by_cases hw : ws = []
 ·exact concat_meets ⟨_, ho, rfl⟩ ⟨_, ho2, rfl⟩ noFill_tuple_add seq_tuple_add PySem.F.slot_tuple_add PySem.F.entry_tuple_add (PySem.F.args_tuple_add_2 _ _)
   (tuple_addW1 t b vs.toArray ws.toArray n n2 dd dd2 sl sl2 (by simpa using hv) (by simp [hw])) ⟨ho, ho2, h1 hw⟩
 ·refine concat_meets ⟨_, ho, rfl⟩ ⟨_, ho2, rfl⟩ noFill_tuple_add seq_tuple_add PySem.F.slot_tuple_add PySem.F.entry_tuple_add (PySem.F.args_tuple_add_2 _ _)
   (tuple_addW2 t b vs.toArray ws.toArray n n2 dd dd2 sl sl2 (by simpa using hv) (by simpa using hw) (by rw [List.size_toArray, List.size_toArray]; exact hsz)) ⟨ho, ho2, ?_⟩
  rw [e]
  exact h2 hw
def sIx (n d : Nat) : Option Int -> Nat
 | none => d
 | some v => if v < 0 then (v + (n : Int)).toNat else min v.toNat n
theorem Zld (n d : Nat) (hd : d <= n) (o : Option Int) : sIx n d o <= n := by
 cases o with
 | none => exact hd
 | some v =>
  show (if v < 0 then (v + (n : Int)).toNat else min v.toNat n) <= n
  by_cases hv : v < 0
  ·rw [if_pos hv]; omega
  ·rw [if_neg hv]; exact Nat.min_le_right _ _
theorem Zdf (v : Int) (n d : Nat) : (if v < 0 then max (v + (n : Int)) 0 else min v (n : Int)) = ((sIx n d (some v) : Nat) : Int) := by
 show (if v < 0 then max (v + (n : Int)) 0 else min v (n : Int)) = (((if v < 0 then (v + (n : Int)).toNat else min v.toNat n) : Nat) : Int)
 by_cases hv : v < 0
 ·simp only [if_pos hv]; omega
 ·simp only [if_neg hv]; omega
theorem Zc0 (lo hi : Option Int) (n : Nat) : Builtin.Slice.sliceAdjust lo hi 1 (n : Int) = (((sIx n 0 lo : Nat) : Int), ((sIx n n hi : Nat) : Int)) := by
 have h1 : ¬ ((1 : Int) < 0) := by omega
 unfold Builtin.Slice.sliceAdjust
 simp only [h1, if_false]
 refine Prod.ext ?_ ?_
 ·cases lo with
  | none => rfl
  | some v => exact Zdf v n 0
 ·cases hi with
  | none => rfl
  | some v => exact Zdf v n n
theorem Zc1 (i j : Nat) : Builtin.Slice.slicePlaces (i : Int) (j : Int) 1 = j - i := by
 unfold Builtin.Slice.slicePlaces
 have h1 : (1 : Int) > 0 := by omega
 simp only [h1, if_true, Int.ediv_one]
 split <;> omega
theorem Z6k {v : Value} {o : Option Int} {Q : Option Int -> Shared -> Prop} (p : IsPart v o) (h : Q o s) : wpAny (model prog w) A (Builtin.Slice.slicePartIndex v) Q E s := by
 cases p with
 | none => exact slicePart_none h
 | int i t => exact slicePart_int h
theorem Z2o {sl : Addr} {vl vu : Value} {lo hi : Option Int} {n : Nat} {Q : Int × Int × Nat -> Shared -> Prop} (hs : s.heap.IsSliceOf sl vl vu .none) (pl : IsPart vl lo) (pu : IsPart vu hi)
  (h : Q (((sIx n 0 lo : Nat) : Int), 1, sIx n n hi - sIx n 0 lo) s) : wpAny (model prog w) A (Builtin.Slice.sliceApplied (.ref sl) (pure (n : Int))) Q E s := by
 obtain ⟨os, hos, hcs, hds⟩ := id hs
 unfold Builtin.Slice.sliceApplied Builtin.Slice.sliceFields
 refine wpAny_bind (wpAny_bind (wpAny_field hos hds (x := vl) rfl (wpAny_bind (wpAny_field hos hds (x := vu) rfl (wpAny_bind (wpAny_field hos hds (x := .none) rfl (wpAny_pure ?_)))))))
 refine wpAny_bind (slicePart_none ?_)
 show wpAny _ _ (if ((1 : Int) == 0) = true then _ else _) _ _ s
 rw [if_neg (by decide)]
 refine wpAny_bind (Z6k pl (wpAny_bind (Z6k pu (wpAny_bind (wpAny_pure ?_)))))
 show wpAny _ _ (match Builtin.Slice.sliceAdjust lo hi 1 (n : Int) with | (lo, hi) => pure (lo, (1 : Int), Builtin.Slice.slicePlaces lo hi 1)) _ _ s
 rw [Zc0 lo hi n]
 show wpAny _ _ (pure (((sIx n 0 lo : Nat) : Int), (1 : Int), Builtin.Slice.slicePlaces ((sIx n 0 lo : Nat) : Int) ((sIx n n hi : Nat) : Int) 1)) _ _ s
 rw [Zc1]
 exact wpAny_pure h
theorem Zfw (xs : Array Value) (i k : Nat) : ((List.range k).filterMap fun (m : Nat) => xs[((i : Int) + (m : Int) * 1).toNat]?).toArray = ((xs.toList.drop i).take k).toArray := by
 have e : (fun (m : Nat) => xs[((i : Int) + (m : Int) * 1).toNat]?) = fun m => xs[i + m]? := by
  funext m
  have : ((i : Int) + (m : Int) * 1).toNat = i + m := by omega
  rw [this]
 rw [e]
 have := pick_run xs i k
 rw [List.filterMap_map] at this
 have e2 : ((fun x => xs[x]?) ∘ fun x => i + x) = fun m => xs[i + m]? := rfl
 rw [e2] at this
 rw [this]
theorem getItem_tuple_cut {t sl : Addr} {items : Array Value} {vl vu : Value} {lo hi : Option Int} {Q : Value -> Shared -> Prop} (ht : IsTup s.heap t items) (hs : s.heap.IsSliceOf sl vl vu .none) (pl : IsPart vl lo) (pu : IsPart vu hi)
  (hw : ¬ (sIx items.size 0 lo = 0 /\ sIx items.size items.size hi = items.size))
  (h : Q (.ref s.heap.objs.size) { s with heap := s.heap.push { cls := .type "tuple", data := .seq ((items.toList.drop (sIx items.size 0 lo)).take (sIx items.size items.size hi - sIx items.size 0 lo)).toArray } })
  (hsz : items.size <= sizeLine) : wpAny (model prog w) A (getItem (.ref t) (.ref sl)) Q E s := by
 have htake : sizeOk (.seq ((items.toList.drop (sIx items.size 0 lo)).take (sIx items.size items.size hi - sIx items.size 0 lo)).toArray) := by
  show ((items.toList.drop (sIx items.size 0 lo)).take (sIx items.size items.size hi - sIx items.size 0 lo)).toArray.size <= sizeLine
  rw [List.size_toArray, List.length_take, List.length_drop, Array.length_toList]
  omega
 have hj : sIx items.size items.size hi <= items.size := Zld _ _ (Nat.le_refl _) hi
 obtain ⟨os, hos, hcs, hds⟩ := id hs
 have hTs : s.TypeIs (.ref sl) "slice" := ⟨os, hos, hcs⟩
 unfold getItem
 try with_reducible refine wpAny_holding ?_
 first | refine wpAny_bind (wpAny_pure ?_) | skip
 refine wpAny_bind (wpAny_sequenceKey ht.typeIs (by decide) ?_)
 refine wpAny_bind (wpAny_callSpecial?_slot (name := Str.ofString "__getitem__") ht.typeIs PyProof.Rows.slot_tuple_getitem
  (wpAny_call_entry PyProof.Rows.slot_tuple_getitem ht.typeIs entry_tuple_getitem ?_ (args_tuple_getitem _ _)))
 show wpAny _ _ (Builtin.Tuple.tupleItemsOf (.ref t) >>= _) _ _ s
 refine wpAny_bind (tupleItemsOf_ ht ?_)
 refine wpAny_bind (wpAny_typeOf hTs ?_)
 rw [if_pos (by decide)]
 refine wpAny_bind (Z2o hs pl pu ?_)
 have hno : ¬ ((((sIx items.size 0 lo : Nat) : Int) == 0 && (1 : Int) == 1 && (sIx items.size items.size hi - sIx items.size 0 lo) == items.size) = true) := by
  intro q
  rw [Bool.and_eq_true, Bool.and_eq_true] at q
  have q1 : ((sIx items.size 0 lo : Nat) : Int) = 0 := eq_of_beq q.1.1
  have q2 : sIx items.size items.size hi - sIx items.size 0 lo = items.size := eq_of_beq q.2
  exact hw ⟨by omega, by omega⟩
 show wpAny _ _ (if (((sIx items.size 0 lo : Nat) : Int) == 0 && (1 : Int) == 1 && (sIx items.size items.size hi - sIx items.size 0 lo) == items.size) = true then _ else _) _ _ s
 rw [if_neg hno, Zfw]
 first
  | exact wpAny_bind (m := Builtin.Tuple.tupleExact _) (wpAny_newObj_type (wpAny_pure ⟨_, rfl, wpAny_pure h⟩) htake)
  | exact wpAny_bind (m := Builtin.Tuple.tupleExact _) (wpAny_newObj_type (wpAny_bind (wpAny_pure (wpAny_pure ⟨_, rfl, wpAny_pure h⟩))) htake)
  | exact wpAny_bind (wpAny_bind (m := Builtin.Tuple.tupleExact _) (wpAny_newObj_type (wpAny_pure (wpAny_pure ⟨_, rfl, wpAny_pure h⟩)) htake))
  | exact wpAny_bind (wpAny_bind (m := Builtin.Tuple.tupleExact _) (wpAny_newObj_type (wpAny_pure ⟨_, rfl, wpAny_pure h⟩) htake))
end
end HT
namespace L2
open PySem PySem.Spec PyProof.Rows
abbrev TO := St -> Hp -> (Option Int -> Hp -> Prop) -> Prop
def PO (X : Cx) (e : Option Expr) (t : TO) : Prop :=
 ∀ (pins : List (Addr × Obj)) (s : Shared) (σ : St) (H : Hp) (Q : Option Int -> Hp -> Prop), Inv X pins σ H s -> t σ H Q →
  wpAny (model X.prog X.w) X.A (evalPart e X.env) (fun u s' => ∃ o H', Inv X pins σ H' s' /\ IsPart u o /\ Q o H') X.xe s
def tNoPart : TO := fun _ H Q => Q none H
def Zne (t : TE) : TO := fun σ H Q => t σ H fun x H1 => ∃ i, x = .int i /\ Q (some i) H1
theorem Zc2 {ns : List Int} : ∀ {us : List Value}, Vals (ns.map V.int) us -> IntsAre us ns := by
 induction ns with
 | nil => intro us r; rw [List.map_nil] at r; cases r; exact .nil
 | cons n ns ih =>
  intro us r
  rw [List.map_cons] at r
  cases r with
  | cons r1 r2 =>
   obtain ⟨t, e⟩ := r1
   subst e
   exact .cons n t (ih r2)
section
variable {X : Cx} {e : Expr} {te : TE} {lo hi : Option Expr} {tl th : TO} {pos p2 : Pos}
theorem Z3l : PO X none tNoPart := by
 intro pins s σ H Q I h
 rw [evalPart_none]
 exact wpAny_pure ⟨none, H, I, .none, h⟩
theorem Z3m (h : PE X e te) : PO X (some e) (Zne te) := by
 intro pins s σ H Q I hw
 rw [evalPart_some]
 refine thn (h pins s σ H _ I hw) fun u s1 ⟨x, H1, I1, r1, q1⟩ => ?_
 obtain ⟨i, rfl, q⟩ := q1
 obtain ⟨t, rfl⟩ := r1
 exact ⟨some i, H1, I1, .int i t, q⟩
def SlR (X : Cx) (r : V -> Option Int -> Option Int -> Hp -> VK -> Prop) : Prop :=
 ∀ (pins : List (Addr × Obj)) (s : Shared) (σ : St) (H : Hp) (x : V) (v vl vu : Value) (lo hi : Option Int) (sl : Addr) (Q : VK), Inv X pins σ H s -> RelV x v -> s.heap.IsSliceOf sl vl vu .none -> IsPart vl lo -> IsPart vu hi -> r x lo hi H Q →
  ∃ T id, typeLookup (.type T) "__getitem__" = pure (some (.builtin id)) /\ s.TypeIs v T /\ wpAny (model X.prog X.w) X.A (getItem v (.ref sl)) (EP X pins σ Q) X.xe s
def tSl (r : V -> Option Int -> Option Int -> Hp -> VK -> Prop) (te : TE) (tl th : TO) : TE := fun σ H Q => te σ H fun x H1 => tl σ H1 fun l H2 => th σ H2 fun u H3 => r x l u H3 Q
theorem Z2l {r : V -> Option Int -> Option Int -> Hp -> VK -> Prop} (hr : SlR X r) (he : PE X e te) (hl : PO X lo tl) (hu : PO X hi th) : PE X (.Subscript e (.Slice lo hi none p2) pos) (tSl r te tl th) := by
 intro pins s σ H Q I h
 refine Subscript_ (thn (he pins s σ H _ I h) fun v s1 ⟨x, H1, I1, r1, q1⟩ => ?_)
 refine wpAny_Slice (thn (hl pins s1 σ H1 _ I1 q1) fun vl s2 ⟨l, H2, I2, pl, q2⟩ => thn (hu pins s2 σ H2 _ I2 q2) fun vu s3 ⟨u, H3, I3, pu, q3⟩ => ?_)
 rw [evalPart_none]
 refine wpAny_pure ?_
 have I4 : Inv X pins σ H3 { s3 with heap := s3.heap.push { cls := .type "slice", data := .fields #[vl, vu, .none] } } := I3.kept (t' := s3.toks) fun b ob q => Heap.get?_push_of_some _ q
 obtain ⟨T, id, hT, ht, hg⟩ := hr pins { s3 with heap := s3.heap.push { cls := .type "slice", data := .fields #[vl, vu, .none] } } σ H3 x v vl vu l u s3.heap.objs.size Q I4 r1 (Heap.IsSliceOf.new ..) pl pu q3
 show wpAny (model X.prog X.w) X.A (subscriptTail e (.Slice lo hi none p2) v (.ref s3.heap.objs.size)) (EP X pins σ Q) X.xe { s3 with heap := s3.heap.push { cls := .type "slice", data := .fields #[vl, vu, .none] } }
 exact tail_any (ops := [.ref s3.heap.objs.size, v]) ht hT hg (by with_unfolding_all rfl)
def Z8a (xs : List V) (lo hi : Option Int) : List V := (xs.drop (HT.sIx xs.length 0 lo)).take (HT.sIx xs.length xs.length hi - HT.sIx xs.length 0 lo)
theorem Z5e (xs : List V) (lo hi : Option Int) : (Z8a xs lo hi).length <= xs.length := by
 unfold Z8a
 rw [List.length_take, List.length_drop]
 omega
def Zpc (K : PySem.W.Frag) : V -> Option Int -> Option Int -> Hp -> VK -> Prop := fun x lo hi H Q => ∃ a xs, x = .ref a /\ SqT K H a xs ∧
 ¬ (HT.sIx xs.length 0 lo = 0 /\ HT.sIx xs.length xs.length hi = xs.length) /\ ∀ p, H p = none -> Q (.ref p) (upd H p (.tup (Z8a xs lo hi)))
theorem Zdg : SlR X (Zpc X.K) := by
 intro pins s σ H x v vl vu lo hi sl Q I rx hs pl pu h
 obtain ⟨a, xs, rfl, hx, hw, q⟩ := h
 cases rx
 obtain ⟨its, r, ht, hz⟩ := I.tuple hx
 have hlen : its.toArray.size = xs.length := by rw [List.size_toArray]; exact r.length.symm
 refine ⟨"tuple", _, PyProof.Rows.slot_tuple_getitem.lookup, ht.typeIs, ?_⟩
 refine HT.getItem_tuple_cut ht hs pl pu (by rw [hlen]; exact hw) ?_ (by rw [hlen]; exact hz)
 rw [hlen]
 refine ⟨.ref s.heap.objs.size, _, I.laid (t' := s.toks) (o := .tup (Z8a xs lo hi)) (fun b ob q => Heap.get?_push_of_some _ q) (Nat.le_refl _) ?_, rfl, q _ (I.hok.fresh (Nat.le_refl _))⟩
 exact ⟨Nat.le_trans (Z5e xs lo hi) hz, _, (r.drop (HT.sIx xs.length 0 lo)).take (HT.sIx xs.length xs.length hi - HT.sIx xs.length 0 lo), IsTup.new _ _⟩
def Znf (K : PySem.W.Frag) : R2 := fun x y H Q => ∃ a b xs ys, x = .ref a /\ y = .ref b /\ SqT K H a xs /\ SqT K H b ys /\ xs ≠ [] /\ xs.length + ys.length <= sizeLine ∧
 (ys = [] -> Q (.ref a) H) /\ (ys ≠ [] -> ∀ p, H p = none -> Q (.ref p) (upd H p (.tup (xs ++ ys))))
theorem Vals.nil_iff {xs : List V} {us : List Value} (r : Vals xs us) : us = [] ↔ xs = [] := by
 cases r with
 | nil => simp
 | cons _ _ => simp
theorem Ziq : OpR X (binaryOp .Add) (Znf X.K) := by
 intro pins s σ H x y v u Q I rx ry h
 obtain ⟨a, b, xs, ys, rfl, rfl, ha, hb, hx, hz, q1, q2⟩ := h
 cases rx
 cases ry
 obtain ⟨its, r1, p1, _⟩ := I.tuple ha
 obtain ⟨its2, r2, p2, _⟩ := I.tuple hb
 refine HT.cat_tup p1 p2 (fun z => hx (r1.nil_iff.mp z)) (fun z => ⟨.ref a, H, I, rfl, q1 (r2.nil_iff.mp z)⟩) (fun z => ?_) (by rw [<- r1.length, <- r2.length]; exact hz)
 refine ⟨.ref s.heap.objs.size, _, I.laid (t' := s.toks) (o := .tup (xs ++ ys)) (fun b ob q => Heap.get?_push_of_some _ q) (Nat.le_refl _) ?_, rfl, q2 (fun w => z (r2.nil_iff.mpr w)) _ (I.hok.fresh (Nat.le_refl _))⟩
 exact ⟨by rw [List.length_append]; exact hz, _, r1.append r2, IsTup.new _ _⟩
end
def ixN (n : Nat) (i : Int) : Option Nat := if 0 <= i then (if i < n then some i.toNat else none) else if -(n : Int) <= i then some (i + n).toNat else none
def atI {α : Type} (xs : List α) (i : Int) : Option α := (ixN xs.length i).bind fun j => xs[j]?
theorem Zdh {n : Nat} {i : Int} {j : Nat} (h : ixN n i = some j) : seqIndex? i n = some j /\ j < n /\ -(n : Int) <= i /\ i < n := by
 unfold ixN at h
 by_cases h0 : 0 <= i
 ·rw [if_pos h0] at h
  by_cases h1 : i < n
  ·rw [if_pos h1] at h
   have e : i.toNat = j := Option.some.inj h
   exact ⟨by rw [seqIndex_of h0 h1, e], by omega, by omega, h1⟩
  ·rw [if_neg h1] at h; cases h
 ·rw [if_neg h0] at h
  by_cases h1 : -(n : Int) <= i
  ·rw [if_pos h1] at h
   have e : (i + n).toNat = j := Option.some.inj h
   exact ⟨by rw [seqIndex_neg (by omega) h1, e], by omega, h1, by omega⟩
  ·rw [if_neg h1] at h; cases h
theorem Z73 {α : Type} {xs : List α} {i : Int} {v : α} (h : atI xs i = some v) : ∃ j, seqIndex? i xs.length = some j /\ xs[j]? = some v /\ j < xs.length /\ -(xs.length : Int) <= i /\ i < xs.length := by
 unfold atI at h
 cases e : ixN xs.length i with
 | none => rw [e] at h; cases h
 | some j =>
  rw [e] at h
  obtain ⟨h1, h2, h3, h4⟩ := Zdh e
  exact ⟨j, h1, h, h2, h3, h4⟩
theorem Z2m {α : Type} {xs : List α} {j : Nat} {v : α} (h : xs[j]? = some v) : atI xs (j : Int) = some v := by
 have hj : j < xs.length := (List.getElem?_eq_some_iff.mp h).1
 have e : ixN xs.length (j : Int) = some j := by
  unfold ixN
  rw [if_pos (by omega), if_pos (by omega)]; simp
 unfold atI; rw [e]; exact h
def Zdi (b : Expr) : Prop := ∀ o i, subscripted b false o i = operate [o, i] (getItem o i)
def IxR (X : Cx) (r : R2) : Prop :=
 ∀ (value slice : Expr) (pins : List (Addr × Obj)) (s : Shared) (σ : St) (H : Hp) (x y : V) (v u : Value) (Q : VK), Inv X pins σ H s -> RelV x v -> RelV y u -> r x y H Q →
  subscripted slice false v u = operate [v, u] (getItem v u) -> wpAny (model X.prog X.w) X.A (subscriptTail value slice v u) (EP X pins σ Q) X.xe s
def MtR (X : Cx) (id : String) (r : V -> List V -> Hp -> VK -> Prop) : Prop :=
 ∀ (pins : List (Addr × Obj)) (s : Shared) (σ : St) (H : Hp) (x : V) (xs : List V) (v : Value) (us : List Value) (Q : VK), Inv X pins σ H s -> RelV x v -> Vals xs us -> r x xs H Q →
  wpAny (model X.prog X.w) X.A (call (.builtin id) (v :: us)) (EP X pins σ Q) X.xe s
section
variable {X : Cx} {a b : Expr} {ta tb : TE} {pos : Pos}
theorem Z10 {r : R2} (hr : IxR X r) (ha : PE X a ta) (hb : PE X b tb) (hs : Zdi b) : PE X (.Subscript a b pos) (tOp r ta tb) := by
 intro pins s σ H Q I h
 exact Subscript_ (Zn9 ha hb I h fun v u s2 x y H2 I2 rx ry q => hr a b pins s2 σ H2 x y v u Q I2 rx ry q (hs _ _))
def Zom (K : PySem.W.Frag) : R2 := fun x y H Q => ∃ p xs i v, x = .ref p /\ y = .int i /\ SqL K H p xs /\ atI xs i = some v /\ Q v H
def Zon (K : PySem.W.Frag) : R2 := fun x y H Q => ∃ p xs i v, x = .ref p /\ y = .int i /\ SqT K H p xs /\ atI xs i = some v /\ Q v H
def rIxS : R2 := fun x y H Q => ∃ z i c, x = .str z /\ y = .int i /\ z.length <= sizeLine /\ atI z.cps.toList i = some c /\ Q (.str ⟨#[c]⟩) H
theorem Z1e : IxR X (Zom X.K) := by
 intro value slice pins s σ H x y v u Q I rx ry h hs
 obtain ⟨p, xs, i, z, rfl, rfl, hq, he, q⟩ := h
 cases rx
 obtain ⟨t, rfl⟩ := ry
 obtain ⟨its, r, pl, hz⟩ := I.list hq
 obtain ⟨j, h1, h2, h3, h4, h5⟩ := Z73 he
 obtain ⟨w, ew, rw'⟩ := r.get h2
 have hl := r.length
 have hn := Z5d
 have fin : EP X pins σ Q w s := ⟨z, H, I, rw', q⟩
 by_cases h0 : 0 <= i
 ·have hj : i.toNat = j := by
   rw [seqIndex_of h0 h5] at h1
   exact Option.some.inj h1
  exact item_listR pl.isList h0 (by omega) (by rw [hj]; simpa using ew) fin hs
 ·have hj : (i + (its.toArray.size : Int)).toNat = j := by
   rw [seqIndex_neg (by omega) h4] at h1
   rw [List.size_toArray, <- hl]
   exact Option.some.inj h1
  exact subscriptTail_builtinR (x := w) pl.isList.typeIs slot_list_getitem.lookup
   (wpAny_getItem_list_neg (Q := fun r s' => r = w /\ EP X pins σ Q r s') pl.isList (by omega) (by rw [List.size_toArray] <;> omega) (by omega) (by rw [hj]; simpa using ew) ⟨rfl, fin⟩) hs
theorem Z1c : IxR X (Zon X.K) := by
 intro value slice pins s σ H x y v u Q I rx ry h hs
 obtain ⟨p, xs, i, z, rfl, rfl, hq, he, q⟩ := h
 cases rx
 obtain ⟨t, rfl⟩ := ry
 obtain ⟨its, r, pl, hz⟩ := I.tuple hq
 obtain ⟨j, h1, h2, h3, h4, h5⟩ := Z73 he
 obtain ⟨w, ew, rw'⟩ := r.get h2
 have hl := r.length
 have hn := Z5d
 have fin : EP X pins σ Q w s := ⟨z, H, I, rw', q⟩
 exact subscriptTail_builtinR (x := w) pl.typeIs slot_tuple_getitem.lookup
  (getItem_tuple (j := j) (Q := fun r s' => r = w /\ EP X pins σ Q r s') pl (by omega) (by omega) (by rw [List.size_toArray, <- hl]; exact h1) (by simpa using ew) ⟨rfl, fin⟩) hs
theorem Zaf : IxR X rIxS := by
 intro value slice pins s σ H x y v u Q I rx ry h hs
 obtain ⟨z, i, c, rfl, rfl, hz, he, q⟩ := h
 obtain ⟨t, rfl⟩ := rx
 obtain ⟨t', rfl⟩ := ry
 obtain ⟨j, h1, h2, h3, h4, h5⟩ := Z73 he
 have hl : z.cps.toList.length = z.length := by simp [Str.length]
 rw [hl] at h1 h4 h5
 have hn := Z5d
 exact tail_any (typeIs_str s z t) slot_str_getitem.lookup (getItem_str (c := c) (by
  have e1 : decide (i < -(2 ^ 63 : Int)) = false := decide_eq_false (by omega)
  have e2 : decide (i ≥ 2 ^ 63) = false := decide_eq_false (by omega)
  rw [e1, e2, Bool.or_false]) (by rw [h1]; simpa using h2) ⟨.str ⟨#[c]⟩, H, I.tok _, ⟨_, rfl⟩, q⟩) hs
theorem Zc3 (its : List Value) (n j : Nat) (u : Value) : Obj.mapSeq (·.setIfInBounds j u) { cls := .type "list", data := .seq its.toArray n } = { cls := .type "list", data := .seq (its.set j u).toArray n } := by
 simp [Obj.mapSeq]
theorem Inv.lst {pins : List (Addr × Obj)} {σ : St} {H : Hp} {s : Shared} {p : Addr} {xs : List V} (I : Inv X pins σ H s) (h : H p = some (.lst xs)) :
  ∃ (its : List Value) (n : Nat), Vals xs its /\ s.heap.get? p = some { cls := .type "list", data := .seq its.toArray n } /\ xs.length <= sizeLine := by
 obtain ⟨z, its, n, r, e⟩ := I.hok p _ h
 exact ⟨its, n, r, e, z⟩
theorem Inv.lstUpd {pins : List (Addr × Obj)} {σ : St} {H : Hp} {s : Shared} {p : Addr} {xs ys : List V} {its its' : List Value} {n n' : Nat} {f : Obj -> Obj} (I : Inv X pins σ H s) (h : H p = some (.lst xs))
  (ho : s.heap.get? p = some { cls := .type "list", data := .seq its.toArray n }) (hf : f { cls := .type "list", data := .seq its.toArray n } = { cls := .type "list", data := .seq its'.toArray n' }) (r : Vals ys its') (hz : ys.length <= sizeLine) (t : Nat) :
  Inv X pins σ (upd H p (.lst ys)) { s with heap := s.heap.update p f, toks := t } := by
 have e : (s.heap.update p f).get? p = some { cls := .type "list", data := .seq its'.toArray n' } := by
  rw [Heap.get?_update_self f ho (by rw [hf] <;> rfl), hf]
 refine I.write (x := p) (e := p) (by rw [h]; trivial) (.inl rfl) (fun b u hb q => (Heap.get?_update_other _ _ (Ne.symm hb)).trans q) ⟨_, e⟩ ?_
 exact ⟨hz, its', n', r, e⟩
def rSetL : V -> V -> V -> Hp -> (Hp -> Prop) -> Prop := fun o i v H Q => ∃ p xs k j, o = .ref p /\ i = .int k /\ H p = some (.lst xs) /\ ixN xs.length k = some j /\ Q (upd H p (.lst (xs.set j v)))
theorem Zfx : Zoh X rSetL := by
 intro pins s σ H o i v ov iv u Q I ro ri rv h
 obtain ⟨p, xs, k, j, rfl, rfl, hp, hj, q⟩ := h
 cases ro
 obtain ⟨t, rfl⟩ := ri
 obtain ⟨its, n, r, ho, hz⟩ := I.lst hp
 obtain ⟨h1, h2, h3, h4⟩ := Zdh hj
 have hl := r.length
 have hn := Z5d
 have I' : Inv X pins σ (upd H p (.lst (xs.set j v))) { s with heap := s.heap.update p (Obj.mapSeq (·.setIfInBounds j u)) } :=
  I.lstUpd hp ho (Zc3 its n j u) (r.set rv j) (by rw [List.length_set]; exact hz) s.toks
 by_cases h0 : 0 <= k
 ·have hk : k.toNat = j := by
   rw [seqIndex_of h0 h4] at h1
   exact Option.some.inj h1
  exact PySem.W.ki_setAt ho h0 (by omega) (by rw [List.size_toArray, <- hl]; exact h4) (by rw [hk]; exact ⟨_, I', q⟩)
 ·have hk : (k + (its.toArray.size : Int)).toNat = j := by
   rw [seqIndex_neg (by omega) h3] at h1
   rw [List.size_toArray, <- hl]
   exact Option.some.inj h1
  exact PySem.W.ki_setBack ho (by omega) (by rw [List.size_toArray, <- hl]; exact h3) (by omega) (by rw [hk]; exact ⟨_, I', q⟩)
theorem Z8b (lo hi : Option Int) (n : Nat) : (sliceBounds lo hi none n).1 = ((HT.sIx n 0 lo : Nat) : Int) /\ (sliceBounds lo hi none n).2.1 = ((HT.sIx n n hi : Nat) : Int) /\ (sliceBounds lo hi none n).2.2 = 1 := by
 refine ⟨?_, ?_, rfl⟩
 ·cases lo with
  | none => simp [sliceBounds, HT.sIx]
  | some i =>
   simp only [sliceBounds, HT.sIx, Option.getD_none, show (1 : Int) > 0 by decide, if_true]
   by_cases h : i < 0
   ·simp only [h, if_true] <;> omega
   ·simp only [h, if_false] <;> omega
 ·cases hi with
  | none => simp [sliceBounds, HT.sIx]
  | some i =>
   simp only [sliceBounds, HT.sIx, Option.getD_none, show (1 : Int) > 0 by decide, if_true]
   by_cases h : i < 0
   ·simp only [h, if_true] <;> omega
   ·simp only [h, if_false] <;> omega
theorem Z74 (its : List Value) (lo hi : Option Int) : slicePick its.toArray lo hi none = ((its.drop (HT.sIx its.length 0 lo)).take (HT.sIx its.length its.length hi - HT.sIx its.length 0 lo)).toArray := by
 obtain ⟨h1, h2, h3⟩ := Z8b lo hi its.toArray.size
 unfold slicePick
 rw [h1, h2, h3]
 simp only [sliceRange_one, pick_run, List.size_toArray] <;> rfl
def Zpd (K : PySem.W.Frag) : V -> Option Int -> Option Int -> Hp -> VK -> Prop := fun x lo hi H Q => ∃ a xs, x = .ref a /\ SqL K H a xs /\ ∀ p, H p = none -> Q (.ref p) (upd H p (.lst (Z8a xs lo hi)))
theorem Zir : SlR X (Zpd X.K) := by
 intro pins s σ H x v vl vu lo hi sl Q I rx hs pl pu h
 obtain ⟨a, xs, rfl, hx, q⟩ := h
 cases rx
 obtain ⟨its, r, ht, hz⟩ := I.list hx
 have hlen := r.length
 refine ⟨"list", _, slot_list_getitem.lookup, ht.isList.typeIs, ?_⟩
 refine wpAny_getItem_list_slice ht.isList hs pl pu .none (by simp) ?_ (by rw [List.size_toArray] <;> omega)
 rw [Z74, <- hlen]
 refine ⟨.ref s.heap.objs.size, _, I.laid (t' := s.toks) (o := .lst (Z8a xs lo hi)) (fun b ob q => Heap.get?_push_of_some _ q) (Nat.le_refl _) ?_, rfl, q _ (I.hok.fresh (Nat.le_refl _))⟩
 exact ⟨Nat.le_trans (Z5e xs lo hi) hz, _, 0, (r.drop (HT.sIx xs.length 0 lo)).take (HT.sIx xs.length xs.length hi - HT.sIx xs.length 0 lo), Heap.get?_push_size _ rfl⟩
def Z2e : V -> Bool
 | .non => true
 | .bl _ => true
 | .int _ => true
 | .str _ => true
 | _ => false
def eqV : V -> V -> Bool
 | .non, .non => true
 | .bl a, .bl b => a == b
 | .bl a, .int b => (if a then 1 else 0) == b
 | .int a, .bl b => a == (if b then 1 else 0)
 | .int a, .int b => a == b
 | .str a, .str b => a == b
 | _, _ => false
theorem Z6l {A : Around} {s : Shared} {y x : V} {u v : Value} (ry : RelV y u) (rx : RelV x v) (fy : Z2e y = true) (fx : Z2e x = true) : SeqAt.EqAt A s u v (eqV y x) := by
 cases y with
 | non =>
  cases ry
  cases x with
  | non => cases rx; exact SeqAt.EqAt.same _
  | bl b => cases rx; exact SeqAt.EqAt.none_bool b
  | int b => obtain ⟨t, rfl⟩ := rx; exact SeqAt.EqAt.none_int b t
  | str b => obtain ⟨t, rfl⟩ := rx; exact SeqAt.EqAt.none_str b t
  | _ => exact absurd (show false = true from fx) Bool.false_ne_true
 | bl a =>
  cases ry
  cases x with
  | non => cases rx; exact SeqAt.EqAt.bool_none a
  | bl b => cases rx; exact SeqAt.EqAt.bool_bool a b
  | int b => obtain ⟨t, rfl⟩ := rx; exact SeqAt.EqAt.bool_int a b t
  | str b => obtain ⟨t, rfl⟩ := rx; exact SeqAt.EqAt.bool_str a b t
  | _ => exact absurd (show false = true from fx) Bool.false_ne_true
 | int a =>
  obtain ⟨t', rfl⟩ := ry
  cases x with
  | non => cases rx; exact SeqAt.EqAt.int_none a t'
  | bl b => cases rx; exact SeqAt.EqAt.int_bool a t' b
  | int b => obtain ⟨t, rfl⟩ := rx; exact SeqAt.EqAt.int_int a t' b t
  | str b => obtain ⟨t, rfl⟩ := rx; exact SeqAt.EqAt.int_str a t' b t
  | _ => exact absurd (show false = true from fx) Bool.false_ne_true
 | str a =>
  obtain ⟨t', rfl⟩ := ry
  cases x with
  | non => cases rx; exact SeqAt.EqAt.str_none a t'
  | bl b => cases rx; exact SeqAt.EqAt.str_bool a t' b
  | int b => obtain ⟨t, rfl⟩ := rx; exact SeqAt.EqAt.str_int a t' b t
  | str b => obtain ⟨t, rfl⟩ := rx; exact SeqAt.EqAt.str_str a t' b t
  | _ => exact absurd (show false = true from fx) Bool.false_ne_true
 | _ => exact absurd (show false = true from fy) Bool.false_ne_true
def eqU (x : V) (u : Value) : Bool := match u with
 | .none => eqV .non x
 | .bool b => eqV (.bl b) x
 | .int i _ => eqV (.int i) x
 | .str z _ => eqV (.str z) x
 | _ => false
theorem Zhq {x y : V} {u : Value} (r : RelV y u) (f : Z2e y = true) : eqU x u = eqV y x := by
 cases y with
 | non => cases r; rfl
 | bl b => cases r; rfl
 | int i => obtain ⟨t, rfl⟩ := r; rfl
 | str z => obtain ⟨t, rfl⟩ := r; rfl
 | _ => exact absurd (show false = true from f) Bool.false_ne_true
theorem Z5f {x : V} : ∀ {xs : List V} {us : List Value}, Vals xs us -> xs.all Z2e = true -> us.any (eqU x) = xs.any fun y => eqV y x
 | _, _, .nil, _ => rfl
 | y :: xs, u :: us, .cons r t, f => by
  rw [List.all_cons, Bool.and_eq_true] at f
  rw [List.any_cons, List.any_cons, Zhq r f.1, Z5f t f.2]
theorem Z3w {A : Around} {s : Shared} {x : V} {v : Value} (rx : RelV x v) (fx : Z2e x = true) : ∀ {xs : List V} {us : List Value}, Vals xs us -> xs.all Z2e = true -> ∀ u ∈ us, SeqAt.EqAt A s u v (eqU x u)
 | _, _, .nil, _ => fun u hu => by cases hu
 | y :: xs, u :: us, .cons r t, f => fun u' hu => by
  rw [List.all_cons, Bool.and_eq_true] at f
  rcases List.mem_cons.mp hu with rfl | hu
  ·rw [Zhq r f.1]; exact Z6l r rx f.1 fx
  ·exact Z3w rx fx t f.2 u' hu
def inV (x : V) (xs : List V) : Bool := xs.any fun y => eqV y x
def rIn (K : PySem.W.Frag) (neg : Bool) : R2 := fun x y H Q => ∃ p xs, y = .ref p /\ (SqL K H p xs ∨ SqT K H p xs) /\ Z2e x = true /\ xs.all Z2e = true /\ Q (.bl (if neg then !inV x xs else inV x xs)) H
theorem Z2f : OpR X (compareOp .In) (rIn X.K false) := by
 intro pins s σ H x y v u Q I rx ry h
 obtain ⟨p, xs, rfl, hq, fx, fs, q⟩ := h
 cases ry
 rcases hq with hq | hq
 ·obtain ⟨its, r, pl, hz⟩ := I.list hq
  refine SeqAt.in_listAt (eqU x) pl.isList (fun w hw => Z3w rx fx r fs w (by simpa using hw)) ⟨.bl _, H, I, rfl, ?_⟩
  rw [show its.toArray.any (eqU x) = its.any (eqU x) by simp, Z5f r fs]
  exact q
 ·obtain ⟨its, r, pl, hz⟩ := I.tuple hq
  refine SeqAt.in_tupleAt (eqU x) pl (fun w hw => Z3w rx fx r fs w (by simpa using hw)) ⟨.bl _, H, I, rfl, ?_⟩
  rw [show its.toArray.any (eqU x) = its.any (eqU x) by simp, Z5f r fs]
  exact q
theorem Z8c : OpR X (compareOp .NotIn) (rIn X.K true) := by
 intro pins s σ H x y v u Q I rx ry h
 obtain ⟨p, xs, rfl, hq, fx, fs, q⟩ := h
 cases ry
 rcases hq with hq | hq
 ·obtain ⟨its, r, pl, hz⟩ := I.list hq
  refine SeqAt.notIn_listAt (eqU x) pl.isList (fun w hw => Z3w rx fx r fs w (by simpa using hw)) ⟨.bl _, H, I, rfl, ?_⟩
  rw [show its.toArray.any (eqU x) = its.any (eqU x) by simp, Z5f r fs]
  exact q
 ·obtain ⟨its, r, pl, hz⟩ := I.tuple hq
  refine SeqAt.notIn_tupleAt (eqU x) pl (fun w hw => Z3w rx fx r fs w (by simpa using hw)) ⟨.bl _, H, I, rfl, ?_⟩
  rw [show its.toArray.any (eqU x) = its.any (eqU x) by simp, Z5f r fs]
  exact q
theorem Z0j : Z3k X (.builtin "len") (fun xs H Q => ∃ p ys, xs = [.ref p] /\ (SqL X.K H p ys ∨ SqT X.K H p ys) /\ Q (.int ys.length) H) := by
 intro pins s σ H xs us Q I r h
 obtain ⟨p, ys, rfl, hq, q⟩ := h
 obtain ⟨u, rfl, rx⟩ := Z84 r
 cases rx
 have hn := Z5d
 rcases hq with hq | hq
 ·obtain ⟨its, r', pl, hz⟩ := I.list hq
  have hlen := r'.length
  exact Calls.call_len_list pl.isList (by simp only [List.size_toArray] <;> omega) ⟨.int ys.length, H, I.tok _, ⟨s.toks + 1, by rw [List.size_toArray, hlen]⟩, q⟩
 ·obtain ⟨its, r', pl, hz⟩ := I.tuple hq
  have hlen := r'.length
  exact len_tuple pl (by simp only [List.size_toArray] <;> omega) ⟨.int ys.length, H, I.tok _, ⟨s.toks + 1, by rw [List.size_toArray, hlen]⟩, q⟩
theorem Z4x : Z3k X (.builtin "len") (fun xs H Q => ∃ z, xs = [.str z] /\ z.length <= sizeLine /\ Q (.int z.length) H) := by
 intro pins s σ H xs us Q I r h
 obtain ⟨z, rfl, hz, q⟩ := h
 obtain ⟨u, rfl, t, rfl⟩ := Z84 r
 have hn := Z5d
 exact len_str (by omega) ⟨.int z.length, H, I.tok _, ⟨_, rfl⟩, q⟩
theorem Z2t : Z3k X (.type "list") (fun xs H Q => ∃ p ys, xs = [.ref p] /\ (SqL X.K H p ys ∨ SqT X.K H p ys) /\ ∀ l, H l = none -> Q (.ref l) (upd H l (.lst ys))) := by
 intro pins s σ H xs us Q I r h
 obtain ⟨p, ys, rfl, hq, q⟩ := h
 obtain ⟨u, rfl, rx⟩ := Z84 r
 cases rx
 have fin : ∀ (its : List Value), Vals ys its -> ys.length <= sizeLine -> ∀ (h' : Heap) (c' : Nat), (∀ b o', s.heap.get? b = some o' -> h'.get? b = some o') →
   h'.get? s.heap.objs.size = some { cls := .type "list", dict := none, data := .seq its.toArray c', slots := #[] } -> EP X pins σ Q (.ref s.heap.objs.size) { s with heap := h' } := fun its r' hz h' c' kp e =>
  ⟨.ref s.heap.objs.size, _, I.laid (t' := s.toks) kp (Nat.le_refl _) (show ObjOk X.prog X.w _ h' _ (.lst ys) from ⟨hz, its, c', r', e⟩), rfl, q _ (I.hok.fresh (Nat.le_refl _))⟩
 rcases hq with hq | hq
 ·obtain ⟨its, r', pl, hz⟩ := I.list hq
  have hlen := r'.length
  obtain ⟨o, ho, hc, n, hd⟩ := pl.isList
  exact call_list_seq p (.inl rfl) ho hc hd (fun h' c' kp e => fin its r' hz h' c' kp e) (by simp only [List.size_toArray] <;> omega)
 ·obtain ⟨its, r', pl, hz⟩ := I.tuple hq
  have hlen := r'.length
  obtain ⟨o, ho, hc, n, hd⟩ := pl
  exact call_list_seq p (.inr rfl) ho hc hd (fun h' c' kp e => fin its r' hz h' c' kp e) (by simp only [List.size_toArray] <;> omega)
theorem Z1n : Z3k X (.type "tuple") (fun xs H Q => ∃ p ys, xs = [.ref p] /\ ((SqL X.K H p ys /\ ∀ l, H l = none -> Q (.ref l) (upd H l (.tup ys))) ∨ (SqT X.K H p ys /\ Q (.ref p) H))) := by
 intro pins s σ H xs us Q I r h
 obtain ⟨p, ys, rfl, h⟩ := h
 obtain ⟨u, rfl, rx⟩ := Z84 r
 cases rx
 rcases h with ⟨hq, q⟩ | ⟨hq, q⟩
 ·obtain ⟨its, r', pl, hz⟩ := I.list hq
  have hlen := r'.length
  refine call_tuple_list pl.isList (fun h' kp => ?_) (by simp only [List.size_toArray] <;> omega)
  have I1 : Inv X pins σ H { s with heap := h' } := I.kept (t' := s.toks) kp
  have I2 : Inv X pins σ (upd H h'.objs.size (.tup ys)) { s with heap := h'.push { cls := .type "tuple", data := .seq its.toArray } } :=
   I1.laid (t' := s.toks) (fun b o e => Heap.get?_push_of_some _ e) (Nat.le_refl _) (show ObjOk X.prog X.w _ _ _ (.tup ys) from ⟨hz, its, r', IsTup.new _ _⟩)
  exact ⟨.ref h'.objs.size, _, I2, rfl, q _ (I1.hok.fresh (Nat.le_refl _))⟩
 ·obtain ⟨its, r', pl, hz⟩ := I.tuple hq
  exact call_tuple_same pl ⟨.ref p, H, I, rfl, q⟩
def tyV (K : PySem.W.Frag) (T : String) (x : V) (H : Hp) : Prop := match x with
 | .str _ => T = "str"
 | .int _ => T = "int"
 | .ref p => (T = "list" /\ ∃ xs, SqL K H p xs) ∨ (T = "tuple" /\ ∃ o, K.lookup p = some o /\ o.cls = .type "tuple" /\ o.dict = none) ∨
   (T = "dict" /\ ((∃ kvs, H p = some (.dK kvs)) ∨ ∃ kvs, H p = some (.dT kvs))) ∨ (T = "set" /\ ∃ S n, H p = some (.set S n))
 | _ => False
theorem Zhr {pins : List (Addr × Obj)} {σ : St} {H : Hp} {s : Shared} {T : String} {x : V} {v : Value} (I : Inv X pins σ H s) (r : RelV x v) (ty : tyV X.K T x H) :
  s.TypeIs v T /\ ∀ a, v = .ref a -> ∃ ob, s.heap.get? a = some ob /\ ob.dict = none := by
 cases x with
 | str z =>
  obtain ⟨t, rfl⟩ := r
  cases (show T = "str" from ty)
  exact ⟨typeIs_str s z t, fun _ e => nomatch e⟩
 | int i =>
  obtain ⟨t, rfl⟩ := r
  cases (show T = "int" from ty)
  exact ⟨typeIs_int s i t, fun _ e => nomatch e⟩
 | ref p =>
  cases r
  rcases ty with ⟨rfl, xs, hq⟩ | ⟨rfl, o, hk, hc, hd⟩ | ⟨rfl, hk⟩ | ⟨rfl, S, n, hk⟩
  ·obtain ⟨its, _, pl, _⟩ := I.list hq
   refine ⟨pl.isList.typeIs, fun a e => ?_⟩
   cases e
   obtain ⟨o, n, e, c, hd, _⟩ := pl
   exact ⟨o, e, hd⟩
  ·refine ⟨⟨o, I.kIn p o hk, hc⟩, fun a e => ?_⟩
   cases e
   exact ⟨o, I.kIn _ o hk, hd⟩
  ·have z : ∃ o, s.heap.get? p = some o /\ o.ExactDict := by
    rcases hk with ⟨kvs, hk⟩ | ⟨kvs, hk⟩
    ·obtain ⟨_, _, _, _, o, _, _, e, ex, _⟩ := I.hok p _ hk
     exact ⟨o, e, ex⟩
    ·obtain ⟨_, _, _, _, o, _, _, e, ex, _⟩ := I.hok p _ hk
     exact ⟨o, e, ex⟩
   obtain ⟨o, e, ex⟩ := z
   refine ⟨⟨o, e, ex.1⟩, fun a e2 => ?_⟩
   cases e2
   exact ⟨o, e, ex.2.1⟩
  ·obtain ⟨o, _, _, _, e, ex, _⟩ := I.hok p _ hk
   refine ⟨⟨o, e, ex.1⟩, fun a e2 => ?_⟩
   cases e2
   exact ⟨o, e, ex.2.1⟩
 | _ => exact False.elim ty
def Zpe (K : PySem.W.Frag) (T : String) (r : V -> List V -> Hp -> VK -> Prop) (to : TE) : TE := fun σ H Q => to σ H fun x H1 => tyV K T x H1 /\ r x [] H1 Q
def tBM (K : PySem.W.Frag) (T : String) (r : V -> List V -> Hp -> VK -> Prop) (to : TE) (t : TA) : TE := fun σ H Q => to σ H fun x H1 => tyV K T x H1 /\ t σ H1 fun xs H2 => r x xs H2 Q
variable {o e : Expr} {es : List Expr} {to : TE} {t : TA} {name : Str} {apos cpos : Pos} {T id : String} {r : V -> List V -> Hp -> VK -> Prop}
theorem Zhs (pa : PlainAttrs T) (slot : Slot T name id) (hty : typeOf (.builtin id) = pure (.type "method_descriptor")) (hm : MtR X id r) (ho : PE X o to)
  (hbase : attributeBase o name X.env (eval o X.env) = eval o X.env := by rfl) (hline : (apos.endLine == cpos.line) = true := by rfl) : PE X (.Call (.Attribute o name apos) [] [] cpos) (Zpe X.K T r to) := by
 intro pins s σ H Q I h
 refine wpAny_Call_method0_late hbase hline (thn (ho pins s σ H _ I h) fun v s1 ⟨x, H1, I1, r1, ty, q1⟩ => ?_)
 obtain ⟨h1, h2⟩ := Zhr I1 r1 ty
 exact ⟨T, id, pa, slot, hty, h1, h2, Calls.callWith_builtin rfl (PySem.evalArgs_none (hm pins s1 σ H1 x [] v [] Q I1 r1 .nil q1))⟩
theorem Z8d (pa : PlainAttrs T) (slot : Slot T name id) (hty : typeOf (.builtin id) = pure (.type "method_descriptor")) (hm : MtR X id r) (ho : PE X o to) (ha : PA X (e :: es) t)
  (hbase : attributeBase o name X.env (eval o X.env) = eval o X.env := by rfl)
  (hfew : ((backTo cpos (starEach (e :: es) X.env)).all (fun x => !x.1) && (backToKw cpos (keywordEach [] X.env)).all (fun x => x.1.isSome)
   && decide ((e :: es).length + ([] : List Keyword).length + (if ([] : List Keyword).isEmpty then 0 else 1) < 30)) = true := by rfl)
  (hline : (apos.endLine == cpos.line) = true := by rfl) (hs : starEach (e :: es) X.env = (false, eval e X.env) :: starEach es X.env := by rfl) (hplain : (backTo cpos (starEach es X.env)).any (·.1) = false := by rfl) :
  PE X (.Call (.Attribute o name apos) (e :: es) [] cpos) (tBM X.K T r to t) := by
 intro pins s σ H Q I h
 refine wpAny_Call_method_late hbase hfew hline rfl (thn (ho pins s σ H _ I h) fun v s1 ⟨x, H1, I1, r1, ty, q1⟩ => ?_)
 obtain ⟨h1, h2⟩ := Zhr I1 r1 ty
 refine ⟨T, id, pa, slot, hty, h1, h2, ?_⟩
 have hA := ha cpos pins s1 σ H1 _ I1 q1
 rw [hs] at hA ⊢
 refine Calls.callWith_builtin (by show (false || (backTo cpos (starEach es X.env)).any (·.1)) = false; rw [hplain] <;> rfl) (Calls.evalArgs_plain ?_)
 exact thn hA fun us s2 ⟨vs, H2, I2, r2, q2⟩ => hm pins s2 σ H2 x vs v us Q I2 r1 r2 q2
end
def MtM (X : Cx) (id : String) (r : V -> List V -> Hp -> VK -> Prop) : Prop :=
 ∀ (pins : List (Addr × Obj)) (s : Shared) (σ : St) (H : Hp) (x : V) (xs : List V) (v : Value) (us : List Value) (Q : VK), Inv X pins σ H s -> RelV x v -> Vals xs us -> r x xs H Q →
  wpAny (model X.prog X.w) X.A (call (.builtin id) (v :: us)) (EP X pins σ Q) X.xe s
theorem Vals.one : ∀ {x : V} {us : List Value}, Vals [x] us -> ∃ u, us = [u] /\ RelV x u
 | _, _, .cons r .nil => ⟨_, rfl, r⟩
theorem Vals.zero : ∀ {us : List Value}, Vals [] us -> us = []
 | _, .nil => rfl
theorem Vals.dropLast {xs : List V} {us : List Value} (h : Vals xs us) : Vals xs.dropLast us.dropLast := by
 induction h with
 | nil => exact .nil
 | cons r t ih =>
  cases t with
  | nil => exact .nil
  | cons q t' => exact .cons r ih
theorem Vals.reverse {xs : List V} {us : List Value} (h : Vals xs us) : Vals xs.reverse us.reverse := by
 induction h with
 | nil => exact .nil
 | cons r t ih => rw [List.reverse_cons, List.reverse_cons]; exact Vals.append ih (.cons r .nil)
theorem Vals.rep {xs : List V} {us : List Value} (h : Vals xs us) : ∀ k : Nat, Vals (List.replicate k xs).flatten (List.replicate k us).flatten
 | 0 => .nil
 | k + 1 => by
  rw [List.replicate_succ, List.replicate_succ, List.flatten_cons, List.flatten_cons]
  exact Vals.append h (Vals.rep h k)
theorem Zc4 {α : Type} (l : List α) : l.eraseIdx (l.length - 1) = l.dropLast := by
 induction l with
 | nil => rfl
 | cons a r ih =>
  cases r with
  | nil => rfl
  | cons b r =>
   have e : (a :: b :: r).length - 1 = ((b :: r).length - 1) + 1 := by
    have h1 : (a :: b :: r).length = r.length + 2 := rfl
    have h2 : (b :: r).length = r.length + 1 := rfl
    omega
   rw [e, List.eraseIdx_cons_succ, ih]
   all_goals rfl
theorem Z8e (its : List Value) : ∀ (k : Nat) (acc : List Value),
  List.foldl (fun x1 x2 => x1 ++ x2) acc.toArray (List.replicate k its.toArray) = (acc ++ (List.replicate k its).flatten).toArray
 | 0, acc => by simp
 | k + 1, acc => by
  have e : acc.toArray ++ its.toArray = (acc ++ its).toArray := by simp
  have e2 : (acc ++ its) ++ (List.replicate k its).flatten = acc ++ (List.replicate (k + 1) its).flatten := by
   rw [List.replicate_succ, List.flatten_cons, List.append_assoc]
  rw [<- e2, <- Z8e its k (acc ++ its), <- e, List.replicate_succ, List.foldl_cons]
section
variable {X : Cx} {pins : List (Addr × Obj)} {σ : St} {H : Hp} {s : Shared} {l b : Addr} {xs ys zs : List V}
theorem Inv.lset {its its' : List Value} {n : Nat} {f : Array Value -> Array Value} {t' : Nat} (I : Inv X pins σ H s) (hH : H l = some (.lst xs))
  (e : s.heap.get? l = some { cls := .type "list", data := .seq its.toArray n }) (hf : f its.toArray = its'.toArray) (hv : Vals ys its') (hz : ys.length <= sizeLine) :
  Inv X pins σ (upd H l (.lst ys)) { s with heap := s.heap.update l (Obj.mapSeq f), toks := t' } := by
 have q := PySem.IsL.update e f
 rw [hf] at q
 refine I.write (x := l) (e := l) (by rw [hH]; exact trivial) (.inl rfl) (fun b' u hb hu => (Heap.get?_update_other s.heap (Obj.mapSeq f) (Ne.symm hb)).trans hu) ⟨_, q⟩ ?_
 exact ⟨hz, its', _, hv, q⟩
theorem Inv.lnew {its : List Value} {t' : Nat} (I : Inv X pins σ H s) (hv : Vals ys its) (hz : ys.length <= sizeLine) :
  Inv X pins σ (upd H s.heap.objs.size (.lst ys)) { s with heap := s.heap.push { cls := .type "list", data := .seq its.toArray }, toks := t' } :=
 I.laid (fun _ _ q => Heap.get?_push_of_some _ q) (Nat.le_refl _) ⟨hz, its, 0, hv, Heap.get?_push_size _ rfl⟩
theorem Inv.fresh (I : Inv X pins σ H s) : H s.heap.objs.size = none := I.hok.fresh (Nat.le_refl _)
theorem Inv.lstM (I : Inv X pins σ H s) (hH : H l = some (.lst xs)) : xs.length <= sizeLine /\ ∃ (its : List Value) (n : Nat), Vals xs its /\ xs.length = its.length /\ s.heap.get? l = some { cls := .type "list", data := .seq its.toArray n } := by
 obtain ⟨z, its, n, r, e⟩ := I.hok l _ hH
 exact ⟨z, its, n, r, r.length, e⟩
theorem Zag {n : Nat} (h : n <= sizeLine) : Builtin.List.listTooLong n = false := by
 unfold Builtin.List.listTooLong
 exact decide_eq_false (by omega)
end
section
variable {X : Cx}
def rAppend : V -> List V -> Hp -> VK -> Prop := fun x vs H Q => ∃ l xs y, x = .ref l /\ vs = [y] /\ H l = some (.lst xs) /\ xs.length < sizeLine /\ Q .non (upd H l (.lst (xs ++ [y])))
theorem Z3x : MtM X "list.append" rAppend := by
 intro pins s σ H x vs v us Q I rx rv h
 obtain ⟨l, xs, y, rfl, rfl, hH, hz, q⟩ := h
 cases rx
 obtain ⟨u, rfl, ru⟩ := rv.one
 obtain ⟨z, its, n, r, hl, e⟩ := I.lstM hH
 refine call_meets F.slot_list_append ⟨_, e, rfl⟩ F.entry_list_append (F.args_list_append_2 _ _) (PySem.list_append l its.toArray n u (by rw [List.size_toArray]; omega)) ⟨e, ?_⟩
 refine ⟨.non, _, I.lset (its' := its ++ [u]) hH e (by simp) (r.append (.cons ru .nil)) ?_, rfl, q⟩
 rw [List.length_append, List.length_singleton]
 omega
def rExtend : V -> List V -> Hp -> VK -> Prop := fun x vs H Q => ∃ l b xs zs, x = .ref l /\ vs = [.ref b] /\ H l = some (.lst xs) /\ H b = some (.lst zs) /\ xs.length + zs.length <= sizeLine /\ Q .non (upd H l (.lst (xs ++ zs)))
theorem Z8f : MtM X "list.extend" rExtend := by
 intro pins s σ H x vs v us Q I rx rv h
 obtain ⟨l, b, xs, zs, rfl, rfl, hH, hB, hz, q⟩ := h
 cases rx
 obtain ⟨u, rfl, ru⟩ := rv.one
 cases ru
 obtain ⟨z, its, n, r, hl, e⟩ := I.lstM hH
 obtain ⟨z2, its2, n2, r2, hl2, e2⟩ := I.lstM hB
 have hsz : its.toArray.size + its2.toArray.size <= sizeLine := by rw [List.size_toArray, List.size_toArray]; omega
 have hlong : ¬ (!its.toArray.isEmpty && Builtin.List.listTooLong (its.toArray.size + its2.toArray.size)) = true := by
  rw [Zag hsz, Bool.and_false]
  exact Bool.false_ne_true
 refine call_meets F.slot_list_extend ⟨_, e, rfl⟩ F.entry_list_extend (F.args_list_extend_2 _ _)
  (AutoSeq1.list_extend_list_list_0 l its.toArray n b its2.toArray n2 hlong (by rw [List.size_toArray]; omega) (by omega)) ⟨e, e2, ?_⟩
 refine ⟨.non, _, I.lset (its' := its ++ its2) hH e (by simp) (r.append r2) ?_, rfl, q⟩
 rw [List.length_append]
 omega
def rPop : V -> List V -> Hp -> VK -> Prop := fun x vs H Q => ∃ l xs y, x = .ref l /\ vs = [] /\ H l = some (.lst xs) /\ xs[xs.length - 1]? = some y /\ Q y (upd H l (.lst xs.dropLast))
theorem Zht : MtM X "list.pop" rPop := by
 intro pins s σ H x vs v us Q I rx rv h
 obtain ⟨l, xs, y, rfl, rfl, hH, hy, q⟩ := h
 cases rx
 have hus := rv.zero
 subst hus
 obtain ⟨z, its, n, r, hl, e⟩ := I.lstM hH
 obtain ⟨u, hu, ru⟩ := r.get hy
 have hy' : its.toArray[its.toArray.size - 1]? = some u := by
  show its.toArray[its.length - 1]? = some u
  rw [<- Array.getElem?_toList, <- hl]
  exact hu
 refine call_meets F.slot_list_pop ⟨_, e, rfl⟩ F.entry_list_pop (F.args_list_pop_1 _) (MeetsSeq.list_pop_last l its.toArray n u hy' (by rw [List.size_toArray]; omega)) ⟨e, ?_⟩
 refine ⟨y, _, I.lset (its' := its.dropLast) hH e ?_ r.dropLast ?_, ru, q⟩
 ·show its.toArray.eraseIdxIfInBounds (its.toArray.size - 1) = its.dropLast.toArray
  rw [List.size_toArray, List.eraseIdxIfInBounds_toArray, Zc4]
 ·rw [List.length_dropLast]
  omega
def rCat : R2 := fun x y H Q => ∃ l b xs zs, x = .ref l /\ y = .ref b /\ H l = some (.lst xs) /\ H b = some (.lst zs) /\ xs.length + zs.length <= sizeLine /\ ∀ p, H p = none -> Q (.ref p) (upd H p (.lst (xs ++ zs)))
theorem Zah : OpR X (binaryOp .Add) rCat := by
 intro pins s σ H x y v u Q I rx ry h
 obtain ⟨l, b, xs, zs, rfl, rfl, hH, hB, hz, q⟩ := h
 cases rx
 cases ry
 obtain ⟨z, its, n, r, hl, e⟩ := I.lstM hH
 obtain ⟨z2, its2, n2, r2, hl2, e2⟩ := I.lstM hB
 refine PySem.P.add_list e e2 ?_ (by rw [List.size_toArray, List.size_toArray]; omega)
 have ea : its.toArray ++ its2.toArray = (its ++ its2).toArray := by simp
 rw [ea]
 exact ⟨.ref _, _, I.lnew (t' := s.toks) (r.append r2) (by rw [List.length_append]; omega), rfl, q _ I.fresh⟩
theorem Z9i {α : Type} (xs : List α) (k : Nat) : (List.replicate k xs).flatten.length = k * xs.length := by
 induction k with
 | zero => simp
 | succ k ih => rw [List.replicate_succ, List.flatten_cons, List.length_append, ih, Nat.succ_mul, Nat.add_comm]
end
section
variable {prog : Program} {w : World} {A : Around} {E : Value -> Shared -> Prop} {s : Shared}
end
section
variable {X : Cx}
end
section
variable {κ : Type} [DecidableEq κ]
def Z6a (kvs : List (κ × V)) (k : κ) : Option V := (kvs.find? fun kv => decide (kv.1 = k)).map (·.2)
def Z7z (kvs : List (κ × V)) (k : κ) (v : V) : List (κ × V) :=
 if (kvs.any fun kv => decide (kv.1 = k)) = true then kvs.map (fun kv => if kv.1 = k then (kv.1, v) else kv) else kvs ++ [(k, v)]
theorem Z75 {p : κ × V} {r : List (κ × V)} {k : κ} (e : p.1 = k) : Z6a (p :: r) k = some p.2 := by simp [Z6a, List.find?_cons, e]
theorem Z57 {p : κ × V} {r : List (κ × V)} {k : κ} (e : ¬ p.1 = k) : Z6a (p :: r) k = Z6a r k := by simp [Z6a, List.find?_cons, e]
theorem Zai (k : κ) : ∀ kvs : List (κ × V), (kvs.any fun kv => decide (kv.1 = k)) = (Z6a kvs k).isSome
 | [] => rfl
 | p :: r => by
  rw [List.any_cons]
  by_cases e : p.1 = k
  ·simp only [Z75 e, decide_eq_true e, Bool.true_or, Option.isSome_some]
  ·rw [Z57 e, decide_eq_false e, Bool.false_or]; exact Zai k r
theorem Z3n (kvs : List (κ × V)) (k : κ) (v : V) : (Z7z kvs k v).length <= kvs.length + 1 := by
 unfold Z7z
 split
 ·rw [List.length_map]; omega
 ·rw [List.length_append, List.length_cons, List.length_nil]; omega
theorem RelO.isSome_eq {o : Option V} {u : Option Value} (r : RelO o u) : o.isSome = u.isSome := by
 cases o with
 | none => cases u with
  | none => rfl
  | some _ => exact (show False from r).elim
 | some _ => cases u with
  | none => exact (show False from r).elim
  | some _ => rfl
theorem RelO.getD {o : Option V} {u : Option Value} {d : V} {d' : Value} (r : RelO o u) (rd : RelV d d') : RelV (o.getD d) (u.getD d') := by
 cases o with
 | none => cases u with
  | none => exact rd
  | some _ => exact (show False from r).elim
 | some _ => cases u with
  | none => exact (show False from r).elim
  | some _ => exact r
theorem KV.val {kvs : List (κ × V)} {vs : List (κ × Value)} (r : KV kvs vs) (k : κ) : RelO (Z6a kvs k) (valueAt vs k) := by
 unfold KV at r
 induction r with
 | nil => exact True.intro
 | @cons p q ps qs h t ih =>
  obtain ⟨h1, h2⟩ := h
  by_cases e : p.1 = k
  ·have e' : q.1 = k := h1.symm.trans e
   have b : valueAt (q :: qs) k = some q.2 := by simp [valueAt, List.find?_cons, e']
   rw [Z75 e, b]; exact h2
  ·have e' : ¬ q.1 = k := fun z => e (h1.trans z)
   have b : valueAt (q :: qs) k = valueAt qs k := by simp [valueAt, List.find?_cons, e']
   rw [Z57 e, b]; exact ih
theorem KV.any {kvs : List (κ × V)} {vs : List (κ × Value)} (r : KV kvs vs) (k : κ) : (kvs.any fun kv => decide (kv.1 = k)) = vs.any fun kv => decide (kv.1 = k) := by
 unfold KV at r
 induction r with
 | nil => rfl
 | cons h t ih => rw [List.any_cons, List.any_cons, ih, h.1]
theorem KV.repl {kvs : List (κ × V)} {vs : List (κ × Value)} (r : KV kvs vs) (k : κ) {y : V} {u : Value} (ry : RelV y u) :
  KV (kvs.map fun kv => if kv.1 = k then (kv.1, y) else kv) (vs.map fun kv => if kv.1 = k then (kv.1, u) else kv) := by
 unfold KV at r ⊢
 induction r with
 | nil => exact .nil
 | @cons p q ps qs h t ih =>
  rw [List.map_cons, List.map_cons]
  refine .cons ?_ ih
  obtain ⟨h1, h2⟩ := h
  by_cases e : p.1 = k
  ·rw [if_pos e, if_pos (h1.symm.trans e)]; exact ⟨h1, ry⟩
  ·rw [if_neg e, if_neg (fun z => e (h1.trans z))]; exact ⟨h1, h2⟩
theorem KV.put {kvs : List (κ × V)} {vs : List (κ × Value)} (r : KV kvs vs) (k : κ) {y : V} {u : Value} (ry : RelV y u) : KV (Z7z kvs k y) (stored vs k u) := by
 unfold Z7z stored
 rw [r.any k]
 by_cases e : (vs.any fun kv => decide (kv.1 = k)) = true
 ·rw [if_pos e, if_pos e]; exact r.repl k ry
 ·rw [if_neg e, if_neg e]; exact Paired.snoc r ⟨rfl, ry⟩
theorem KV.length {kvs : List (κ × V)} {vs : List (κ × Value)} (r : KV kvs vs) : kvs.length = vs.length := Paired.length r
end
theorem Zc5 {P : Program} {w : World} {k : Key} {u : Value} (r : RelV (kV k) u) : (Z0z P w).is k u = true := by
 cases k with
 | inl i => obtain ⟨t, e⟩ := (show ∃ t, u = Value.int i t from r); subst e; exact Z9h P w i t
 | inr x => obtain ⟨t, e⟩ := (show ∃ t, u = Value.str x t from r); subst e; exact Z3h P w x t
theorem Z8g {P : Program} {w : World} : ∀ {ks : List Key} {us : List Value}, Vals (ks.map kV) us -> ItemsAre (Z0z P w) ks us
 | [], _, r => by rw [List.map_nil] at r; cases r; exact .nil
 | k :: ks, _, r => by
  rw [List.map_cons] at r
  cases r with
  | cons h t => exact .cons (Zc5 h) (Z8g t)
abbrev KT (H : Hp) : List (List Key × V) -> List (List Key × Addr × Value) -> Prop := Paired fun p q => p.1 = q.1 /\ H q.2.1 = some (.tup (p.1.map kV)) /\ RelV p.2 q.2.2
theorem KT.val {H : Hp} {kvs : List (List Key × V)} {xs : List (List Key × Addr × Value)} (r : KT H kvs xs) (k : List Key) : RelO (Z6a kvs k) ((atKey xs k).map (·.2)) := by
 induction r with
 | nil => exact True.intro
 | @cons p q ps qs h t ih =>
  obtain ⟨h1, _, h2⟩ := h
  by_cases e : p.1 = k
  ·have e' : q.1 = k := h1.symm.trans e
   have b : atKey (q :: qs) k = some q.2 := by simp [atKey, List.find?_cons, e']
   rw [Z75 e, b]; exact h2
  ·have e' : ¬ q.1 = k := fun z => e (h1.trans z)
   have b : atKey (q :: qs) k = atKey qs k := by simp [atKey, List.find?_cons, e']
   rw [Z57 e, b]; exact ih
theorem KT.repl {H : Hp} {kvs : List (List Key × V)} {xs : List (List Key × Addr × Value)} (r : KT H kvs xs) (k : List Key) {y : V} {u : Value} (ry : RelV y u) :
  KT H (kvs.map fun kv => if kv.1 = k then (kv.1, y) else kv) (xs.map (putAt k u)) := by
 induction r with
 | nil => exact .nil
 | @cons p q ps qs h t ih =>
  rw [List.map_cons, List.map_cons]
  refine .cons ?_ ih
  obtain ⟨h1, h2, h3⟩ := h
  unfold putAt
  by_cases e : p.1 = k
  ·rw [if_pos e, if_pos (h1.symm.trans e)]; exact ⟨h1, h2, ry⟩
  ·rw [if_neg e, if_neg (fun z => e (h1.trans z))]; exact ⟨h1, h2, h3⟩
theorem KT.put {H : Hp} {kvs : List (List Key × V)} {xs : List (List Key × Addr × Value)} (r : KT H kvs xs) (k : List Key) {b : Addr} {y : V} {u : Value} (hb : H b = some (.tup (k.map kV))) (ry : RelV y u) :
  KT H (Z7z kvs k y) (storedH xs k b u) := by
 have e : (kvs.any fun kv => decide (kv.1 = k)) = (atKey xs k).isSome := by
  rw [Zai, (r.val k).isSome_eq, Option.isSome_map]
 unfold Z7z storedH
 rw [e]
 by_cases q : (atKey xs k).isSome = true
 ·rw [if_pos q, if_pos q]; exact r.repl k ry
 ·rw [if_neg q, if_neg q]; exact Paired.snoc r ⟨rfl, hb, ry⟩
theorem KT.keeps {H H' : Hp} {kvs : List (List Key × V)} {xs : List (List Key × Addr × Value)} (r : KT H kvs xs) (ht : ∀ b ys, H b = some (.tup ys) -> H' b = some (.tup ys)) : KT H' kvs xs :=
 Paired.mapP r fun _ _ z => ⟨z.1, ht _ _ z.2.1, z.2.2⟩
section
variable {P : Program} {w : World} {H : Hp} {h : Heap} {a : Addr}
theorem Zle {u : HO} (ok : HOk P w H h) (e : Rd H a u) : ObjOk P w H h a u := e.ok ok
theorem Zis {kvs : List (Key × V)} (ok : HOk P w H h) (e : Rd H a (.dK kvs)) : kvs.length <= sizeLine /\ (a == sysModules) = false /\ ∃ vs, KV kvs vs /\ h.DictOf (Z0z P w) a vs :=
 show ObjOk P w H h a (.dK kvs) from Zle ok e
theorem Zlf {kvs : List (Key × V)} (ok : HOk P w H h) (e : H a = some (.dK kvs)) : kvs.length <= sizeLine /\ (a == sysModules) = false /\ ∃ vs, KV kvs vs /\ h.DictOf (Z0z P w) a vs := Zis ok (.inl e)
theorem Zdj {ks : List Key} (ok : HOk P w H h) (e : H a = some (.tup (ks.map kV))) : (tupleKind (Z0z P w)).is h ks a := by
 obtain ⟨_, its, r, o, h1, h2, n, h3⟩ := (show ObjOk P w H h a (.tup (ks.map kV)) from ok a _ e)
 exact ⟨o, its.toArray, n, h1, h2, h3, by simpa using Z8g r⟩
theorem Zit {kvs : List (List Key × V)} (ok : HOk P w H h) (e : Rd H a (.dT kvs)) : kvs.length <= sizeLine /\ (a == sysModules) = false ∧
  ∃ xs, KT H kvs xs /\ h.DictOfH (tupleKind (Z0z P w)) a xs := by
 obtain ⟨z, y, xs, r, o, es, ep, h1, h2, h3, h4, h5⟩ := (show ObjOk P w H h a (.dT kvs) from Zle ok e)
 refine ⟨z, y, xs, r, o, es, ep, h1, h2, h3, h4, fun x hx => ?_, h5⟩
 have all : ∀ {l : List (List Key × V)} {m : List (List Key × Addr × Value)}, KT H l m -> ∀ x ∈ m, (tupleKind (Z0z P w)).is h x.1 x.2.1 := by
  intro l m q
  induction q with
  | nil => intro x hx; exact nomatch hx
  | @cons p q ps qs hq t ih =>
   intro x hx
   rcases List.mem_cons.mp hx with e | hx
   ·subst e
    exact Zdj ok (by rw [<- hq.1]; exact hq.2.1)
   ·exact ih x hx
 exact all r x hx
theorem Zng {kvs : List (List Key × V)} (ok : HOk P w H h) (e : H a = some (.dT kvs)) : kvs.length <= sizeLine /\ (a == sysModules) = false ∧
  ∃ xs, KT H kvs xs /\ h.DictOfH (tupleKind (Z0z P w)) a xs := Zit ok (.inl e)
end
def DGet (H : Hp) (a : Addr) (y : V) (r : Option V) : Prop :=
 (∃ kvs k, Rd H a (.dK kvs) /\ y = kV k /\ r = Z6a kvs k) ∨ ∃ kvs k b, Rd H a (.dT kvs) /\ y = .ref b /\ H b = some (.tup (k.map kV)) /\ r = Z6a kvs k
def DPut (H : Hp) (a : Addr) (y v : V) (H' : Hp) : Prop :=
 (∃ kvs k, H a = some (.dK kvs) /\ y = kV k /\ kvs.length < sizeLine /\ H' = upd H a (.dK (Z7z kvs k v))) ∨
 ∃ kvs k b, H a = some (.dT kvs) /\ y = .ref b /\ H b = some (.tup (k.map kV)) /\ kvs.length < sizeLine /\ H' = upd H a (.dT (Z7z kvs k v))
theorem DGet.k {H : Hp} {a : Addr} {kvs : List (Key × V)} {k : Key} (e : H a = some (.dK kvs)) : DGet H a (kV k) (Z6a kvs k) := .inl ⟨kvs, k, .inl e, rfl, rfl⟩
theorem DPut.k {H : Hp} {a : Addr} {kvs : List (Key × V)} {k : Key} {v : V} (e : H a = some (.dK kvs)) (hl : kvs.length < sizeLine) : DPut H a (kV k) v (upd H a (.dK (Z7z kvs k v))) := .inl ⟨kvs, k, e, rfl, hl, rfl⟩
section
variable {X : Cx} {pins : List (Addr × Obj)} {σ : St} {H : Hp} {s : Shared} {a : Addr} {y v : V} {u r : Value} {o : Option V} {A : Around} {E : Value -> Shared -> Prop}
theorem Inv.big (I : Inv X pins σ H s) : sysModules < s.heap.objs.size := by
 have h : mainGlobals < s.heap.objs.size := (I.mod.glob.keeps I.bk).lt
 exact Nat.lt_trans (by decide) h
theorem Zdk {Q : Value -> Shared -> Prop} (hu : A.units + 1 < cLine) (I : Inv X pins σ H s) (g : DGet H a y (some v)) (ry : RelV y u) (h : ∀ w' s', Inv X pins σ H s' -> RelV v w' -> Q w' s') :
  wpAny (model X.prog X.w) A (getItem (.ref a) u) Q E s := by
 rcases g with ⟨kvs, k, e, ey, l⟩ | ⟨kvs, k, b, e, ey, eb, l⟩
 ·subst ey
  obtain ⟨z, hd, vs, rel, dd⟩ := Zis I.hok e
  obtain ⟨w', hw, rw'⟩ := RelO.some_of (v := v) (o := valueAt vs k) (by rw [l]; exact rel.val k)
  exact wpAny_getItem_of (Zc5 ry) dd.mapOf hw (h w' _ (I.tok _) rw')
 ·subst ey
  cases (show u = Value.ref b from ry)
  obtain ⟨z, hd, xs, rel, dd⟩ := Zit I.hok e
  obtain ⟨w', hw, rw'⟩ := RelO.some_of (v := v) (o := (atKey xs k).map (·.2)) (by rw [l]; exact rel.val k)
  obtain ⟨p, hp, hp2⟩ := Option.map_eq_some_iff.mp hw
  refine wpAny_getItem_heap (tupleKind_room_in1 hu) (Zdj I.hok eb) dd hp ?_
  rw [hp2]
  exact h w' _ (I.tok _) rw'
theorem Z9j {h' : Heap} {t' : Nat} {ob : HO} (I : Inv X pins σ H s) (mu : Mut (H a)) (hs : Heap.SameBut a s.heap h') (he : ∃ q, h'.get? a = some q) (new : ObjOk X.prog X.w (upd H a ob) h' a ob) :
  Inv X pins σ (upd H a ob) { s with heap := h', toks := t' } :=
 I.write (x := a) (e := a) mu (.inl rfl) (fun b q hb z => (hs.2 b hb).trans z) he new
theorem Zhu {P : Program} {w : World} {H' : Hp} {h' : Heap} {kvs : List (Key × V)} {vs : List (Key × Value)} (z : kvs.length <= sizeLine) (hd : (a == sysModules) = false) (rel : KV kvs vs) (dd : h'.DictOf (Z0z P w) a vs) :
  ObjOk P w H' h' a (.dK kvs) := ⟨z, hd, vs, rel, dd⟩
theorem Zdl {H' : Hp} {Q : Unit -> Shared -> Prop} (hu : A.units + 1 < cLine) (I : Inv X pins σ H s) (g : DPut H a y v H') (ry : RelV y u) (rv : RelV v r) (h : ∀ s', Inv X pins σ H' s' -> Q () s') :
  wpAny (model X.prog X.w) A (setItem (.ref a) u r) Q E s := by
 rcases g with ⟨kvs, k, e, ey, l, eH⟩ | ⟨kvs, k, b, e, ey, eb, l, eH⟩
 ·subst ey eH
  obtain ⟨z, hd, vs, rel, dd⟩ := Zlf I.hok e
  have hz : vs.length <= sizeLine := by rw [<- rel.length]; exact z
  have hl : (Z7z kvs k v).length <= sizeLine := by have := Z3n kvs k v; omega
  refine wpAny_setItem_pairs (hsz := hz) (Zc5 ry) dd fun h' dd' hs => h _ ?_
  have he : ∃ q, h'.get? a = some q := let ⟨q, _, _, hq, _⟩ := dd'; ⟨q, hq⟩
  exact Z9j I (by rw [e]; exact True.intro) hs he (Zhu hl hd (rel.put k rv) dd')
 ·subst ey eH
  cases (show u = Value.ref b from ry)
  obtain ⟨z, hd, xs, rel, dd⟩ := Zng I.hok e
  have hz : xs.length <= sizeLine := by rw [<- Paired.length rel]; exact z
  have hl : (Z7z kvs k v).length <= sizeLine := by have := Z3n kvs k v; omega
  refine wpAny_setItem_heap (hsz := hz) (tupleKind_room_in1 hu) (Zdj I.hok eb) dd fun h' dd' hs => h _ ?_
  obtain ⟨q, es, ep, hq, h2, h3, h4, _, h5⟩ := dd'
  refine Z9j I (by rw [e]; exact True.intro) hs ⟨q, hq⟩ ⟨hl, hd, _, (rel.put k eb rv).keeps fun c ys ec => ?_, q, es, ep, hq, h2, h3, h4, h5⟩
  rw [Z0g (Z3i ec e (fun z => nomatch z))]
  exact ec
end
section
variable {X : Cx} {pins : List (Addr × Obj)} {σ : St} {H : Hp} {s : Shared} {a : Addr} {kvs : List (Key × V)} {k : Key} {u : Value} {A : Around} {E : Value -> Shared -> Prop}
end
def Zoo (i : Expr) : Prop := ∀ ov iv, subscripted i false ov iv = operate [ov, iv] (getItem ov iv)
theorem Ziu {prog : Program} {w : World} {A : Around} {E : Value -> Shared -> Prop} {s : Shared} {env : Env} {value slice : Expr} {pos : Pos} {T id : String} {Q : Value -> Shared -> Prop}
  (hl : typeLookup (.type T) "__getitem__" = pure (some (.builtin id))) (hs : Zoo slice)
  (h : wpAny (model prog w) A (eval value env) (fun o s₁ => wpAny (model prog w) A (eval slice env) (fun i s₂ => s₂.TypeIs o T /\ wpAny (model prog w) A (getItem o i) Q E s₂) E s₁) E s) :
  wpAny (model prog w) A (eval (.Subscript value slice pos) env) Q E s := by
 refine Subscript_ (wpAny_mono h (fun o s₁ h₁ => wpAny_mono h₁ (fun i s₂ h₂ => ?_) fun _ _ x => x) fun _ _ x => x)
 obtain ⟨hT, h₂⟩ := h₂
 unfold subscriptTail
 refine wpAny_bind ?_
 rw [getitemInPython_of_ne hT.not_modules]
 refine wpAny_bind (wpAny_specialOf hT hl ?_)
 have fin : wpAny (model prog w) A (subscripted slice false o i) (fun r s₃ => wpAny (model prog w) A (letTemporaryGo value o r >>= fun _ => pure r) Q E s₃) E s₂ := by
  rw [hs o i]
  exact wpAny_operating (wpAny_mono h₂ (fun r s₃ h₃ => wpAny_bind (wpAny_letTemporaryGo (wpAny_pure h₃))) fun _ _ x => x)
 first
  | exact wpAny_pure (wpAny_bind fin)
  | exact wpAny_bind (wpAny_pure (wpAny_bind fin))
  | exact wpAny_bind fin
theorem Z9k {X : Cx} {pins : List (Addr × Obj)} {σ : St} {H : Hp} {s : Shared} {a : Addr} {y : V} {o : Option V} (I : Inv X pins σ H s) (g : DGet H a y o) : s.TypeIs (.ref a) "dict" := by
 rcases g with ⟨kvs, k, e, _, _⟩ | ⟨kvs, k, b, e, _, _, _⟩
 ·obtain ⟨_, _, vs, _, dd⟩ := Zis I.hok e
  exact dd.typeIs
 ·obtain ⟨_, _, xs, _, dd⟩ := Zit I.hok e
  exact dd.typeIs
def Znh (td ty : TE) : TE := fun σ H Q => td σ H fun x H1 => ty σ H1 fun y H2 => ∃ a v, x = .ref a /\ DGet H2 a y (some v) /\ Q v H2
def Zni (td ty tv : TE) : TS := fun D σ H => tv σ H fun v H1 => td σ H1 fun x H2 => ty σ H2 fun y H3 => ∃ a H4, x = .ref a /\ DPut H3 a y v H4 /\ D.nx σ H4
section
variable {X : Cx} {o i e value : Expr} {pos pos' tpos : Pos} {td ty tv : TE}
theorem Z11 (hu : X.A.units + 1 < cLine) (ho : PE X o td) (hi : PE X i ty) (hs : Zoo i) : PE X (.Subscript o i pos) (Znh td ty) := by
 intro pins s σ H Q I h
 refine Ziu PySem.F.slot_dict_getitem.lookup hs (thn (ho pins s σ H _ I h) fun u s1 ⟨x, H1, I1, rx, q1⟩ => thn (hi pins s1 σ H1 _ I1 q1) fun iv s2 ⟨y, H2, I2, ry, a, v, ex, g, q2⟩ => ?_)
 subst ex
 obtain rfl : u = Value.ref a := rx
 exact ⟨Z9k I2 g, Zdk hu I2 g ry fun w' s3 I3 rw' => ⟨v, H2, I3, rw', q2⟩⟩
theorem Z5g (hu : X.A.units + 1 < cLine) (ho : PE X o td) (hi : PE X i ty) (hv : PE X value tv) (hs : swapsWith value (some (.Subscript o i pos')) pos.line X.env = pure false) :
  PS X (.Assign [.Subscript o i pos'] value pos) (Zni td ty tv) := by
 intro pins s σ H D I h
 refine wpAny_Assign_Subscript (thn (hv pins s σ H _ I h) fun r s1 ⟨v, H1, I1, rv, q1⟩ => thn (ho pins s1 σ H1 _ I1 q1) fun u s2 ⟨x, H2, I2, rx, q2⟩ => thn (hi pins s2 σ H2 _ I2 q2) fun iv s3 ⟨y, H3, I3, ry, a, H4, ex, g, q3⟩ => ?_) hs
 subst ex
 obtain rfl : u = Value.ref a := rx
 exact Zdl hu I3 g ry rv fun s4 I4 => ⟨σ, H4, I4, q3⟩
end
theorem Zfy {P : Program} {w : World} {H : Hp} (h : Heap) (hb : sysModules < h.objs.size) : ObjOk P w H (h.push { cls := .type "dict", data := .dict #[] }) h.objs.size (.dK []) :=
 ⟨Nat.zero_le _, beq_eq_false_iff_ne.mpr (Ne.symm (Nat.ne_of_lt hb)), [], .nil, Heap.DictOf.new h⟩
section
variable {X : Cx} {pos : Pos}
end
def Zdm : List (TE × TE) -> St -> Hp -> (List (V × V) -> Hp -> Prop) -> Prop
 | [], _, H, Q => Q [] H
 | (tk, tv) :: r, σ, H, Q => tk σ H fun x H1 => tv σ H1 fun y H2 => Zdm r σ H2 fun ps H3 => Q ((x, y) :: ps) H3
abbrev VV : List (V × V) -> List (Value × Value) -> Prop := Paired fun p q => RelV p.1 q.1 /\ RelV p.2 q.2
def PPs (X : Cx) (pos : Pos) (keys : List (Option Expr)) (values : List Expr) (trs : List (TE × TE)) : Prop :=
 ∀ (pins : List (Addr × Obj)) (s : Shared) (σ : St) (H : Hp) (Q : List (V × V) -> Hp -> Prop), Inv X pins σ H s -> Zdm trs σ H Q →
  wpAny (model X.prog X.w) X.A (evalPairs (pairTrees keys values X.env pos)) (fun vs s' => ∃ ps H', Inv X pins σ H' s' /\ VV ps vs /\ Q ps H') X.xe s
theorem Zdn {X : Cx} {pos : Pos} : PPs X pos [] [] [] := fun pins s σ H Q I h => pairTrees_nil_walk ⟨[], H, I, .nil, h⟩
theorem Z2a {X : Cx} {pos : Pos} {k v : Expr} {ks : List (Option Expr)} {vs : List Expr} {tk tv : TE} {trs : List (TE × TE)} (hk : PE X k tk) (hv : PE X v tv) (hr : PPs X pos ks vs trs) :
  PPs X pos (some k :: ks) (v :: vs) ((tk, tv) :: trs) := fun pins s σ H Q I h =>
 pairTrees_cons_walk (thn (hk pins s σ H _ I h) fun u s1 ⟨x, H1, I1, rx, q1⟩ => thn (hv pins s1 σ H1 _ I1 q1) fun w2 s2 ⟨y, H2, I2, ry, q2⟩ =>
  thn (hr pins s2 σ H2 _ I2 q2) fun ws s3 ⟨ps, H3, I3, rel, q3⟩ => ⟨(x, y) :: ps, H3, I3, .cons ⟨rx, ry⟩ rel, q3⟩)
def Z5h (kvs more : List (Key × V)) : List (Key × V) := more.foldl (fun acc kv => Z7z acc kv.1 kv.2) kvs
theorem KV.merge : ∀ {more : List (Key × V)} {rs : List (Key × Value)} {kvs : List (Key × V)} {vs : List (Key × Value)}, KV more rs -> KV kvs vs -> KV (Z5h kvs more) (merged vs rs) := by
 intro more rs kvs vs r
 unfold KV at r
 induction r generalizing kvs vs with
 | nil => intro q; exact q
 | @cons p q ps qs h t ih =>
  intro r0
  have e : KV (Z7z kvs p.1 p.2) (stored vs q.1 q.2) := by
   have := r0.put p.1 h.2
   rw [<- h.1]; exact this
  exact ih e
theorem Z3y : ∀ (more kvs : List (Key × V)), (Z5h kvs more).length <= kvs.length + more.length
 | [], kvs => by show kvs.length <= kvs.length + 0; omega
 | p :: r, kvs => by
  have h1 := Z3y r (Z7z kvs p.1 p.2)
  have h2 := Z3n kvs p.1 p.2
  show (Z5h (Z7z kvs p.1 p.2) r).length <= _
  rw [List.length_cons]; omega
theorem Z6m {P : Program} {w : World} : ∀ {kvs : List (Key × V)} {ws : List (Value × Value)}, VV (kvs.map fun kv => (kV kv.1, kv.2)) ws -> ∃ rs, Carries (Z0z P w) ws rs /\ KV kvs rs
 | [], _, r => by rw [List.map_nil] at r; cases r; exact ⟨[], True.intro, .nil⟩
 | p :: kvs, _, r => by
  rw [List.map_cons] at r
  cases r with
  | @cons a b as bs h t =>
   obtain ⟨rs, c, q⟩ := Z6m (P := P) (w := w) t
   obtain ⟨b1, b2⟩ := b
   exact ⟨(p.1, b2) :: rs, ⟨Zc5 h.1, rfl, c⟩, .cons ⟨rfl, h.2⟩ q⟩
def Znj (trs : List (TE × TE)) : TE := fun σ H Q => ∀ p, H p = none -> Zdm trs σ (upd H p (.dK [])) fun ps H2 => H2 p = some (.dK []) /\ ∃ kvs : List (Key × V), ps = kvs.map (fun kv => (kV kv.1, kv.2)) /\ kvs.length <= 15 /\ Q (.ref p) (upd H2 p (.dK (Z5h [] kvs)))
theorem Zdo {X : Cx} {pos : Pos} {keys : List (Option Expr)} {values : List Expr} {trs : List (TE × TE)} (h : PPs X pos keys values trs) (hall : keys.all (·.isSome) = true) (hl : keys.length = values.length) (h0 : keys ≠ [])
  (h15 : keys.length <= 15) : PE X (.Dict keys values pos) (Znj trs) := by
 intro pins s σ H Q I q
 have hn := I.hok.fresh (Nat.le_refl s.heap.objs.size)
 have I1 := I.laid (a := s.heap.objs.size) (o := .dK []) (h' := s.heap.push { cls := .type "dict", data := .dict #[] }) (t' := s.toks) (fun _ _ q => Heap.get?_push_of_some _ q) (Nat.le_refl _) (Zfy s.heap I.big)
 refine wpAny_Dict_walk (knd := Z0z X.prog X.w) hall hl h0 h15 (thn (h pins _ σ _ _ I1 (q _ hn)) fun ws s2 ⟨ps, H2, I2, rel, e, kvs, ep, lk, q2⟩ => ?_)
 subst ep
 obtain ⟨rs, c, rk⟩ := Z6m (P := X.prog) (w := X.w) rel
 obtain ⟨z, hd, vs0, r0, dd⟩ := Zlf I2.hok e
 cases r0
 refine ⟨rs, c, dd, fun h' dd' hs => ⟨.ref s.heap.objs.size, _, ?_, rfl, q2⟩⟩
 have hz : (Z5h [] kvs).length <= sizeLine := by
  have h1 := Z3y kvs []
  rw [List.length_nil] at h1
  rw [sizeLine_eq]; omega
 have he : ∃ q, h'.get? s.heap.objs.size = some q := let ⟨q, _, _, hq, _⟩ := dd'; ⟨q, hq⟩
 exact Z9j I2 (by rw [e]; exact True.intro) hs he (Zhu hz hd (rk.merge .nil) dd')
structure M1 (X : Cx) (o : Expr) (m : Str) (apos : Pos) (e : Expr) (cpos : Pos) : Prop where
 base : attributeBase o m X.env (eval o X.env) = eval o X.env
 few : ((backTo cpos (starEach [e] X.env)).all (fun x => !x.1) && (backToKw cpos (keywordEach [] X.env)).all (fun x => x.1.isSome)
  && decide (([e] : List Expr).length + ([] : List Keyword).length + (if ([] : List Keyword).isEmpty then 0 else 1) < 30)) = true
 line : (apos.endLine == cpos.line) = true
 trees : backTo cpos (starEach [e] X.env) = [(false, eval e X.env)]
structure M2 (X : Cx) (o : Expr) (m : Str) (apos : Pos) (e f : Expr) (cpos : Pos) : Prop where
 base : attributeBase o m X.env (eval o X.env) = eval o X.env
 few : ((backTo cpos (starEach [e, f] X.env)).all (fun x => !x.1) && (backToKw cpos (keywordEach [] X.env)).all (fun x => x.1.isSome)
  && decide (([e, f] : List Expr).length + ([] : List Keyword).length + (if ([] : List Keyword).isEmpty then 0 else 1) < 30)) = true
 line : (apos.endLine == cpos.line) = true
 trees : backTo cpos (starEach [e, f] X.env) = [(false, eval e X.env), (false, eval f X.env)]
section
variable {X : Cx} {pins : List (Addr × Obj)} {σ : St} {H : Hp} {s : Shared} {a : Addr} {y d : V} {u r : Value} {o : Option V} {A : Around} {E : Value -> Shared -> Prop}
end
section
variable {X : Cx} {o e f : Expr} {apos cpos : Pos} {td ty tx : TE}
end
section
variable {X : Cx} {pins : List (Addr × Obj)} {σ : St} {H : Hp} {s : Shared} {a : Addr} {kvs : List (Key × V)} {A : Around} {E : Value -> Shared -> Prop}
end
section
variable {X : Cx} {pins : List (Addr × Obj)} {σ : St} {H : Hp} {s : Shared} {a : Addr} {y : V} {u : Value} {A : Around} {E : Value -> Shared -> Prop}
end
end L2
namespace Att
open PySem PySem.W PySem.Calls PyProof.Rows
theorem Z5i {P : Params} {h : Heap} : ∀ (ns : List Int) (vs : List Value), WellAll P h vs (ns.map WData.int) -> IntsAre vs ns := by
 intro ns
 induction ns with
 | nil =>
  intro vs w
  rw [List.map_nil] at w
  cases w
  exact .nil
 | cons n ns ih =>
  intro vs w
  rw [List.map_cons] at w
  cases w with
  | cons a b =>
   cases a
   exact .cons _ _ (ih _ b)
theorem Zdp {l : OpenLaw} {n : Nat} (hn : l.most = some n) {P : Params} {h : Heap} {args : List WData} {vals : List Value}
  (hpre : l.row.toRowW.claim.pre args = true) (hwl : WellAll P h vals args) :
  ∃ a vs ns, vals = [Value.ref a] /\ args = [WData.list (ns.map WData.int)] /\ h.get? a = some { cls := .type "list", data := .seq vs.toArray } /\ IntsAre vs ns /\ ns.length <= n := by
 have hsh : WShape.hasAll [] args [.list .int] = true := (pre_splitW hpre).1
 have hc : l.pre.holds [] { args := args } = true := (pre_splitW hpre).2
 obtain ⟨d, r, rfl, h1, h2⟩ := hasAllW_cons hsh
 obtain rfl := hasAllW_nil h2
 obtain ⟨xs, rfl, h3⟩ := hasW_list h1
 obtain ⟨ns, rfl⟩ := items_int h3
 have hlen : ns.length <= n := by
  unfold OpenLaw.pre at hc
  have h4 : (WTm.not (.lt (.lit (.int (n : Int))) (.len (.arg 0)))).holds [] { args := [.list (ns.map .int)] } = true := by
   have h4 := (holds_andW hc).1
   rw [hn] at h4
   exact h4
  have h5 := condW_of h4 (w_not (w_lt w_lit (w_len_list (w_arg rfl))))
  rw [List.length_map] at h5
  refine Nat.le_of_not_lt fun q => ?_
  have q' : (n : Int) < ((ns.length : Nat) : Int) := by omega
  first
   | (rw [decide_eq_true q'] at h5; exact absurd h5 (by decide))
   | (simp at h5; omega)
 cases hwl with
 | cons w1 w2 =>
  cases w2
  cases w1 with
  | list ho hall => exact ⟨_, _, ns, rfl, rfl, ho, Z5i ns _ hall, hlen⟩
theorem Zdq (l : OpenLaw) (args : List WData) : l.row.toRowW.claim.post args (.bool true) args = true :=
 postW_of (r := l.row.toRowW) (X := (true == true))
  (show WShape.has [] (.bool true) .bool = true by first | rfl | decide | simp [WShape.has, WShape.arms, WShape.armsAll])
  (show (WTm.eq .res (.lit (.bool true))).value [] { args := args, res := some (.bool true), after := args } = some (.bool (true == true)) from w_eq_bool (w_res rfl) w_lit) rfl
theorem attach_call {l : OpenLaw} {n : Nat} {q : Program} {loose : List Str} {XP : (Str -> Option Value) -> Heap -> Prop} {YP : World -> Heap -> Prop} {d : DefRec}
  (hn : l.most = some n) (hdf : d.params.defaults = [])
  (call : ∀ (w : World) (s₀ s₁ : Shared) (mg mb : Str -> Option Value) (fa : Addr) (o : Obj) (pm cd doc : Value) (a : Addr) (vs : List Value) (ns : List Int),
   Ground q loose [] XP w s₀ mg mb s₁.heap -> YP w s₁.heap →
   s₁.heap.get? fa = some o -> o.data = .func (docDef d.name d.params d.body d.scope pm cd doc) -> s₁.heap.CodeRec cd d.name -> mg d.name = some (.ref fa) →
   s₁.heap.get? a = some { cls := .type "list", data := .seq vs.toArray } -> IntsAre vs ns -> ns.length <= n -> s₁.gens = #[] →
   codeAny (model l.prog w) callerA (.call (.ref fa) ⟨[.ref a], []⟩) (fun r s' => r = .ok (.ret (.bool true)) /\ OldK s₁.heap s'.heap /\ s'.os = s₁.os /\ AllBare s'.gens) s₁) :
  WalkO q loose XP YP l.row.toRowW d [] (fun f vs => PySem.call f vs) := by
 intro w s₀ s₁ mg mb G Y fa o pm cd doc dV kV ho hd hcd hD hmg hg args vals as hpre hlay hrd hwl hlo
 obtain rfl : dV = .none := Dflts.none hD hdf
 obtain rfl : kV = .none := Dflts.noKw hD
 obtain ⟨a, vs, ns, rfl, rfl, hobj, hints, hlen⟩ := Zdp hn hpre hwl
 refine enter_call (codeAny_mono (call w s₀ s₁ mg mb fa o pm cd doc a vs ns G Y ho (fd_plain hd) hcd hmg hobj hints hlen hg) fun r s' hq => ?_)
 obtain ⟨rfl, h2, h3, h4⟩ := hq
 exact ⟨.inl ⟨.bool true, .bool true, [], rfl, fun _ => rfl, .bool true, Zdq l _, fun _ => ⟨List.Pairwise.nil, fun _ hm => (nomatch hm)⟩⟩, h2, h3, h4⟩
section
variable {prog : Program} {w : World} {A : Around} {E : Value -> Shared -> Prop} {s : Shared} {K : Frag}
end
end Att
namespace L2
open PySem PySem.Spec PyProof.Rows
theorem Z8h : ∀ {vs : List Value} {ns : List Int}, IntsAre vs ns -> Vals (ns.map V.int) vs
 | _, _, .nil => .nil
 | _, _, .cons n t h => .cons ⟨t, rfl⟩ (Z8h h)
def Znk (H : Hp) : Prop := ∀ b, H b = none ∨ ∃ o xs, H b = some (.frz o (.lst xs))
theorem Zfz {P : Program} {w : World} {K : PySem.W.Frag} {mg mb : Str -> Option Value} {CX : CXT} {k : Nat} {fa a : Addr} {fd : FuncData} {x : Str} {sp : Sp} {s₁ : Shared} {vs : List Value} {ns : List Int}
  (KX : K.In s₁.heap) (hns : s₁.heap.Ns mainGlobals mg) (hb : s₁.heap.Ns builtinsNs mb) (hbb : ∀ x : Str, x ≠ "__name__" -> mb x = bootBuiltins x) (hlim : s₁.heap.NoLimit) (hg : s₁.gens = #[])
  (ha : s₁.heap.get? a = some { cls := .type "list", data := .seq vs.toArray }) (hi : IntsAre vs ns) (hl : ns.length <= sizeLine) (hr : Room k callerA)
  (F : ∀ base : Heap, K.In base -> base.Ns mainGlobals mg -> FnOk P w K mg base CX k fa fd [x] sp) (hbind : ∀ (s : Shared) (u : Value), BindsTo s fd ⟨[u], []⟩ [(x, u)])
  (hsp : ∀ H : Hp, Znk H -> SqL K H a (ns.map V.int) -> sp [.ref a] H (fun v _ => v = .bl true) fun _ _ _ => False)
  (hCX : ∀ H e s', CX [] H s₁ (fun _ _ _ => False) e s' -> False) :
  codeAny (model P w) callerA (.call (.ref fa) ⟨[.ref a], []⟩) (fun r s' => r = .ok (.ret (.bool true)) /\ OldK s₁.heap s'.heap /\ s'.os = s₁.os /\ AllBare s'.gens) s₁ := by
 have rv := Z8h hi
 have lenV := hi.length
 have core : ∀ H : Hp, Znk H -> SqL K H a (ns.map V.int) -> HOk P w H s₁.heap -> (∀ b, H b ≠ none -> b = a) -> (H a ≠ none -> K.lookup a = none) →
   codeAny (model P w) callerA (.call (.ref fa) ⟨[.ref a], []⟩) (fun r s' => r = .ok (.ret (.bool true)) /\ OldK s₁.heap s'.heap /\ s'.os = s₁.os /\ AllBare s'.gens) s₁ := by
  intro H hO hS hok hA hK
  have base_of : ∀ {b : Addr} {o : Obj}, s₁.heap.get? b = some o -> H b = none -> (Zfp s₁.heap H).get? b = some o := fun e n => Zfq e n
  have noA : ∀ {b : Addr} {o : Obj} {es : Array DictEntry} {ep : Nat}, s₁.heap.get? b = some o -> o.data = .dict es ep -> H b = none := fun {b o es ep} e d => by
   cases q : H b with
   | none => rfl
   | some u =>
    have e' : b = a := hA b (by rw [q]; simp)
    subst e'
    rw [ha] at e; cases e
    have d' : Data.seq vs.toArray _ = Data.dict es ep := d
    cases d'
  have nsK : ∀ {b : Addr} {m : Str -> Option Value}, s₁.heap.Ns b m -> (Zfp s₁.heap H).Ns b m := fun {b m} ⟨o, es, ep, e, d, r⟩ => ⟨o, es, ep, base_of e (noA e d), d, r⟩
  have hKb : K.In (Zfp s₁.heap H) := fun b o e => base_of (KX b o e) (by
   cases q : H b with
   | none => rfl
   | some u =>
    have e' : b = a := hA b (by rw [q]; simp)
    subst e'
    rw [hK (by rw [q]; simp)] at e; cases e)
  have hM : Mod K mg (Zfp s₁.heap H) := ⟨hKb, nsK hns, ⟨mb, nsK hb, hbb⟩, let ⟨mc, h1, h2⟩ := hlim; ⟨mc, nsK h1, h2⟩⟩
  have e0 : Env0 P w K mg (Zfp s₁.heap H) callerA [] s₁ H := ⟨rfl, hM, fun b o e => Zik e, Nat.le_of_eq (Zd0 _ _), trivial, fun b hb => absurd (show b ∈ ([] : List Addr) from hb) (by simp), hok, .of_eq hg⟩
  refine codeAny_mono ((F _ hKb (nsK hns)).run callerA [] s₁ H ⟨[.ref a], []⟩ [.ref a] [.ref a] _ _ hr e0 (hbind s₁ (.ref a)) (.cons rfl .nil) (hsp H hO hS)) fun r s' h => ?_
  cases r with
  | error e => exact (hCX H e s' h).elim
  | ok fl =>
   cases fl with
   | next => exact False.elim h
   | brk => exact False.elim h
   | cont => exact False.elim h
   | ret u =>
    obtain ⟨v, H', os, bare, un, hok', r', q⟩ := h
    have q' : v = .bl true := q
    subst q'
    obtain rfl : u = Value.bool true := r'
    refine ⟨rfl, OldK.of_keep fun b o e => ?_, os, bare⟩
    cases q : H b with
    | none => exact un.keep b o e q (by intro z; exact absurd (show b ∈ ([] : List Addr) from z) (by simp)) (by simp)
    | some u =>
     rcases hO b with z | ⟨ob, xs, z⟩
     ·rw [q] at z; cases z
     ·have z2 := un.frzs b ob _ z
      obtain ⟨e1, _⟩ := hok b _ z
      obtain ⟨e2, _⟩ := hok' b _ z2
      rw [e] at e1; cases e1
      exact e2
 cases hk : K.lookup a with
 | some o =>
  have e := KX a o hk
  rw [ha] at e
  cases e
  refine core (fun _ => none) (fun _ => .inl rfl) (.inr ⟨_, vs.toArray, _, hk, rfl, rfl, rfl, by rw [List.size_toArray, lenV]; exact hl, by simpa using rv⟩) (fun b u z => by have z' : (none : Option HO) = some u := z; cases z') (fun b z => absurd rfl z) fun z => absurd rfl z
 | none =>
  refine core (fun b => if b = a then some (.frz { cls := .type "list", data := .seq vs.toArray } (.lst (ns.map V.int))) else none) (fun b => ?_) (.inl (.inr ⟨{ cls := .type "list", data := .seq vs.toArray }, if_pos rfl⟩)) (fun b u z => ?_) (fun b z => ?_) fun _ => hk
  ·by_cases hb : b = a
   ·exact .inr ⟨_, _, if_pos hb⟩
   ·exact .inl (if_neg hb)
  ·by_cases hb : b = a
   ·have z' := (if_pos hb).symm.trans z
    cases z'
    subst hb
    exact ⟨ha, by rw [List.length_map]; exact hl, vs, _, rv, ha⟩
   ·have z' := (if_neg hb).symm.trans z
    cases z'
  ·by_cases hb : b = a
   ·exact hb
   ·exact absurd (if_neg hb) z
theorem walk_of {l : PySem.W.OpenLaw} {n k : Nat} {q : Program} {loose : List Str} {XP : (Str -> Option Value) -> Heap -> Prop} {YP : World -> Heap -> Prop} {d : DefRec} {K : Params -> PySem.W.Frag} {CX : World -> CXT} {sp : World -> Sp} {x : Str}
  (hn : l.most = some n) (hn2 : n <= sizeLine) (hdf : d.params.defaults = []) (hr : Room k callerA)
  (hY : ∀ (w : World) (h : Heap), YP w h -> (K w.params).In h)
  (F : ∀ (w : World) (mg : Str -> Option Value) (fa : Addr) (h : Heap), (K w.params).In h -> h.Ns mainGlobals mg -> mg d.name = some (.ref fa) →
   ∃ fd : FuncData, (∀ (s : Shared) (u : Value), BindsTo s fd ⟨[u], []⟩ [(x, u)]) ∧
    ∀ base : Heap, (K w.params).In base -> base.Ns mainGlobals mg -> FnOk l.prog w (K w.params) mg base (CX w) k fa fd [x] (sp w))
  (hsp : ∀ (w : World) (H : Hp) (a : Addr) (ns : List Int), ns.length <= n -> Znk H -> SqL (K w.params) H a (ns.map V.int) -> sp w [.ref a] H (fun v _ => v = .bl true) fun _ _ _ => False)
  (hCX : ∀ (w : World) (H : Hp) (s : Shared) (e : Value) (s' : Shared), CX w [] H s (fun _ _ _ => False) e s' -> False) :
  PySem.W.WalkO q loose XP YP l.row.toRowW d [] (fun f vs => PySem.call f vs) := by
 refine Att.attach_call hn hdf fun w s₀ s₁ mg mb fa o pm cd doc a vs ns G Y ho hd hcd hmg hobj hints hlen hg => ?_
 have KX := hY w _ Y
 obtain ⟨fd, hb, hF⟩ := F w mg fa _ KX G.T.g hmg
 exact Zfz KX G.T.g G.T.b G.T.builtins G.T.nolimit hg hobj hints (Nat.le_trans hlen hn2) hr hF hb (fun H hO hS => hsp w H a ns hlen hO hS) fun H e s' => hCX w H s₁ e s'
abbrev CX0 : CXT := fun _ _ _ _ _ _ => False
abbrev E0 : XK := fun _ _ _ => False
theorem Z0e {X : Cx} : Zad CX0 X E0 := fun _ _ _ _ _ _ _ h => h.elim
structure Fun (K : PySem.W.Frag) (x qual : Str) (st : Stmt) (f : Addr) (fd : FuncData) : Prop where
 ex : ∃ (oc : Value) (od : Option Addr) (kV doc pm : Value) (an : Option Addr) (cdv ct : Value) (osl : Array (Option Value)),
  fd = PySem.W.fnOf x qual (Z0n st) (Z0m st) (Z03 st) .none kV doc pm an cdv ct /\ K.lookup f = some ⟨oc, od, .func fd, osl⟩ /\ PySem.W.codeIn K cdv qual = true
 kp : PySem.W.keepIn K (.ref f) = true
section
variable {P : Program} {w : World} {K : PySem.W.Frag} {mg : Str -> Option Value} {base : Heap}
theorem Fun.ok {x qual : Str} {st : Stmt} {f : Addr} {fd : FuncData} {N ps : List Str} {k : Nat} {sp : Sp} (F : Fun K x qual st f fd) (S : FnScope N ps (Z03 st)) (len : ∀ vs H Q E, sp vs H Q E -> vs.length = ps.length)
  (hbody : ∀ (cdv : Value) (A : Around) (outer : List Env) (s : Shared) (H : Hp) (vs : List V) (Q : VK) (E : XK), Room k (A.deeper (envOfC qual (Z03 st) s.heap.objs.size f cdv)) -> sp vs H Q E →
   ∃ t, PSs (Zip CX0 P w K mg base N qual (Z03 st) f cdv A outer s H E).nox (Z0m st) t /\ t { nx := fun _ H' => Q .non H', rt := Q } (Z89 N vs) H) : FnOk P w K mg base CX0 (k + 1) f fd ps sp := by
 obtain ⟨oc, od, kV, doc, pm, an, cdv, ct, osl, rfl, lk, hcd⟩ := F.ex
 refine Znd lk hcd S len fun A outer s H vs Q E hr hsp => ?_
 obtain ⟨t, h, q⟩ := hbody cdv A outer s H vs Q E hr hsp
 exact ⟨t, h.nox, q⟩
theorem Fun.binds {x qual : Str} {st : Stmt} {f : Addr} {fd : FuncData} {ps : List Str} (F : Fun K x qual st f fd)
  (h : ∀ (kV doc pm : Value) (an : Option Addr) (cdv ct : Value) (us : List Value), us.length = ps.length -> bindArgs (PySem.W.fnOf x qual (Z0n st) (Z0m st) (Z03 st) .none kV doc pm an cdv ct) ⟨us, []⟩ = pure (ps.zip us)) : Binds K fd ps [] := by
 obtain ⟨oc, od, kV, doc, pm, an, cdv, ct, osl, rfl, lk, hcd⟩ := F.ex
 exact .all (h kV doc pm an cdv ct)
theorem Z0r {x qual : Str} {st : Stmt} {f : Addr} {oc : Value} {od an : Option Addr} {osl : Array (Option Value)} {kV doc pm cdv ct : Value} (l : K.lookup f = some ⟨oc, od, .func (PySem.W.fnOf x qual (Z0n st) (Z0m st) (Z03 st) .none kV doc pm an cdv ct), osl⟩)
  (c : PySem.W.codeIn K cdv qual = true) (k : PySem.W.keepIn K (.ref f) = true) : Fun K x qual st f (PySem.W.fnOf x qual (Z0n st) (Z0m st) (Z03 st) .none kV doc pm an cdv ct) := ⟨⟨oc, od, kV, doc, pm, an, cdv, ct, osl, rfl, l, c⟩, k⟩
end
theorem Znl {A : Around} {k : Nat} (hr : Room k A) : A.units + 1 < cLine := Nat.lt_of_le_of_lt (Nat.add_le_add_left (by decide : 1 <= 64) _) hr.units
section
variable {X : Cx}
theorem pv (i : Nat) {x : Str} {pos : Pos} (hN : X.N[i]? = some x := by rfl) (hv : Vis X.env.scope x := by first | exact Or.inl rfl | exact Or.inr (Or.inl rfl) | exact Or.inr (Or.inr rfl)) (hd : (x == ("__debug__" : Str)) = false := by decide)
  (hcd : (x == ("__classdict__" : Str)) = false := by decide) : PE X (.Name x pos) (Zog i) := Zhi hN hv hd hcd
end
theorem Z3z {A B : Prop} (h : B) : if false = true then A else B := by
 rw [if_neg Bool.false_ne_true]
 exact h
theorem Z4y {A B : Prop} (h : A) : if true = true then A else B := by
 rw [if_pos rfl]
 exact h
theorem Z16 {c A B : Prop} [Decidable c] (h1 : c -> A) (h2 : ¬ c -> B) : if c then A else B := by
 by_cases h : c
 ·rw [if_pos h]
  exact h1 h
 ·rw [if_neg h]
  exact h2 h
def Same (H H' : Hp) : Prop := ∀ b o, H b = some o -> H' b = some o
theorem Same.refl (H : Hp) : Same H H := fun _ _ h => h
theorem Same.trans {H H1 H2 : Hp} (a : Same H H1) (b : Same H1 H2) : Same H H2 := fun c o h => b c o (a c o h)
theorem Same.seq {K : PySem.W.Frag} {H H' : Hp} {a : Addr} {xs : List V} (e : Same H H') (h : SqL K H a xs) : SqL K H' a xs := by
 rcases h with (h | ⟨o, h⟩) | h
 ·exact .inl (.inl (e _ _ h))
 ·exact .inl (.inr ⟨o, e _ _ h⟩)
 ·exact .inr h
section
variable {X : Cx}
end
section
variable {κ : Type} [DecidableEq κ]
end
section
variable {prog : Program} {w : World} {A : Around} {E : Value -> Shared -> Prop} {R : Result -> Shared -> Prop} {s : Shared}
theorem Z8i {elt target iter : Expr} {ifs : List Expr} {scope : Scope} {pos : Pos} {it acc : Value} {env : Env} (I : Nat -> Shared -> Prop)
  (turn : ∀ n s, I n s -> wpAny (model prog w) A (pyNext it) (fun r s1 => match r with
   | none => R (.ok .next) s1
   | some v => wpAny (model prog w) A (letOwnedTupleGo target it v) (fun _ s1' => wpAny (model prog w) A (assign target env v) (fun _ s2 =>
     wpAny (model prog w) A (forIn ifs true fun c r => if r = true then do let ok ← isTrue c env (eval c env); pure (ForInStep.yield ok) else pure (ForInStep.yield r)) (fun ok s3 =>
      if ok = true then wpAny (model prog w) A (eval elt env) (fun x s4 =>
       wpAny (model prog w) A (call (.builtin "list.append") [acc, x]) (fun _ s5 => ∃ m, m < n /\ I m s5) (fun _ _ => False) s4) (fun _ _ => False) s3
      else ∃ m, m < n /\ I m s3) (fun _ _ => False) s2) (fun _ _ => False) s1') (fun _ _ => False) s1) (fun _ _ => False) s)
  (n : Nat) (h : I n s) :
  codeAny (model prog w) A (.compLoop (.ListComp elt [⟨target, iter, ifs, 0⟩] scope pos) 0 it acc env) R s := by
 refine codeAny_loop rfl I (fun n s hI => ?_) n h
 show wpAny _ A ((compTurn (.ListComp elt [⟨target, iter, ifs, 0⟩] scope pos) 0 it acc env).onRaise (fun x => do noteFrame x env; theTreesLotGoes x)) _ _ s
 refine wpAny_noted ?_
 rw [compTurn_list]
 refine wpAny_bind (wpAny_standAt (wpAny_bind (wpAny_mono (turn n s hI) (fun r s₁ h₁ => ?_) fun _ _ h' => h'.elim)))
 cases r with
 | none => exact wpAny_pure h₁
 | some v =>
  refine wpAny_bind (wpAny_mono h₁ (fun _ s1' h1' => ?_) fun _ _ h' => h'.elim)
  refine wpAny_bind (wpAny_mono h1' (fun _ s₂ h₂ => wpAny_bind (wpAny_mono h₂ (fun ok s₃ h₃ => ?_) fun _ _ h' => h'.elim)) fun _ _ h' => h'.elim)
  cases ok with
  | false => exact wpAny_pure ⟨rfl, h₃⟩
  | true =>
   exact wpAny_bind (wpAny_bind (wpAny_mono h₃ (fun x s₄ h₄ => wpAny_bind (wpAny_mono h₄ (fun _ s₅ h₅ => wpAny_pure (wpAny_pure ⟨rfl, h₅⟩)) fun _ _ h' => h'.elim)) fun _ _ h' => h'.elim))
end
theorem Z4f {env : Env} : ∀ (names : List (Str × NameKind)) (cs : List (Str × Addr)), (∀ n, (n, NameKind.free) ∈ names -> ∃ c, env.cells.lookup n = some c) →
  ∃ cl, (forIn names cs fun (x : Str × NameKind) (r : List (Str × Addr)) => match x with
   | (name, kind) => if (kind == NameKind.free) = true then do let c ← cellOf env name; pure (ForInStep.yield ((name, c) :: r)) else pure (ForInStep.yield r) : Sem (List (Str × Addr))) = pure cl ∧
   (∀ p ∈ cl, p ∈ cs ∨ env.cells.lookup p.1 = some p.2) /\ (∀ p ∈ cs, p ∈ cl) /\ (∀ n, (n, NameKind.free) ∈ names -> ∃ c, (n, c) ∈ cl)
 | [], cs, _ => ⟨cs, by simp, fun p hp => .inl hp, fun p hp => hp, fun n hn => by cases hn⟩
 | (n, k) :: r, cs, h => by
  by_cases hk : (k == NameKind.free) = true
  ·have hk' : k = NameKind.free := eq_of_beq hk
   subst hk'
   obtain ⟨c, hc⟩ := h n (List.mem_cons_self)
   obtain ⟨cl, e, h1, h2, h3⟩ := Z4f r ((n, c) :: cs) fun m hm => h m (List.mem_cons_of_mem _ hm)
   refine ⟨cl, ?_, fun p hp => ?_, fun p hp => h2 p (List.mem_cons_of_mem _ hp), fun m hm => ?_⟩
   ·rw [List.forIn_cons]
    simp only [hk, if_true]
    unfold cellOf
    rw [hc]
    exact e
   ·rcases h1 p hp with q | q
    ·rcases List.mem_cons.mp q with q | q
     ·subst q; exact .inr hc
     ·exact .inl q
    ·exact .inr q
   ·rcases List.mem_cons.mp hm with q | q
    ·cases q; exact ⟨c, h2 _ List.mem_cons_self⟩
    ·exact h3 m q
  ·obtain ⟨cl, e, h1, h2, h3⟩ := Z4f r cs fun m hm => h m (List.mem_cons_of_mem _ hm)
   refine ⟨cl, ?_, h1, h2, fun m hm => ?_⟩
   ·rw [List.forIn_cons]
    simp only [hk]
    exact e
   ·rcases List.mem_cons.mp hm with q | q
    ·cases q; exact absurd rfl hk
    ·exact h3 m q
theorem Z6n {κ : Type} [BEq κ] [LawfulBEq κ] {β : Type} : ∀ {l : List (κ × β)} {x : κ} {c : β}, l.lookup x = some c -> (x, c) ∈ l
 | [], _, _, h => by simp at h
 | (n, k) :: r, x, c, h => by
  cases hx : x == n with
  | true =>
   simp only [List.lookup_cons, hx] at h
   cases h
   have e := eq_of_beq hx
   subst e
   exact List.mem_cons_self
  | false =>
   simp only [List.lookup_cons, hx] at h
   exact List.mem_cons_of_mem _ (Z6n h)
theorem Z6o {κ : Type} [BEq κ] [LawfulBEq κ] {β : Type} : ∀ {l : List (κ × β)} {x : κ} {c : β}, (x, c) ∈ l -> ∃ c', l.lookup x = some c'
 | (n, k) :: r, x, c, h => by
  cases hx : x == n with
  | true => exact ⟨k, by simp only [List.lookup_cons, hx]⟩
  | false =>
   rcases List.mem_cons.mp h with q | q
   ·cases q; simp at hx
   ·obtain ⟨c', e⟩ := Z6o q
    exact ⟨c', by simp only [List.lookup_cons, hx]; exact e⟩
theorem Z4g {scope : Scope} {env : Env} (h : ∀ n, (n, NameKind.free) ∈ scope.names -> ∃ c, env.cells.lookup n = some c) :
  ∃ cl, closureFor scope env = pure cl /\ (∀ x c, cl.lookup x = some c -> env.cells.lookup x = some c) /\ ∀ n, (n, NameKind.free) ∈ scope.names -> ∃ c, cl.lookup n = some c := by
 obtain ⟨cl, e, h1, _, h3⟩ := Z4f scope.names [] h
 refine ⟨cl, ?_, fun x c hx => ?_, fun n hn => ?_⟩
 ·have e2 : closureFor scope env = ((forIn scope.names ([] : List (Str × Addr)) fun (x : Str × NameKind) (r : List (Str × Addr)) => match x with
     | (name, kind) => if (kind == NameKind.free) = true then do let c ← cellOf env name; pure (ForInStep.yield ((name, c) :: r)) else pure (ForInStep.yield r) : Sem (List (Str × Addr))) >>= fun r => pure r) := rfl
  rw [e2, e]
  rfl
 ·rcases h1 _ (Z6n hx) with q | q
  ·cases q
  ·exact q
 ·obtain ⟨c, hc⟩ := h3 n hn
  exact Z6o hc
def Z13 (X : Cx) (N' : List Str) (scope : Scope) (cl : List (Str × Addr)) (C : Addr) (ex : List Addr) (s0 : Shared) (H0 : Hp) : Cx :=
 { X with N := N', s₀ := s0, H₀ := H0, env := compEnvC scope cl C X.env, outer := X.stack, stack := X.stack, ex := ex, fn := fun _ => false, pn := [], xe := fun _ _ => False }
section
variable {X : Cx} {pins : List (Addr × Obj)} {σ : St} {H : Hp} {s : Shared}
theorem Inv.track {a : Addr} {o : HO} (I : Inv X pins σ H s) (f : Z3u X pins H a) (new : ObjOk X.prog X.w (upd H a o) s.heap a o) : Inv X pins σ (upd H a o) s := by
 obtain ⟨f0, f1, f2, f3, f4, f5⟩ := f
 have ne : ∀ b u, H b = some u -> b ≠ a := fun b u e => Z0i e f0
 refine ⟨I.ok, I.os, I.bare, ⟨I.base.keep, I.base.slot, fun b ob e n hx => ?_, I.base.there, fun b xs e => ?_, fun b ob u e => ?_, fun b ps e => ?_⟩, I.loc, I.cell, ?_, fun x c e => ?_, fun p hp => ?_, fun b u e => ?_, I.len⟩
 ·have hb : b ≠ a := by
   rintro rfl
   rcases f3 with z | z
   ·exact hx z
   ·exact absurd (Nat.lt_of_lt_of_le (Heap.lt_size e) z) (Nat.lt_irrefl _)
  rw [Z0g hb]
  exact I.base.free b ob e n hx
 ·have q := I.base.tups b xs e
  rw [Z0g (ne _ _ q)]; exact q
 ·have q := I.base.frzs b ob u e
  rw [Z0g (ne _ _ q)]; exact q
 ·obtain ⟨more, q⟩ := I.base.tbls b ps e
  exact ⟨more, by rw [Z0g (ne _ _ q)]; exact q⟩
 ·rw [Z0g (Ne.symm f1)]; exact I.free
 ·rw [Z0g (f4 x c e)]; exact I.freeC x c e
 ·obtain ⟨e, n, ne', nf, d⟩ := I.pin p hp
  exact ⟨e, by rw [Z0g (f5 p hp)]; exact n, ne', nf, d⟩
 ·by_cases hb : b = a
  ·subst hb
   rw [Z01] at e; cases e
   exact new
  ·rw [Z0g hb] at e
   exact (I.hok b u e).stay (fun c v _ q => q) (fun c q => by rw [Z0g (ne _ _ q)]; exact q) fun c xs q => by rw [Z0g (ne _ _ q)]; exact q
end
def PTs (X : Cx) (ifs : List Expr) (t : TT) : Prop :=
 ∀ (pins : List (Addr × Obj)) (s : Shared) (σ : St) (H : Hp) (Q : Bool -> Hp -> Prop), Inv X pins σ H s -> t σ H Q →
  wpAny (model X.prog X.w) X.A (forIn ifs true fun c r => if r = true then do let ok ← isTrue c X.env (eval c X.env); pure (ForInStep.yield ok) else pure (ForInStep.yield r)) (TP X pins σ Q) X.xe s
def tNoTest : TT := fun _ H Q => Q true H
theorem Z2u {X : Cx} : PTs X [] tNoTest := fun _ _ _ H _ I h => wpAny_tests_nil ⟨H, I, h⟩
theorem Z4h {X : Cx} {c : Expr} {t : TT} (h : PT X c t) : PTs X [c] t := fun pins s σ H Q I q => wpAny_tests_one (h pins s σ H Q I q)
def Zdr (src : List (Option Nat)) (σ : St) : St := src.map fun o => match o with | some j => (σ[j]?).getD none | none => none
def Zlg (src : List (Option Nat)) (wi : TI) (g : TG) (tt : TT) (te : TE) : TE := fun σ H Q => wi σ H fun J H1 => ∃ W : Nat -> Nat -> List V -> St -> Hp -> Prop, (∃ m, W 0 m [] (Zdr src σ) H1) /\ ∀ i m ys σc H, W i m ys σc H →
 (J.stop i H /\ ∀ l, H l = none -> Q (.ref l) (upd H l (.lst ys))) ∨
 (J.go i H /\ ys.length < sizeLine /\ ∀ x H', J.yld i H x H' -> g x σc H' fun σ2 H2 => tt σ2 H2 fun b H3 =>
  if b = true then te σ2 H3 fun v H4 => ∃ m', m' < m /\ W (i + 1) m' (ys ++ [v]) σ2 H4 else ∃ m', m' < m /\ W (i + 1) m' ys σ2 H3)
section
variable {X : Cx} {elt tg iter : Expr} {ifs : List Expr} {scope : Scope} {pos : Pos} {N' : List Str} {src : List (Option Nat)} {wi : TI} {g : TG} {tt : TT} {te : TE}
theorem Z2v {env : Env} : ∀ {names : List (Str × NameKind)} {x : Str} {k : NameKind}, (names.map fun (n, k) => if (k == NameKind.free && env.scope.kind == .function && env.kindOf n == some .cell) then (n, NameKind.cell) else (n, k)).lookup x = some k →
  (k = .cell ∨ k = .free) -> (∀ y ∈ names, y.2 ≠ .cell) -> (x, NameKind.free) ∈ names
 | [], _, _, h, _, _ => by simp at h
 | (n, k') :: r, x, k, h, hk, hc => by
  have ih := @Z2v env r x k
  have h' : List.lookup x ((if (k' == NameKind.free && env.scope.kind == .function && env.kindOf n == some .cell) = true then (n, NameKind.cell) else (n, k')) :: (r.map fun (n, k) => if (k == NameKind.free && env.scope.kind == .function && env.kindOf n == some .cell) then (n, NameKind.cell) else (n, k))) = some k := h
  by_cases hx : x = n
  ·subst hx
   by_cases hf : k' = .free
   ·subst hf; exact List.mem_cons_self
   ·have e : (k' == NameKind.free) = false := by simpa using hf
    rw [e] at h'
    simp only [Bool.false_and, Bool.false_eq_true, if_false, List.lookup_cons, beq_self_eq_true] at h'
    have e' : k' = k := Option.some.inj h'
    rcases hk with q | q
    ·exact absurd (e'.trans q) (hc (x, k') List.mem_cons_self)
    ·exact absurd (e'.trans q) hf
  ·have e : (x == n) = false := by simpa using hx
   have h2 : (r.map fun (n, k) => if (k == NameKind.free && env.scope.kind == .function && env.kindOf n == some .cell) then (n, NameKind.cell) else (n, k)).lookup x = some k := by
    by_cases hc2 : (k' == NameKind.free && env.scope.kind == .function && env.kindOf n == some .cell) = true
    ·rw [if_pos hc2] at h'; simp only [List.lookup_cons, e] at h'; exact h'
    ·rw [if_neg hc2] at h'; simp only [List.lookup_cons, e] at h'; exact h'
   exact List.mem_cons_of_mem _ (ih h2 hk fun y hy => hc y (List.mem_cons_of_mem _ hy))
structure CompScope (X : Cx) (scope : Scope) (N' : List Str) (src : List (Option Nat)) : Prop where
 kind : scope.kind = .function
 cell : ∀ y ∈ scope.names, y.2 ≠ .cell
 names : ∀ x ∈ scope.names, x.2 = .local -> scope.names.lookup x.1 = some .local
 fr : ∀ n, (n, NameKind.free) ∈ scope.names -> X.env.kindOf n = some .cell ∨ X.env.kindOf n = some .free
 excl : ∀ n, (n, NameKind.free) ∈ scope.names -> ¬ scope.names.lookup n = some .local
 len : N'.length = src.length
 src : ∀ (i j : Nat), src[i]? = some (some j) -> ∃ x : Str, N'[i]? = some x /\ X.N[j]? = some x /\ (x, NameKind.free) ∈ scope.names
theorem Z4i {cl : List (Str × Addr)} {C D : Addr} {fp : List Addr} {pins : List (Addr × Obj)} {σ : St} {H : Hp} {s3 : Shared} {h1 : Heap} {tk : Nat} (S : CompScope X scope N' src) (I3 : Inv X pins σ H s3)
  (hcl1 : ∀ x c, cl.lookup x = some c -> X.env.cells.lookup x = some c) (hcl2 : ∀ n, (n, NameKind.free) ∈ scope.names -> ∃ c, cl.lookup n = some c) (hC : C = s3.heap.objs.size)
  (hf : ∀ b ∈ D :: fp, Z3u X pins H b) (hlt : ∀ b ∈ D :: fp, b < s3.heap.objs.size) (hns : h1.Ns C (fun _ => none)) (hk : ∀ b o, s3.heap.get? b = some o -> h1.get? b = some o) :
  Inv (Z13 X N' scope cl C (D :: fp) s3 H) [] (Zdr src σ) H { s3 with heap := h1, toks := tk } := by
 have neC : ∀ b o, s3.heap.get? b = some o -> b ≠ C := fun b o e => by rw [hC]; exact Nat.ne_of_lt (Heap.lt_size e)
 have HC : H C = none := I3.hok.fresh (Nat.le_of_eq hC.symm)
 have ok : (Z13 X N' scope cl C (D :: fp) s3 H).Ok := by
  refine ⟨I3.ok.mod, S.kind, I3.ok.glob, I3.ok.blt, Nat.le_of_eq hC.symm, fun x y c e1 e2 => I3.ok.inj x y c (hcl1 x c e1) (hcl1 y c e2), fun x hx => ?_, fun x c z => absurd z Bool.false_ne_true, I3.ok.hd, I3.ok.frames, .inl rfl, fun b hb => ⟨?_, fun x c e => ?_⟩, I3.bs, Nat.le_trans I3.ok.bsz I3.sz, fun b o e hb => ?_, fun b hb => ?_, I3.stack, I3.stkFree⟩
  ·refine hcl2 x ?_
   rcases hx with z | z
   ·exact Z2v (env := X.env) (show ((scope.names.map _).lookup x) = some .cell from z) (.inl rfl) S.cell
   ·exact Z2v (env := X.env) (show ((scope.names.map _).lookup x) = some .free from z) (.inr rfl) S.cell
  ·show b ≠ C
   rw [hC]; exact Nat.ne_of_lt (hlt b hb)
  ·exact (hf b hb).2.2.2.2.1 x c (hcl1 x c e)
  ·rcases (hf b hb).2.2.2.1 with z | z
   ·exact I3.ok.noex b o e z
   ·exact absurd (Nat.lt_of_lt_of_le (Nat.lt_of_lt_of_le (Heap.lt_size e) I3.ok.bsz) z) (Nat.lt_irrefl _)
  ·intro z
   have z' : b ∈ frs X.stack := z
   rcases List.mem_cons.mp (I3.stkSub b z') with q | q
   ·exact (hf b hb).2.1 q
   ·exact (hf b hb).2.2.1 q
 refine ⟨ok, rfl, I3.bare, Un.kept hk, ⟨_, hns, fun i x v e1 e2 e3 => ?_⟩, fun x c e => ?_, HC, fun x c e => I3.freeC x c (hcl1 x c e), fun p hp => absurd (show p ∈ ([] : List (Addr × Obj)) from hp) (by simp), I3.hok.kept hk, ?_⟩
 ·have e2' : (src.map fun o => match o with | some j => (σ[j]?).getD none | none => none)[i]? = some (some v) := e2
  rw [List.getElem?_map] at e2'
  cases q : src[i]? with
  | none => rw [q] at e2'; cases e2'
  | some o =>
   rw [q] at e2'
   cases o with
   | none => cases e2'
   | some j =>
    obtain ⟨x', hx1, hx2, hx3⟩ := S.src i j q
    have ex : x' = x := Option.some.inj (hx1.symm.trans e1)
    subst ex
    have ev : σ[j]? = some (some v) := by
     cases q2 : σ[j]? with
     | none => simp [q2] at e2'
     | some o => simp [q2] at e2'; rw [e2']
    obtain ⟨m, hn, hl⟩ := I3.loc
    have hkind := S.fr x' hx3
    obtain ⟨u, r, l⟩ := hl j x' v hx2 ev (by
     rcases hkind with z | z
     ·exact .inr (.inl z)
     ·exact .inr (.inr z))
    refine ⟨u, r, .inr ⟨?_, ?_⟩⟩
    ·rcases e3 with z | z | z
     ·exfalso
      have z' : (scope.names.map fun (n, k) => if (k == NameKind.free && X.env.scope.kind == .function && X.env.kindOf n == some .cell) then (n, NameKind.cell) else (n, k)).lookup x' = some .local := z
      rcases l with ⟨k, _⟩ | ⟨_, c, hc, hcell⟩
      ·rcases hkind with y | y <;> (rw [y] at k; cases k)
      ·exact (show False by
        have := S.names
        have hm := hx3
        clear e2 e2'
        have key : ∀ (names : List (Str × NameKind)), (names.map fun (n, k) => if (k == NameKind.free && X.env.scope.kind == .function && X.env.kindOf n == some .cell) then (n, NameKind.cell) else (n, k)).lookup x' = some .local →
          names.lookup x' = some .local := by
         intro names
         induction names with
         | nil => intro h; simp at h
         | cons y r ih =>
          obtain ⟨n, k⟩ := y
          intro h
          have h' : List.lookup x' ((if (k == NameKind.free && X.env.scope.kind == .function && X.env.kindOf n == some .cell) = true then (n, NameKind.cell) else (n, k)) :: (r.map fun (n, k) => if (k == NameKind.free && X.env.scope.kind == .function && X.env.kindOf n == some .cell) then (n, NameKind.cell) else (n, k))) = some .local := h
          by_cases hx : (x' == n) = true
          ·by_cases hc2 : (k == NameKind.free && X.env.scope.kind == .function && X.env.kindOf n == some .cell) = true
           ·rw [if_pos hc2] at h'; simp only [List.lookup_cons, hx] at h'; cases h'
           ·rw [if_neg hc2] at h'; simp only [List.lookup_cons, hx] at h' ⊢; exact h'
          ·have hx' : (x' == n) = false := by simpa using hx
           by_cases hc2 : (k == NameKind.free && X.env.scope.kind == .function && X.env.kindOf n == some .cell) = true
           ·rw [if_pos hc2] at h'; simp only [List.lookup_cons, hx'] at h' ⊢; exact ih h'
           ·rw [if_neg hc2] at h'; simp only [List.lookup_cons, hx'] at h' ⊢; exact ih h'
        have z2 := key _ z'
        obtain ⟨c2, hc2⟩ := hcl2 x' hx3
        exact S.excl x' hx3 z2)
     ·exact .inl z
     ·exact .inr z
    ·rcases l with ⟨k, _⟩ | ⟨_, c, hc, hcell⟩
     ·rcases hkind with y | y <;> (rw [y] at k; cases k)
     ·obtain ⟨c2, hc2⟩ := hcl2 x' hx3
      have e := hcl1 x' c2 hc2
      rw [hc] at e; cases e
      obtain ⟨oc, ho, hd⟩ := hcell
      exact ⟨c, hc2, oc, hk c oc ho, hd⟩
 ·obtain ⟨v, oc, ho, hd⟩ := I3.cell x c (hcl1 x c e)
  exact ⟨v, oc, hk c oc ho, hd⟩
 ·show (src.map _).length = N'.length
  rw [List.length_map, S.len]
theorem Z6p {cl : List (Str × Addr)} {C D : Addr} {fp : List Addr} {pins pinsY : List (Addr × Obj)} {σ σc : St} {H H' : Hp} {s3 s4 : Shared} {h' : Heap} {ys : List V} {us : List Value} (I3 : Inv X pins σ H s3) (hC : C = s3.heap.objs.size)
  (hf : ∀ b ∈ D :: fp, Z3u X pins H b) (hlt : ∀ b ∈ D :: fp, b < s3.heap.objs.size) (IY : Inv (Z13 X N' scope cl C (D :: fp) s3 H) pinsY σc H' s4) (hD : H' D = none) (pl : s4.heap.PlainList D us.toArray) (rv : Vals ys us) (hz : ys.length <= sizeLine)
  (hs : Heap.SameBut C s4.heap h') : Inv X pins σ (upd H' D (.lst ys)) { s4 with heap := h' } := by
 have J : Inv X pins σ H' s4 := I3.call' IY.os IY.base IY.hok IY.bare (ch := D :: fp) fun b hb => ⟨(hf b hb).2.2.2.1, (hf b hb).2.1, (hf b hb).2.2.2.2.1, (hf b hb).2.2.2.2.2⟩
 have fC : Z3u X pins H' C := I3.fpOk (Nat.le_of_eq hC.symm) IY.free
 have J2 : Inv X pins σ H' { s4 with heap := h' } := J.turned (t' := s4.toks) (fun b o hb e => (hs.2 b hb).trans e) fC.1 fC.2.1 fC.2.2.2.1 fC.2.2.2.2.1 fC.2.2.2.2.2
 have hDC : D ≠ C := by rw [hC]; exact Nat.ne_of_lt (hlt D List.mem_cons_self)
 obtain ⟨n, e⟩ := pl
 have fD := hf D List.mem_cons_self
 exact J2.track ⟨hD, fD.2⟩ ⟨hz, us, n, rv, (hs.2 D hDC).trans e⟩
theorem Zaj {cl : List (Str × Addr)} {C D it : Addr} {fp : List Addr} {tn : Nat -> Heap -> Prop} {J : It} {pins : List (Addr × Obj)} {σ σ0 : St} {H : Hp} {s3 s4 : Shared} {R : Result -> Shared -> Prop} {W : Nat -> Nat -> List V -> St -> Hp -> Prop} {m0 : Nat} {Q : List V -> Hp -> Prop}
  (hc : X.calm = true) (T : Turn X.prog X.w X.K tg J fp it tn) (I3 : Inv X pins σ H s3) (hC : C = s3.heap.objs.size)
  (hf : ∀ b ∈ D :: fp, Z3u X pins H b) (hlt : ∀ b ∈ D :: fp, b < s3.heap.objs.size) (hDf : D ∉ fp) (IY : Inv (Z13 X N' scope cl C (D :: fp) s3 H) [] σ0 H s4) (st : tn 0 s4.heap) (pl : s4.heap.PlainList D #[])
  (hg : PG (Z13 X N' scope cl C (D :: fp) s3 H) tg g) (ht : PTs (Z13 X N' scope cl C (D :: fp) s3 H) ifs tt) (he : PE (Z13 X N' scope cl C (D :: fp) s3 H) elt te) (w0 : W 0 m0 [] σ0 H)
  (turn : ∀ i m ys σc H, W i m ys σc H -> (J.stop i H /\ Q ys H) ∨ (J.go i H /\ ys.length < sizeLine /\ ∀ x H', J.yld i H x H' -> g x σc H' fun σ2 H2 => tt σ2 H2 fun b H3 =>
   if b = true then te σ2 H3 fun v H4 => ∃ m', m' < m /\ W (i + 1) m' (ys ++ [v]) σ2 H4 else ∃ m', m' < m /\ W (i + 1) m' ys σ2 H3))
  (fin : ∀ s5 σc H' ys us pinsY, Inv (Z13 X N' scope cl C (D :: fp) s3 H) pinsY σc H' s5 -> H' D = none -> s5.heap.PlainList D us.toArray -> Vals ys us -> ys.length <= sizeLine -> Q ys H' -> R (.ok .next) s5) :
  codeAny (model X.prog X.w) X.A (.compLoop (.ListComp elt [⟨tg, iter, ifs, 0⟩] scope pos) 0 (.ref it) (.ref D) (compEnvC scope cl C X.env)) R s4 := by
 have eY : (Z13 X N' scope cl C (D :: fp) s3 H).env = compEnvC scope cl C X.env := rfl
 generalize hY : Z13 X N' scope cl C (D :: fp) s3 H = Y at *
 have e1 : Y.prog = X.prog := by rw [<- hY]; rfl
 have e2 : Y.w = X.w := by rw [<- hY]; rfl
 have e3 : Y.K = X.K := by rw [<- hY]; rfl
 have e4 : Y.A = X.A := by rw [<- hY]; rfl
 have e5 : Y.calm = true := by rw [<- hY]; exact hc
 have e6 : Y.xe = fun _ _ => False := by rw [<- hY]; rfl
 have e7 : Y.env.locals = C := by rw [eY]; rfl
 have e8 : Y.ex = D :: fp := by rw [<- hY]; rfl
 have e9 : Y.pn = [] := by rw [<- hY]; rfl
 have e10 : Y.fs = frs X.stack := by rw [<- hY]; rfl
 have e11 : ∀ x c, Y.env.cells.lookup x = some c -> ∀ b ∈ D :: fp, c ≠ b := fun x c e b hb => (IY.ok.exf b (by rw [e8]; exact hb)).2 x c e
 have nst : ∀ b ∈ D :: fp, b ∉ Y.fs := fun b hb => IY.ok.exfs b (by rw [e8]; exact hb)
 have fpY : ∀ (pinsY : List (Addr × Obj)) (H' : Hp), (∀ p ∈ pinsY, p.1 = D) -> ∀ b ∈ fp, H' b = none -> Z3u Y pinsY H' b := fun pinsY H' hp b hb hn =>
  ⟨hn, by rw [e7, hC]; exact Nat.ne_of_lt (hlt b (List.mem_cons_of_mem _ hb)), nst b (List.mem_cons_of_mem _ hb), .inl (by rw [e8]; exact List.mem_cons_of_mem _ hb), fun x c e => e11 x c e b (List.mem_cons_of_mem _ hb), fun p hp' z => by
   rw [e9, List.nil_append] at hp'
   have q := hp p hp'
   rw [z] at q
   rw [q] at hb
   exact hDf hb⟩
 have fpD : ∀ (pinsY : List (Addr × Obj)) (H' : Hp), (∀ p ∈ pinsY, p.1 ≠ D) -> H' D = none -> Z3u Y pinsY H' D := fun pinsY H' hp hn =>
  ⟨hn, by rw [e7, hC]; exact Nat.ne_of_lt (hlt D List.mem_cons_self), nst D List.mem_cons_self, .inl (by rw [e8]; exact List.mem_cons_self), fun x c e => e11 x c e D List.mem_cons_self, fun p hp' => by
   rw [e9, List.nil_append] at hp'
   exact hp p hp'⟩
 have T' : Turn Y.prog Y.w Y.K tg J fp it tn := by rw [e1, e2, e3]; exact T
 rw [<- eY, <- e1, <- e2, <- e4]
 refine Z8i (fun n s' => ∃ i ys us σc H', Inv Y [] σc H' s' /\ tn i s'.heap /\ (∀ b ∈ fp, H' b = none) /\ H' D = none /\ s'.heap.PlainList D (us : List Value).toArray /\ Vals ys us /\ ys.length <= sizeLine /\ W i n ys σc H') ?_ m0
  ⟨0, [], [], σ0, H, IY, st, fun b hb => (hf b (List.mem_cons_of_mem _ hb)).1, (hf D List.mem_cons_self).1, pl, .nil, Nat.zero_le _, w0⟩
 rintro n s5 ⟨i, ys, us, σc, H5, I5, st5, fr5, hD5, pl5, rv5, hz5, w5⟩
 obtain ⟨nn, hob⟩ := id pl5
 have I5' : Inv Y [(D, { cls := .type "list", data := .seq us.toArray nn })] σc H5 s5 := I5.pins_of fun p hp => by
  rw [List.mem_singleton] at hp
  subst hp
  exact ⟨hob, hD5, by rw [e7, hC]; exact Nat.ne_of_lt (hlt D List.mem_cons_self), nst D List.mem_cons_self, fun v z => by
   have z' : Data.seq us.toArray nn = Data.cell v := z
   cases z'⟩
 have f5 : ∀ b ∈ fp, Z3u Y [(D, { cls := .type "list", data := .seq us.toArray nn })] H5 b := fun b hb => fpY _ _ (fun p hp => by rw [List.mem_singleton] at hp; rw [hp]) b hb (fr5 b hb)
 rcases turn i n ys σc H5 w5 with ⟨stop, q⟩ | ⟨go, hz, step⟩
 ·refine thn (T'.done Y rfl rfl rfl e5 i _ s5 σc H5 (fun _ _ => False) I5' f5 st5 stop) fun r s6 ⟨hr, I6⟩ => ?_
  subst hr
  exact fin s6 σc H5 ys us _ I6 hD5 ⟨nn, (I6.pin (D, _) (List.mem_append_right _ List.mem_cons_self)).1⟩ rv5 hz5 q
 ·refine thn (T'.item Y rfl rfl rfl e5 i _ s5 σc H5 (fun _ _ => False) I5' f5 st5 go) fun r s6 ⟨u, hr, h6⟩ => ?_
  subst hr
  refine thn h6 fun _ s7 ⟨x, H7, I7, r7, y7, st7, fr7⟩ => ?_
  have f7 : ∀ b ∈ fp, Z3u Y [(D, { cls := .type "list", data := .seq us.toArray nn })] H7 b := fun b hb => fpY _ _ (fun p hp => by rw [List.mem_singleton] at hp; rw [hp]) b hb (fr7 b hb)
  have I7' := I7.pinned f7 (T.obj _ _ st7)
  have hx := hg _ s7 σc H7 x u _ I7' r7 (step x H7 y7)
  rw [e6] at hx
  refine thn hx fun _ s8 ⟨σ8, H8, I8, q8⟩ => ?_
  have hx2 := ht _ s8 σ8 H8 _ I8 q8
  rw [e6] at hx2
  have keepT : ∀ {σ9 : St} {H9 : Hp} {s9 : Shared}, Inv Y ([(D, { cls := .type "list", data := .seq us.toArray nn })] ++ Z6i fp s7.heap) σ9 H9 s9 -> tn (i + 1) s9.heap /\ (∀ b ∈ fp, H9 b = none) /\ H9 D = none /\ s9.heap.get? D = some { cls := .type "list", data := .seq us.toArray nn } := fun {σ9 H9 s9} I9 => by
   have pD := I9.pin (D, _) (List.mem_append_right _ (List.mem_append_left _ List.mem_cons_self))
   refine ⟨T.keep _ _ _ st7 fun b hb o e => (I9.pin (b, o) (List.mem_append_right _ (List.mem_append_right _ (Z23 hb e)))).1, fun b hb => ?_, pD.2.1, pD.1⟩
   obtain ⟨o, e, d⟩ := T.obj _ _ st7 b hb
   exact (I9.pin (b, o) (List.mem_append_right _ (List.mem_append_right _ (Z23 hb e)))).2.1
  refine thn hx2 fun ok s9 ⟨H9, I9, q9⟩ => ?_
  cases ok with
  | false =>
   rw [if_neg Bool.false_ne_true] at q9
   rw [if_neg Bool.false_ne_true]
   obtain ⟨m', hm, w9⟩ := q9
   obtain ⟨k1, k2, k3, k4⟩ := keepT I9
   exact ⟨m', hm, i + 1, ys, us, σ8, H9, I9.pins_of (fun p hp => nomatch hp), k1, k2, k3, ⟨nn, k4⟩, rv5, hz5, w9⟩
  | true =>
   rw [if_pos rfl] at q9
   rw [if_pos rfl]
   have hx3 := he _ s9 σ8 H9 _ I9 q9
   rw [e6] at hx3
   refine thn hx3 fun xv s10 ⟨v, H10, I10, r10, m', hm, w10⟩ => ?_
   obtain ⟨k1, k2, k3, k4⟩ := keepT I10
   have hl := rv5.length
   refine wpAny_list_append_plain ⟨nn, k4⟩ (fun h' pl' sb => ?_) (by rw [List.size_toArray]; omega)
   have fD := fpD [] H10 (fun p hp => nomatch hp) k3
   have I11 : Inv Y [] σ8 H10 { s10 with heap := h' } := (I10.pins_of (pins' := []) fun p hp => nomatch hp).turned (t' := s10.toks) (fun b o hb e => (sb.2 b hb).trans e) fD.1 fD.2.1 fD.2.2.2.1 fD.2.2.2.2.1 fD.2.2.2.2.2
   refine ⟨m', hm, i + 1, ys ++ [v], us ++ [xv], σ8, H10, I11, T.keep _ _ _ k1 (fun b hb o e => (sb.2 b ?_).trans e), k2, k3, ?_, rv5.append (.cons r10 .nil), ?_, w10⟩
   ·intro z; rw [z] at hb; exact hDf hb
   ·rw [show (us ++ [xv]).toArray = us.toArray.push xv by simp]; exact pl'
   ·rw [List.length_append, List.length_singleton]; exact hz
theorem Z1s (hc : X.calm = true) (S : CompScope X scope N' src) (hi : PI X tg iter wi)
  (hb : ∀ cl C ex s0 H0, PG (Z13 X N' scope cl C ex s0 H0) tg g /\ PTs (Z13 X N' scope cl C ex s0 H0) ifs tt /\ PE (Z13 X N' scope cl C ex s0 H0) elt te)
  (hs : ∀ x, foldedSetIterable iter X.env x = pure x := by intro _; rfl) : PE X (.ListComp elt [⟨tg, iter, ifs, 0⟩] scope pos) (Zlg src wi g tt te) := by
 intro pins s σ H Q I h
 obtain ⟨cl, hclos, hcl1, hcl2⟩ := Z4g (scope := scope) (env := X.env) fun n hn => I.ok.has n (S.fr n hn)
 rw [eval_ListComp]
 refine wpAny_comprehension_free (use := none) rfl hs hclos S.kind S.names ?_
 refine thn (hi pins s σ H _ I h) fun v s1 h1 => thn h1 fun itv s2 h2 => ?_
 obtain ⟨it, fp, tn, J, H2, e, I2, T, st2, f2, W, ⟨m0, w0⟩, turn⟩ := h2
 subst e
 refine wpAny_newObj_type (wpAny_newFunctionEnv S.cell (by intro y hy; simp at hy) (fun h₁ hns₁ hsb₁ => ?_) S.kind)
 dsimp only at hns₁ hsb₁ ⊢
 generalize hH3 : s2.heap.push { cls := .type "list", dict := none, data := .seq ([] : List Value).toArray } = H3 at hns₁ hsb₁ ⊢
 have hsz : H3.objs.size = s2.heap.objs.size + 1 := by rw [<- hH3, Heap.size_push]
 have I3 : Inv X pins σ H2 { s2 with heap := H3 } := I2.kept (t' := s2.toks) fun b o e => by rw [<- hH3]; exact Heap.get?_push_of_some _ e
 have fD : Z3u X pins H2 s2.heap.objs.size := I2.fpOk (Nat.le_refl _) (I2.hok.fresh (Nat.le_refl _))
 have hDf : s2.heap.objs.size ∉ fp := fun hm => by
  obtain ⟨o, e, _⟩ := T.obj 0 _ st2 _ hm
  exact Nat.lt_irrefl _ (Heap.lt_size e)
 have hf : ∀ b ∈ s2.heap.objs.size :: fp, Z3u X pins H2 b := fun b hb => by
  rcases List.mem_cons.mp hb with z | z
  ·rw [z]; exact fD
  ·exact f2 b z
 have hlt : ∀ b ∈ s2.heap.objs.size :: fp, b < H3.objs.size := fun b hb => by
  rcases List.mem_cons.mp hb with z | z
  ·rw [z, hsz]; exact Nat.lt_succ_self _
  ·obtain ⟨o, e, _⟩ := T.obj 0 _ st2 b z
   rw [hsz]; exact Nat.lt_succ_of_lt (Heap.lt_size e)
 have kp : ∀ b o, H3.get? b = some o -> h₁.get? b = some o := fun b o e => hsb₁.extBut b o (Nat.ne_of_lt (Heap.lt_size e)) (Heap.get?_push_of_some _ e)
 have kp0 : ∀ b o, s2.heap.get? b = some o -> h₁.get? b = some o := fun b o e => kp b o (by rw [<- hH3]; exact Heap.get?_push_of_some _ e)
 have hacc : h₁.PlainList s2.heap.objs.size #[] := ⟨_, kp _ _ (by rw [<- hH3]; exact Heap.get?_push_size _ rfl)⟩
 have st1 : tn 0 h₁ := T.keep _ _ _ st2 fun b _ o e => kp0 b o e
 have IY := Z4i (N' := N') (src := src) (scope := scope) (cl := cl) (C := H3.objs.size) (D := s2.heap.objs.size) (fp := fp) (s3 := { s2 with heap := H3 }) (h1 := h₁) (tk := s2.toks) S I3 hcl1 hcl2 rfl hf hlt hns₁ kp
 obtain ⟨hg, ht, he⟩ := hb cl H3.objs.size (s2.heap.objs.size :: fp) { s2 with heap := H3 } H2
 have loop := Zaj (R := compPost (model X.prog X.w) X.A X.xe none (EP X pins σ Q) (.ref s2.heap.objs.size) H3.objs.size) (elt := elt) (iter := iter) (ifs := ifs) (pos := pos) (Q := fun ys H => ∀ l, H l = none -> Q (.ref l) (upd H l (.lst ys)))
  hc T I3 rfl hf hlt hDf IY st1 hacc hg ht he w0 turn (fun s5 σc H' ys us pinsY IY5 hD pl rv hz q => by
   obtain ⟨m, hn, _⟩ := IY5.loc
   refine ⟨m, hn, fun h' hs' => ⟨.ref s2.heap.objs.size, upd H' s2.heap.objs.size (.lst ys), ?_, rfl, q _ hD⟩⟩
   exact Z6p I3 rfl hf hlt IY5 hD pl rv hz hs')
 exact codeAny_compStart_list loop (T.self _ 0 _ _ _ st1 loop)
end
def Its (x : Str) : It := ⟨fun i _ => i < x.cps.size, fun i H v H' => H' = H /\ ∃ c, x.cps[i]? = some c /\ v = .str ⟨#[c]⟩, fun i _ => i = x.cps.size⟩
theorem Zak {P : Program} {w : World} {K : PySem.W.Frag} {tg : Expr} {it : Addr} {x : Str} {t : Tok} {ty : String} (hty : ["enumerate", "zip", "dict_itemiterator", "dict_reverseitemiterator", "odict_iterator", "itertools.zip_longest", "itertools.pairwise"].contains ty = false)
  (W : ∀ A : Around, A.handled = none -> Walks P w A it [it] [it] x.cps.size (SignAt x) (fun i h => h.IsStrIter it ty x t i))
  (self : ∀ (A : Around) (i : Nat) (s : Shared) (Q : Value -> Shared -> Prop) (E : Value -> Shared -> Prop), s.heap.IsStrIter it ty x t i -> Q (.ref it) s -> wpAny (model P w) A (pyIter (.ref it)) Q E s) :
  Turn P w K tg (Its x) [it] it (fun i h => h.IsStrIter it ty x t i) where
 mem := by simp
 obj := fun i h st b hb => by
  have e : b = it := by simpa using hb
  subst e
  obtain ⟨o, e, c, d⟩ := st
  exact ⟨o, e, fun v z => by rw [d] at z; cases z⟩
 keep := fun i h h' st k => by
  obtain ⟨o, e, r⟩ := st
  exact ⟨o, k it (by simp) o e, r⟩
 item := by
  intro X hP hw hK hc i pins s σ H E I hf st hg
  subst hP hw hK
  obtain ⟨f0, f1, f2, f3, f4, f5⟩ := hf it (by simp)
  refine (W X.A (I.ok.hd hc)).item i s _ _ hg st fun v h' tk hv st' kk => ?_
  obtain ⟨c, u, hcx, rfl⟩ := hv
  have I1 : Inv X pins σ H { s with heap := h', toks := tk } := I.turned (fun b o hb e => kk b o (by simpa using hb) e) f0 f1 f3 f4 f5
  obtain ⟨o, e, hcl, hd⟩ := id st'
  exact ⟨_, rfl, Zfs (s := { s with heap := h', toks := tk }) e hcl hd hty ⟨.str ⟨#[c]⟩, H, I1, ⟨u, rfl⟩, ⟨rfl, c, hcx, rfl⟩, st', fun b hb => (hf b hb).1⟩⟩
 done := by
  intro X hP hw hK hc i pins s σ H E I hf st hg
  subst hP hw hK
  obtain ⟨f0, f1, f2, f3, f4, f5⟩ := hf it (by simp)
  have hi : i = x.cps.size := hg
  subst hi
  exact (W X.A (I.ok.hd hc)).done s _ _ st fun h' tk kk => ⟨rfl, I.turned (fun b o hb e => kk b o (by simpa using hb) e) f0 f1 f3 f4 f5⟩
 self := self
section
variable {X : Cx} {tg : Expr}
def Zpf (tl : TE) : TI := fun σ H R => tl σ H fun x H1 => ∃ z, x = .str z /\ R (Its z) H1
theorem Zlh {l : Expr} {tl : TE} (hl : PE X l tl) : PI X tg l (Zpf tl) := by
 intro pins s σ H R I h
 refine thn (hl pins s σ H _ I h) fun v s1 ⟨x, H1, I1, r1, q1⟩ => ?_
 obtain ⟨z, e, q⟩ := q1
 subst e
 obtain ⟨t, rfl⟩ := r1
 cases ha : z.cps.all (· < 128) with
 | false =>
  refine wpAny_pyIter_wide ha ?_
  refine ⟨s1.heap.objs.size, [s1.heap.objs.size], _, _, H1, rfl, I1.kept (t' := s1.toks) fun b o e => Heap.get?_push_of_some _ e, Zak (ty := "str_iterator") (t := t) (by decide) (fun A hA => Walks.strWide hA _ z t) (fun A i s Q E st h => wpAny_pyIter_striter_wide st h), ⟨_, Heap.get?_push_size _ rfl, rfl, rfl⟩, fun b hb => ?_, q⟩
  have e : b = s1.heap.objs.size := by simpa using hb
  subst e
  exact I1.fpOk (Nat.le_refl _) (I1.hok.fresh (Nat.le_refl _))
 | true =>
  refine wpAny_pyIter_ascii ha ?_
  refine ⟨s1.heap.objs.size, [s1.heap.objs.size], _, _, H1, rfl, I1.kept (t' := s1.toks) fun b o e => Heap.get?_push_of_some _ e, Zak (ty := "str_ascii_iterator") (t := t) (by decide) (fun A hA => Walks.strAscii hA _ z t) (fun A i s Q E st h => wpAny_pyIter_striter_ascii st h), ⟨_, Heap.get?_push_size _ rfl, rfl, rfl⟩, fun b hb => ?_, q⟩
  have e : b = s1.heap.objs.size := by simpa using hb
  subst e
  exact I1.fpOk (Nat.le_refl _) (I1.hok.fresh (Nat.le_refl _))
theorem Z8j : OpR X (compareOp .LtE) (fun x y H Q => ∃ i j, x = .str i /\ y = .str j /\ Q (.bl (!decide (j.cps.toList < i.cps.toList))) H) := by
 intro pins s σ H x y v u Q I rx ry h
 obtain ⟨i, j, rfl, rfl, q⟩ := h
 obtain ⟨t, rfl⟩ := rx
 obtain ⟨t', rfl⟩ := ry
 exact PySem.P.le_str ⟨.bl _, H, I, rfl, q⟩
def rSlS : V -> Option Int -> Option Int -> Hp -> VK -> Prop := fun x lo hi H Q => ∃ z, x = .str z /\ z.length <= sizeLine /\ Q (.str (Txt.slice z lo hi)) H
theorem Zds : SlR X rSlS := by
 intro pins s σ H x v vl vu lo hi sl Q I rx hs pl pu h
 obtain ⟨z, rfl, hz, q⟩ := h
 obtain ⟨t, rfl⟩ := rx
 refine ⟨"str", _, F.slot_str_getitem.lookup, typeIs_str _ _ _, ?_⟩
 obtain ⟨os, hos, hcs, hds⟩ := id hs
 have fin : ∀ t' k, EP X pins σ Q (.str (Txt.slice z lo hi) t') { s with toks := k } := fun t' k => ⟨.str _, H, I.tok _, ⟨_, rfl⟩, q⟩
 cases pl with
 | none =>
  cases pu with
  | none => exact wpAny_getItem_str_slice (l := none) (u := none) (st := none) ⟨os, hos, hcs, hds⟩ rfl (post_val_or_str ⟨Nat.le_trans (Txt.slice_le z _ _) hz, fin⟩)
  | int j uj => exact wpAny_getItem_str_slice (l := none) (u := some (j, uj)) (st := none) ⟨os, hos, hcs, hds⟩ rfl (post_val_or_str ⟨Nat.le_trans (Txt.slice_le z _ _) hz, fin⟩)
 | int i ui =>
  cases pu with
  | none => exact wpAny_getItem_str_slice (l := some (i, ui)) (u := none) (st := none) ⟨os, hos, hcs, hds⟩ rfl (post_val_or_str ⟨Nat.le_trans (Txt.slice_le z _ _) hz, fin⟩)
  | int j uj => exact wpAny_getItem_str_slice (l := some (i, ui)) (u := some (j, uj)) (st := none) ⟨os, hos, hcs, hds⟩ rfl (post_val_or_str ⟨Nat.le_trans (Txt.slice_le z _ _) hz, fin⟩)
theorem Z12 : Z3k X (.builtin "isinstance") (fun xs H Q => ∃ x T ty b, xs = [x, .ty T] /\ TyOf X.K H x ty /\ PySem.W.kitOne X.K ty (.type T) = some b /\ Q (.bl b) H) := by
 intro pins s σ H xs us Q I r h
 obtain ⟨x, T, ty, b, rfl, h1, h2, q⟩ := h
 obtain ⟨u, w', rfl, rx, rT⟩ := Zna r
 cases (show w' = Value.type T from rT)
 exact Zdc I rx h1 h2 fun tk => ⟨.bl b, H, I.tok _, rfl, q⟩
theorem Zal : ∀ {bs : List Bool} {us : List Value}, Vals (bs.map V.bl) us -> us = bs.map Value.bool
 | [], us, r => by cases r; rfl
 | b :: bs, us, r => by
  cases r with
  | cons r1 r2 => cases r1; rw [Zal r2]; rfl
theorem Zc6 (bs : List Bool) : ((List.range bs.length).all fun i => (bs[i]?).getD true) = bs.all id := by
 rw [Bool.eq_iff_iff, List.all_eq_true, List.all_eq_true]
 constructor
 ·intro h b hb
  obtain ⟨i, hi, rfl⟩ := List.getElem_of_mem hb
  have := h i (List.mem_range.mpr hi)
  simpa [List.getElem?_eq_getElem hi] using this
 ·intro h i hi
  have hi' := List.mem_range.mp hi
  rw [List.getElem?_eq_getElem hi']
  exact h _ (List.getElem_mem hi')
theorem Z3o (hc : X.calm = true) : Z3k X (.builtin "all") (fun xs H Q => ∃ (p : Addr) (bs : List Bool), xs = [.ref p] /\ SqL X.K H p (bs.map V.bl) /\ Q (.bl (bs.all id)) H) := by
 intro pins s σ H xs us Q I r h
 obtain ⟨p, bs, rfl, hq, q⟩ := h
 obtain ⟨u, rfl, rx⟩ := Z84 r
 cases rx
 obtain ⟨its, r', pl, hz⟩ := I.list hq
 have e := Zal r'
 subst e
 have hlt : p < s.heap.objs.size := by obtain ⟨_, e, _⟩ := pl.isList; exact Heap.lt_size e
 refine call_all_walk (wpAny_pyIter_list pl.isList ?_)
 refine ⟨s.heap.objs.size, [s.heap.objs.size, p], [s.heap.objs.size], (bs.map Value.bool).toArray.size, _, _, fun i => (bs[i]?).getD true, rfl, Walks.list (A := X.A.in1) (I.ok.hd hc) _ p (Nat.ne_of_lt hlt) (bs.map Value.bool).toArray,
  ⟨⟨_, Heap.get?_push_size _ rfl, rfl, rfl⟩, pl.isList.push _⟩, fun i v s' Q' E' hP hQ => ?_, fun h' tk hk => ?_⟩
 ·have hP' : (bs.map Value.bool)[i]? = some v := by simpa using hP
  rw [List.getElem?_map] at hP'
  cases e : bs[i]? with
  | none => rw [e] at hP'; cases hP'
  | some b =>
   rw [e] at hP'
   cases hP'
   simp only [e, Option.getD_some] at hQ
   exact wpAny_truthy_bool hQ
 ·have e : ((List.range (bs.map Value.bool).toArray.size).all fun i => (bs[i]?).getD true) = bs.all id := by
   rw [List.size_toArray, List.length_map]; exact Zc6 bs
  rw [e]
  refine ⟨.bl _, H, I.kept fun b o eb => hk b o ?_ (Heap.get?_push_of_some _ eb), rfl, q⟩
  intro z
  rw [List.mem_singleton.mp z] at eb
  exact Nat.lt_irrefl _ (Heap.lt_size eb)
def Zhv (xs ys : List V) : Bool := xs.length == ys.length && (List.range xs.length).all fun j => eqV (xs.getD j .non) (ys.getD j .non)
theorem Z6q (hu : X.A.units < cLine) : OpR X (compareOp .Eq) (fun x y H Q => ∃ a b xs ys, x = .ref a /\ y = .ref b /\ SqL X.K H a xs /\ SqL X.K H b ys /\ xs.all Z2e = true /\ ys.all Z2e = true /\ Q (.bl (Zhv xs ys)) H) := by
 intro pins s σ H x y v u Q I rx ry h
 obtain ⟨a, b, xs, ys, rfl, rfl, hx, hy, fx, fy, q⟩ := h
 cases rx
 cases ry
 obtain ⟨its, r, pl, hz⟩ := I.list hx
 obtain ⟨its2, r2, pl2, hz2⟩ := I.list hy
 have hl := r.length
 have hl2 := r2.length
 by_cases hs : xs.length = ys.length
 ·refine SeqAt.eq_listAt (e := fun j => eqV (xs.getD j .non) (ys.getD j .non)) pl.isList pl2.isList (by simp only [List.size_toArray]; omega) hu (fun j h1 h2 => ?_) ?_
  ·simp only [List.size_toArray] at h1 h2
   have g1 : xs[j]? = some xs[j] := List.getElem?_eq_getElem (by omega)
   have g2 : ys[j]? = some ys[j] := List.getElem?_eq_getElem (by omega)
   obtain ⟨u1, e1, ru1⟩ := r.get g1
   obtain ⟨u2, e2, ru2⟩ := r2.get g2
   have k1 : its.toArray[j] = u1 := by
    have : its[j]? = some its[j] := List.getElem?_eq_getElem h1
    rw [e1] at this
    simpa using (Option.some.inj this).symm
   have k2 : its2.toArray[j] = u2 := by
    have : its2[j]? = some its2[j] := List.getElem?_eq_getElem h2
    rw [e2] at this
    simpa using (Option.some.inj this).symm
   rw [k1, k2, show xs.getD j .non = xs[j] by simp [List.getD, g1], show ys.getD j .non = ys[j] by simp [List.getD, g2]]
   exact Z6l ru1 ru2 (List.all_eq_true.mp fx _ (List.getElem_mem _)) (List.all_eq_true.mp fy _ (List.getElem_mem _))
  ·refine Z0s I q ?_
   unfold Zhv
   rw [List.size_toArray, <- hl, hs]
   simp
 ·refine SeqAt.eq_list_lengthsAt pl.isList pl2.isList (by simp only [List.size_toArray, bne_iff_ne]; omega) hu ?_
  refine Z0s I q ?_
  unfold Zhv
  rw [beq_eq_false_iff_ne.mpr hs]
  rfl
end
section
variable {X : Cx} {elt tg iter : Expr} {ifs : List Expr} {scope : Scope} {pos : Pos} {N' : List Str} {src : List (Option Nat)} {wi : TI} {g : TG} {tt : TT} {te : TE}
theorem Zc7 {i : Nat} {x : Str} {pos' spos : Pos} (hc : X.calm = true) (hN : X.N.Nodup) (hix : X.N[i]? = some x) (hx : Loc X.env.scope x) (S : CompScope X scope N' src) (hi : PI X tg iter wi)
  (hb : ∀ cl C ex s0 H0, PG (Z13 X N' scope cl C ex s0 H0) tg g /\ PTs (Z13 X N' scope cl C ex s0 H0) ifs tt /\ PE (Z13 X N' scope cl C ex s0 H0) elt te)
  (hsw : swapsWith (.ListComp elt [⟨tg, iter, ifs, 0⟩] scope pos) (some (.Name x pos')) spos.line X.env = pure true := by rfl)
  (hs : ∀ x, foldedSetIterable iter X.env x = pure x := by intro _; rfl)
  (hfn : X.fn x = true ∨ X.env.scope.names.lookup x = some .local := by first | exact .inl rfl | exact .inr rfl | assumption) :
  PS X (.Assign [.Name x pos'] (.ListComp elt [⟨tg, iter, ifs, 0⟩] scope pos) spos) (Zkx (Zlg src wi g tt te) (Z83 i)) := by
 intro pins s σ H D I h
 obtain ⟨cl, hclos, hcl1, hcl2⟩ := Z4g (scope := scope) (env := X.env) fun n hn => I.ok.has n (S.fr n hn)
 rw [exec_Assign_Name_used _ _ _ _ hsw]
 refine wpAny_bind (wpAny_standAt (wpAny_bind ?_))
 show wpAny _ _ (do let _ ← comprehension (.ListComp elt [⟨tg, iter, ifs, 0⟩] scope pos) scope X.env _ (newList []) false (eval iter X.env) (some (assign (.Name x pos') X.env))) _ _ s
 refine wpAny_bind (wpAny_mono (wpAny_comprehension_free (use := some (assign (.Name x pos') X.env)) (Q := fun _ s' => SP X pins D .next s') rfl hs hclos S.kind S.names ?_) (fun _ s' hq => wpAny_pure (wpAny_pure hq)) fun _ _ e => e)
 refine thn (hi pins s σ H _ I h) fun v s1 h1 => thn h1 fun itv s2 h2 => ?_
 obtain ⟨it, fp, tn, J, H2, e, I2, T, st2, f2, W, ⟨m0, w0⟩, turn⟩ := h2
 subst e
 refine wpAny_newObj_type (wpAny_newFunctionEnv S.cell (by intro y hy; simp at hy) (fun h₁ hns₁ hsb₁ => ?_) S.kind)
 dsimp only at hns₁ hsb₁ ⊢
 generalize hH3 : s2.heap.push { cls := .type "list", dict := none, data := .seq ([] : List Value).toArray } = H3 at hns₁ hsb₁ ⊢
 have hsz : H3.objs.size = s2.heap.objs.size + 1 := by rw [<- hH3, Heap.size_push]
 have I3 : Inv X pins σ H2 { s2 with heap := H3 } := I2.kept (t' := s2.toks) fun b o e => by rw [<- hH3]; exact Heap.get?_push_of_some _ e
 have fD : Z3u X pins H2 s2.heap.objs.size := I2.fpOk (Nat.le_refl _) (I2.hok.fresh (Nat.le_refl _))
 have hDf : s2.heap.objs.size ∉ fp := fun hm => by
  obtain ⟨o, e, _⟩ := T.obj 0 _ st2 _ hm
  exact Nat.lt_irrefl _ (Heap.lt_size e)
 have hf : ∀ b ∈ s2.heap.objs.size :: fp, Z3u X pins H2 b := fun b hb => by
  rcases List.mem_cons.mp hb with z | z
  ·rw [z]; exact fD
  ·exact f2 b z
 have hlt : ∀ b ∈ s2.heap.objs.size :: fp, b < H3.objs.size := fun b hb => by
  rcases List.mem_cons.mp hb with z | z
  ·rw [z, hsz]; exact Nat.lt_succ_self _
  ·obtain ⟨o, e, _⟩ := T.obj 0 _ st2 b z
   rw [hsz]; exact Nat.lt_succ_of_lt (Heap.lt_size e)
 have kp : ∀ b o, H3.get? b = some o -> h₁.get? b = some o := fun b o e => hsb₁.extBut b o (Nat.ne_of_lt (Heap.lt_size e)) (Heap.get?_push_of_some _ e)
 have kp0 : ∀ b o, s2.heap.get? b = some o -> h₁.get? b = some o := fun b o e => kp b o (by rw [<- hH3]; exact Heap.get?_push_of_some _ e)
 have hacc : h₁.PlainList s2.heap.objs.size #[] := ⟨_, kp _ _ (by rw [<- hH3]; exact Heap.get?_push_size _ rfl)⟩
 have st1 : tn 0 h₁ := T.keep _ _ _ st2 fun b _ o e => kp0 b o e
 have IY := Z4i (N' := N') (src := src) (scope := scope) (cl := cl) (C := H3.objs.size) (D := s2.heap.objs.size) (fp := fp) (s3 := { s2 with heap := H3 }) (h1 := h₁) (tk := s2.toks) S I3 hcl1 hcl2 rfl hf hlt hns₁ kp
 obtain ⟨hg, ht, he⟩ := hb cl H3.objs.size (s2.heap.objs.size :: fp) { s2 with heap := H3 } H2
 have loop := Zaj (R := compPost (model X.prog X.w) X.A X.xe (some (assign (.Name x pos') X.env)) (fun _ s' => SP X pins D .next s') (.ref s2.heap.objs.size) H3.objs.size) (elt := elt) (iter := iter) (ifs := ifs) (pos := pos) (Q := fun ys H => ∀ l, H l = none -> D.nx (σ.set i (some (.ref l))) (upd H l (.lst ys)))
  hc T I3 rfl hf hlt hDf IY st1 hacc hg ht he w0 turn (fun s5 σc H' ys us pinsY IY5 hD pl rv hz q => by
   have IX : Inv X pins σ (upd H' s2.heap.objs.size (.lst ys)) s5 := Z6p (h' := s5.heap) I3 rfl hf hlt IY5 hD pl rv hz (.refl ..)
   show wpAny _ _ (assign (.Name x pos') X.env (.ref s2.heap.objs.size)) _ _ s5
   refine wpAny_assign_Name (Z82 (v := .ref s2.heap.objs.size) IX hN hix hx rfl (fun s6 I6 ⟨a, sb, ha⟩ => ?_) hfn)
   obtain ⟨m, hn, _⟩ := IY5.loc
   have fC : Z3u X pins (upd H' s2.heap.objs.size (.lst ys)) H3.objs.size := I3.fpOk (Nat.le_refl _) (by
    rw [Z0g (by rw [hsz]; exact Nat.ne_of_gt (Nat.lt_succ_self _))]
    exact IY5.free)
   have hCa : H3.objs.size ≠ a := by
    rcases ha with z | z
    ·rw [z]; exact fC.2.1
    ·exact fun q => fC.2.2.2.2.1 x a z q.symm
   refine ⟨m, hn.sameBut sb hCa, fun h' hs' => ⟨_, _, I6.turned (t' := s6.toks) (fun b o hb e => (hs'.2 b hb).trans e) fC.1 fC.2.1 fC.2.2.2.1 fC.2.2.2.2.1 fC.2.2.2.2.2, q _ hD⟩⟩)
 exact codeAny_compStart_list loop (T.self _ 0 _ _ _ st1 loop)
end
section
variable {X : Cx}
def Znm (_ j : Int) : Prop := 0 < j /\ j < 18446744073709551616
theorem Z58 : OpR X (binaryOp .FloorDiv) (rI Znm fun i j => .int (i / j)) := opI fun i j _ _ _ _ _ hc q => by
 have h1 : (0 : Int) < j := hc.1
 have h2 : j < 18446744073709551616 := hc.2
 refine floordiv_int (by omega) (by rw [Int.fdiv_eq_ediv_of_nonneg i (by omega)]; exact q) (.inl (PyProof.noPylong_of_log2 ?_))
 have h64 : j.natAbs.log2 < 64 := (Nat.log2_lt (by omega)).mpr (by omega)
 omega
theorem Z4j (hu : X.A.units < cLine) : OpR X (compareOp .NotEq) (fun x y H Q => ∃ a b xs ys, x = .ref a /\ y = .ref b /\ SqL X.K H a xs /\ SqL X.K H b ys /\ xs.all Z2e = true /\ ys.all Z2e = true /\ Q (.bl (!Zhv xs ys)) H) := by
 intro pins s σ H x y v u Q I rx ry h
 obtain ⟨a, b, xs, ys, rfl, rfl, hx, hy, fx, fy, q⟩ := h
 cases rx
 cases ry
 obtain ⟨its, r, pl, hz⟩ := I.list hx
 obtain ⟨its2, r2, pl2, hz2⟩ := I.list hy
 have hl := r.length
 have hl2 := r2.length
 by_cases hs : xs.length = ys.length
 ·refine SeqAt.RcNeAt.lists (e := fun j => eqV (xs.getD j .non) (ys.getD j .non)) pl.isList pl2.isList (by simp only [List.size_toArray]; omega) hu (fun j h1 h2 => ?_) X.prog X.w _ _ ?_
  ·simp only [List.size_toArray] at h1 h2
   have g1 : xs[j]? = some xs[j] := List.getElem?_eq_getElem (by omega)
   have g2 : ys[j]? = some ys[j] := List.getElem?_eq_getElem (by omega)
   obtain ⟨u1, e1, ru1⟩ := r.get g1
   obtain ⟨u2, e2, ru2⟩ := r2.get g2
   have k1 : its.toArray[j] = u1 := by
    have : its[j]? = some its[j] := List.getElem?_eq_getElem h1
    rw [e1] at this
    simpa using (Option.some.inj this).symm
   have k2 : its2.toArray[j] = u2 := by
    have : its2[j]? = some its2[j] := List.getElem?_eq_getElem h2
    rw [e2] at this
    simpa using (Option.some.inj this).symm
   rw [k1, k2, show xs.getD j .non = xs[j] by simp [List.getD, g1], show ys.getD j .non = ys[j] by simp [List.getD, g2]]
   exact Z6l ru1 ru2 (List.all_eq_true.mp fx _ (List.getElem_mem _)) (List.all_eq_true.mp fy _ (List.getElem_mem _))
  ·refine Z0s I q ?_
   unfold Zhv
   rw [List.size_toArray, <- hl, hs]
   simp
 ·refine SeqAt.RcNeAt.lists_lengths pl.isList pl2.isList (by simp only [List.size_toArray, bne_iff_ne]; omega) hu X.prog X.w _ _ ?_
  refine Z0s I q ?_
  unfold Zhv
  rw [beq_eq_false_iff_ne.mpr hs]
  rfl
end
def Zpg (t u : TS) : TS := fun D σ H => ∃ Pv : St -> Hp -> Prop, t { D with nx := Pv } σ H /\ ∀ σ' H', Pv σ' H' -> u D σ' H'
section
variable {X : Cx} {st : Stmt} {rest : List Stmt} {t u : TS}
theorem Z0h (h1 : PS X st t) (h2 : PSs X rest u) : PSs X (st :: rest) (Zpg t u) := by
 intro pins s σ H D I h
 obtain ⟨Pv, h, hr⟩ := h
 refine wpAny_execs_cons (thn (h1 pins s σ H { D with nx := Pv } I h) fun f s1 q => ?_)
 cases f with
 | next =>
  obtain ⟨σ', H', I', q⟩ := q
  exact h2 pins s1 σ' H' D I' (hr σ' H' q)
 | ret v => exact q
 | brk => exact q
 | cont => exact q
end
def Zam (kindOf : Str -> Option NameKind) (XN : List Str) (scope : Scope) (N' : List Str) (src : List (Option Nat)) : Bool :=
 (scope.kind == .function) && (scope.names.all fun y => (y.2 != .cell) && (y.2 != .local || scope.names.lookup y.1 == some .local) && (y.2 != .free || ((kindOf y.1 == some .cell || kindOf y.1 == some .free) && scope.names.lookup y.1 != some .local))) &&
 (N'.length == src.length) && ((List.range src.length).all fun i => match src[i]? with
  | some (some j) => (match N'[i]?, XN[j]? with | some x, some y => x == y && scope.names.contains (x, NameKind.free) | _, _ => false)
  | _ => true)
theorem Z0p {X : Cx} {scope : Scope} {N' : List Str} {src : List (Option Nat)} (sc : Scope) (hsc : X.env.scope = sc) (N : List Str) (hN : X.N = N) (h : Zam (fun x => sc.names.lookup x) N scope N' src = true) : CompScope X scope N' src := by
 subst hsc hN
 unfold Zam at h
 simp only [Bool.and_eq_true, List.all_eq_true, beq_iff_eq, bne_iff_ne, ne_eq, Bool.or_eq_true] at h
 obtain ⟨⟨⟨h1, h2⟩, h3⟩, h4⟩ := h
 refine ⟨h1, fun y hy => (h2 y hy).1.1, fun y hy hl => ?_, fun n hn => ?_, fun n hn => ?_, h3, fun i j e => ?_⟩
 ·rcases (h2 y hy).1.2 with z | z
  ·exact absurd hl z
  ·exact z
 ·rcases (h2 _ hn).2 with z | z
  ·exact absurd rfl z
  ·exact z.1
 ·rcases (h2 _ hn).2 with z | z
  ·exact absurd rfl z
  ·exact z.2
 ·have hi : i < src.length := (List.getElem?_eq_some_iff.mp e).1
  have q := h4 i (List.mem_range.mpr hi)
  rw [e] at q
  dsimp only at q
  cases e1 : N'[i]? with
  | none => rw [e1] at q; cases q
  | some x =>
   cases e2 : X.N[j]? with
   | none => rw [e1, e2] at q; cases q
   | some y =>
    rw [e1, e2] at q
    simp only [Bool.and_eq_true, beq_iff_eq] at q
    obtain ⟨rfl, q⟩ := q
    exact ⟨x, rfl, rfl, by simpa using q⟩
def Nx (N i : Nat) (P : Prop) : Prop := ∃ m', m' < N - i /\ m' = N - (i + 1) /\ i + 1 <= N /\ P
theorem nx {N i : Nat} {P : Prop} (h : i < N) (p : P) : Nx N i P := ⟨_, by omega, rfl, h, p⟩
section
variable {x : Str} {σ0 : St} {H : Hp} {g : TG} {tt : TT} {te : TE} {Q : List V -> Hp -> Prop}
theorem Zg0 (Pv : Nat -> List V -> St -> Hp -> Prop) (h0 : Pv 0 [] σ0 H)
  (hs : ∀ i c ys σc H, x.cps[i]? = some c -> i < x.cps.size -> Pv i ys σc H -> ys.length < sizeLine /\ g (.str ⟨#[c]⟩) σc H fun σ2 H2 => tt σ2 H2 fun b H3 =>
   if b = true then te σ2 H3 fun v H4 => Nx x.cps.size i (Pv (i + 1) (ys ++ [v]) σ2 H4) else Nx x.cps.size i (Pv (i + 1) ys σ2 H3))
  (hd : ∀ ys σc H, Pv x.cps.size ys σc H -> Q ys H) :
  ∃ W : Nat -> Nat -> List V -> St -> Hp -> Prop, (∃ m, W 0 m [] σ0 H) /\ ∀ i m ys σc H, W i m ys σc H →
   ((Its x).stop i H /\ Q ys H) ∨ ((Its x).go i H /\ ys.length < sizeLine /\ ∀ v H', (Its x).yld i H v H' -> g v σc H' fun σ2 H2 => tt σ2 H2 fun b H3 =>
    if b = true then te σ2 H3 fun v H4 => ∃ m', m' < m /\ W (i + 1) m' (ys ++ [v]) σ2 H4 else ∃ m', m' < m /\ W (i + 1) m' ys σ2 H3) := by
 refine ⟨fun i m ys σc H => m = x.cps.size - i /\ i <= x.cps.size /\ Pv i ys σc H, ⟨_, rfl, Nat.zero_le _, h0⟩, ?_⟩
 rintro i m ys σc H ⟨rfl, hi, p⟩
 by_cases hlt : i < x.cps.size
 ·have hc : x.cps[i]? = some x.cps[i] := by simp [hlt]
  obtain ⟨z, _⟩ := hs i _ ys σc H hc hlt p
  refine .inr ⟨hlt, z, fun v H' y => ?_⟩
  obtain ⟨e, c, hc', ev⟩ := y
  subst e ev
  exact (hs i c ys σc _ hc' hlt p).2
 ·have e : i = x.cps.size := by omega
  subst e
  exact .inl ⟨rfl, hd ys σc H p⟩
theorem Zc8 {lo : Int} {n : Nat} (Pv : Nat -> List V -> St -> Hp -> Prop) (h0 : Pv 0 [] σ0 H)
  (hs : ∀ i ys σc H, i < n -> Pv i ys σc H -> ys.length < sizeLine /\ g (.int (lo + i)) σc H fun σ2 H2 => tt σ2 H2 fun b H3 =>
   if b = true then te σ2 H3 fun v H4 => Nx n i (Pv (i + 1) (ys ++ [v]) σ2 H4) else Nx n i (Pv (i + 1) ys σ2 H3))
  (hd : ∀ ys σc H, Pv n ys σc H -> Q ys H) :
  ∃ W : Nat -> Nat -> List V -> St -> Hp -> Prop, (∃ m, W 0 m [] σ0 H) /\ ∀ i m ys σc H, W i m ys σc H →
   ((Itr lo n).stop i H /\ Q ys H) ∨ ((Itr lo n).go i H /\ ys.length < sizeLine /\ ∀ v H', (Itr lo n).yld i H v H' -> g v σc H' fun σ2 H2 => tt σ2 H2 fun b H3 =>
    if b = true then te σ2 H3 fun v H4 => ∃ m', m' < m /\ W (i + 1) m' (ys ++ [v]) σ2 H4 else ∃ m', m' < m /\ W (i + 1) m' ys σ2 H3) := by
 refine ⟨fun i m ys σc H => m = n - i /\ i <= n /\ Pv i ys σc H, ⟨_, rfl, Nat.zero_le _, h0⟩, ?_⟩
 rintro i m ys σc H ⟨rfl, hi, p⟩
 by_cases hlt : i < n
 ·obtain ⟨z, _⟩ := hs i ys σc H hlt p
  refine .inr ⟨hlt, z, fun v H' y => ?_⟩
  obtain ⟨e, ev⟩ := y
  subst e ev
  exact (hs i ys σc _ hlt p).2
 ·have e : i = n := by omega
  subst e
  exact .inl ⟨Nat.le_refl _, hd ys σc H p⟩
end
theorem Z02 {H : Hp} {a : Addr} {o : HO} (h : H a = none) : Same H (upd H a o) := fun b u e => by rw [Z0g (Z0i e h)]; exact e
theorem Zli {α : Type} {xs : List α} (h : 0 < xs.length) (i : Int) : ∃ v, v ∈ xs /\ atI xs (i % (xs.length : Int)) = some v := by
 have h0 : 0 <= i % (xs.length : Int) := Int.emod_nonneg _ (by omega)
 have h1 : i % (xs.length : Int) < xs.length := Int.emod_lt_of_pos _ (by omega)
 obtain ⟨j, hj⟩ := Int.eq_ofNat_of_zero_le h0
 have hl : j < xs.length := by omega
 refine ⟨xs[j], List.getElem_mem hl, ?_⟩
 rw [hj]
 exact Z2m (List.getElem?_eq_getElem hl)
theorem Z3p {α : Type} {xs : List α} {i : Int} (h0 : 0 <= i) (h1 : i < xs.length) : ∃ v, v ∈ xs /\ atI xs i = some v := by
 obtain ⟨j, hj⟩ := Int.eq_ofNat_of_zero_le h0
 have hl : j < xs.length := by omega
 refine ⟨xs[j], List.getElem_mem hl, ?_⟩
 rw [hj]
 exact Z2m (List.getElem?_eq_getElem hl)
section
variable {X : Cx} {es : List Expr} {te : TE} {t : TA}
theorem Z1i {c : Const} {j : Nat} {p : Pos} (h : PE X (.Constant c j p) te) (hr : PA X es t) : PA X (.Constant c j p :: es) (Zdd te t) := Z09 h hr rfl
theorem Z0k {x : Str} {p : Pos} (h : PE X (.Name x p) te) (hr : PA X es t) : PA X (.Name x p :: es) (Zdd te t) := Z09 h hr rfl
theorem Zg1 {xs : List Expr} {j : Nat} {p : Pos} (h : PE X (.Tuple xs j p) te) (hr : PA X es t) : PA X (.Tuple xs j p :: es) (Zdd te t) := Z09 h hr rfl
theorem Z40 {f : Expr} {xs : List Expr} {ks : List Keyword} {p : Pos} (h : PE X (.Call f xs ks p) te) (hr : PA X es t) : PA X (.Call f xs ks p :: es) (Zdd te t) := Z09 h hr rfl
end
def Z5j : Expr -> Option V
 | .Constant (.int i) _ _ => some (.int i)
 | .Constant (.str x) _ _ => some (.str x)
 | .Constant (.bool b) _ _ => some (.bl b)
 | .Constant .none _ _ => some .non
 | _ => none
theorem Z8k {X : Cx} : ∀ {es : List Expr} {vs : List V}, es.map Z5j = vs.map some -> PA X es (fun _ H Q => Q vs H)
 | [], [], _ => Z00
 | [], v :: vs, h => by cases h
 | e :: es, [], h => by cases h
 | e :: es, v :: vs, h => by
  rw [List.map_cons, List.map_cons] at h
  injection h with h1 h2
  have ih := Z8k (X := X) h2
  cases e with
  | Constant c j p =>
   cases c with
   | int i => cases h1; exact Z1i Z04 ih
   | str x => cases h1; exact Z1i Z0a ih
   | bool b => cases h1; exact Z1i Z29 ih
   | none => cases h1; exact Z1i Zd1 ih
   | _ => cases h1
  | _ => cases h1
theorem nd1 (x : Str) : [x].Nodup := by simp
section
variable {K : PySem.W.Frag} {a : Addr} {xs : List V} {σ0 : St} {H : Hp} {g : TG} {tt : TT} {te : TE} {Q : List V -> Hp -> Prop}
theorem Z39 (Pv : Nat -> List V -> St -> Hp -> Prop) (h0 : Pv 0 [] σ0 H) (hl : ∀ i ys σc H, Pv i ys σc H -> SqT K H a xs)
  (hs : ∀ i x ys σc H, xs[i]? = some x -> i < xs.length -> Pv i ys σc H -> ys.length < sizeLine /\ g x σc H fun σ2 H2 => tt σ2 H2 fun b H3 =>
   if b = true then te σ2 H3 fun v H4 => Nx xs.length i (Pv (i + 1) (ys ++ [v]) σ2 H4) else Nx xs.length i (Pv (i + 1) ys σ2 H3))
  (hd : ∀ ys σc H, Pv xs.length ys σc H -> Q ys H) :
  ∃ W : Nat -> Nat -> List V -> St -> Hp -> Prop, (∃ m, W 0 m [] σ0 H) /\ ∀ i m ys σc H, W i m ys σc H →
   ((Itt K a).stop i H /\ Q ys H) ∨ ((Itt K a).go i H /\ ys.length < sizeLine /\ ∀ v H', (Itt K a).yld i H v H' -> g v σc H' fun σ2 H2 => tt σ2 H2 fun b H3 =>
    if b = true then te σ2 H3 fun v H4 => ∃ m', m' < m /\ W (i + 1) m' (ys ++ [v]) σ2 H4 else ∃ m', m' < m /\ W (i + 1) m' ys σ2 H3) := by
 refine ⟨fun i m ys σc H => m = xs.length - i /\ i <= xs.length /\ Pv i ys σc H, ⟨_, rfl, Nat.zero_le _, h0⟩, ?_⟩
 rintro i m ys σc H ⟨rfl, hi, p⟩
 have q := hl i ys σc H p
 by_cases hlt : i < xs.length
 ·have hx : xs[i]? = some xs[i] := List.getElem?_eq_getElem hlt
  obtain ⟨z, _⟩ := hs i _ ys σc H hx hlt p
  refine .inr ⟨⟨xs, xs[i], q, hx⟩, z, fun v H' y => ?_⟩
  obtain ⟨e, y⟩ := y
  subst e
  exact (hs i v ys σc _ (y xs q) hlt p).2
 ·have e : i = xs.length := by omega
  subst e
  exact .inl ⟨⟨xs, q, Nat.le_refl _⟩, hd ys σc H p⟩
theorem Z2w (Pv : Nat -> List V -> St -> Hp -> Prop) (h0 : Pv 0 [] σ0 H) (hl : ∀ i ys σc H, Pv i ys σc H -> SqL K H a xs)
  (hs : ∀ i x ys σc H, xs[i]? = some x -> i < xs.length -> Pv i ys σc H -> ys.length < sizeLine /\ g x σc H fun σ2 H2 => tt σ2 H2 fun b H3 =>
   if b = true then te σ2 H3 fun v H4 => Nx xs.length i (Pv (i + 1) (ys ++ [v]) σ2 H4) else Nx xs.length i (Pv (i + 1) ys σ2 H3))
  (hd : ∀ ys σc H, Pv xs.length ys σc H -> Q ys H) :
  ∃ W : Nat -> Nat -> List V -> St -> Hp -> Prop, (∃ m, W 0 m [] σ0 H) /\ ∀ i m ys σc H, W i m ys σc H →
   ((Itl K a).stop i H /\ Q ys H) ∨ ((Itl K a).go i H /\ ys.length < sizeLine /\ ∀ v H', (Itl K a).yld i H v H' -> g v σc H' fun σ2 H2 => tt σ2 H2 fun b H3 =>
    if b = true then te σ2 H3 fun v H4 => ∃ m', m' < m /\ W (i + 1) m' (ys ++ [v]) σ2 H4 else ∃ m', m' < m /\ W (i + 1) m' ys σ2 H3) := by
 refine ⟨fun i m ys σc H => m = xs.length - i /\ i <= xs.length /\ Pv i ys σc H, ⟨_, rfl, Nat.zero_le _, h0⟩, ?_⟩
 rintro i m ys σc H ⟨rfl, hi, p⟩
 have q := hl i ys σc H p
 by_cases hlt : i < xs.length
 ·have hx : xs[i]? = some xs[i] := List.getElem?_eq_getElem hlt
  obtain ⟨z, _⟩ := hs i _ ys σc H hx hlt p
  refine .inr ⟨⟨xs, xs[i], q, hx⟩, z, fun v H' y => ?_⟩
  obtain ⟨e, y⟩ := y
  subst e
  exact (hs i v ys σc _ (y xs q) hlt p).2
 ·have e : i = xs.length := by omega
  subst e
  exact .inl ⟨⟨xs, q, Nat.le_refl _⟩, hd ys σc H p⟩
end
theorem Z1r {X : Cx} {K : PySem.W.Frag} (hK : X.K = K) : Z3k X (.builtin "isinstance") (fun xs H Q => ∃ x T ty b, xs = [x, .ty T] /\ TyOf K H x ty /\ PySem.W.kitOne K ty (.type T) = some b /\ Q (.bl b) H) := by
 subst hK
 exact Z12
theorem Zlj {X : Cx} {e st : Expr} {te ts : TE} {pos p2 : Pos} (he : PE X e te) (hst : PE X st ts) : PE X (.Subscript e (.Slice none none (some st) p2) pos)
  (fun σ H Q => te σ H fun x H1 => ts σ H1 fun y H2 => y = .int (-1) /\ ∃ a xs, x = .ref a /\ SqL X.K H2 a xs /\ ∀ p, H2 p = none -> Q (.ref p) (upd H2 p (.lst xs.reverse))) := by
 intro pins s σ H Q I h
 refine Subscript_ (thn (he pins s σ H _ I h) fun v s1 ⟨x, H1, I1, r1, q1⟩ => ?_)
 refine wpAny_Slice ?_
 rw [evalPart_none]
 refine wpAny_pure (wpAny_pure ?_)
 rw [evalPart_some]
 refine thn (hst pins s1 σ H1 _ I1 q1) fun vs s3 ⟨y, H3, I3, ry, ey, a, xs, ex, hx, q⟩ => ?_
 subst ey ex
 cases r1
 obtain ⟨t, rfl⟩ := ry
 have I4 : Inv X pins σ H3 { s3 with heap := s3.heap.push { cls := .type "slice", data := .fields #[.none, .none, .int (-1) t] } } := I3.kept (t' := s3.toks) fun b ob q => Heap.get?_push_of_some _ q
 obtain ⟨its, r, ht, hz⟩ := I4.list hx
 have hlen := r.length
 refine tail_any (ops := [.ref a, .ref s3.heap.objs.size]) ht.isList.typeIs slot_list_getitem.lookup (wpAny_getItem_list_slice ht.isList (Heap.IsSliceOf.new ..) .none .none (.int (-1) t) (by simp) ?_ (by rw [List.size_toArray] <;> omega)) (by with_unfolding_all rfl)
 rw [PySem.W.krv_pick]
 refine ⟨.ref _, _, I4.laid (t' := s3.toks) (o := .lst xs.reverse) (fun b ob q => Heap.get?_push_of_some _ q) (Nat.le_refl _) ?_, rfl, q _ (I4.hok.fresh (Nat.le_refl _))⟩
 exact ⟨by rw [List.length_reverse]; exact hz, its.reverse, 0, r.reverse, by
  rw [show (its.toArray.toList.reverse).toArray = its.reverse.toArray by simp]
  exact Heap.get?_push_size _ rfl⟩
theorem Z3a {α : Type} {l : List α} {i : Nat} {c : α} (p : α -> Bool) (h : l[i]? = some c) : (l.take (i + 1)).filter p = (l.take i).filter p ++ (if p c = true then [c] else []) := by
 rw [List.take_add_one, h, List.filter_append]
 cases hp : p c <;> simp [hp]
section
variable {X : Cx} {K : PySem.W.Frag}
theorem Zdt (hK : X.K = K) : IxR X (Zon K) := by subst hK; exact Z1c
end
section
variable {X : Cx}
end
inductive PV where
 | at (v : V)
 | tup (xs : List PV)
mutual
def Z5k : PV -> PV -> Bool
 | .at v, .at w => eqV v w
 | .tup xs, .tup ys => Z1t xs ys
 | .at _, .tup _ => false
 | .tup _, .at _ => false
def Z1t : List PV -> List PV -> Bool
 | [], [] => true
 | x :: xs, y :: ys => Z5k x y && Z1t xs ys
 | [], _ :: _ => false
 | _ :: _, [] => false
end
mutual
inductive IsPV (K : PySem.W.Frag) (H : Hp) : Nat -> V -> PV -> Prop where
 | at {n : Nat} {v : V} (f : Z2e v = true) : IsPV K H n v (.at v)
 | tup {n : Nat} {a : Addr} {vs : List V} {ts : List PV} (h : SqT K H a vs) (r : IsPVs K H n vs ts) : IsPV K H (n + 1) (.ref a) (.tup ts)
inductive IsPVs (K : PySem.W.Frag) (H : Hp) : Nat -> List V -> List PV -> Prop where
 | nil {n : Nat} : IsPVs K H n [] []
 | cons {n : Nat} {v : V} {vs : List V} {t : PV} {ts : List PV} (h : IsPV K H n v t) (r : IsPVs K H n vs ts) : IsPVs K H n (v :: vs) (t :: ts)
end
theorem IsPVs.length {K : PySem.W.Frag} {H : Hp} {n : Nat} : ∀ {vs : List V} {ts : List PV}, IsPVs K H n vs ts -> vs.length = ts.length
 | _, _, .nil => rfl
 | _, _, .cons _ r => congrArg (· + 1) r.length
theorem IsPVs.get {K : PySem.W.Frag} {H : Hp} {n : Nat} : ∀ {vs : List V} {ts : List PV} {j : Nat} {v : V}, IsPVs K H n vs ts -> vs[j]? = some v -> ∃ t, ts[j]? = some t /\ IsPV K H n v t
 | _, _, _, _, .nil, e => by simp at e
 | _, _, 0, _, .cons h _, e => by simp at e; subst e; exact ⟨_, rfl, h⟩
 | _, _, j + 1, _, .cons _ r, e => by
  rw [List.getElem?_cons_succ] at e
  obtain ⟨t, e2, h⟩ := r.get e
  exact ⟨t, by rw [List.getElem?_cons_succ]; exact e2, h⟩
theorem Zan : ∀ {v : V}, Z2e v = true -> eqV v v = true := by
 intro v h
 cases v with
 | non => rfl
 | bl b => exact beq_self_eq_true b
 | int i => exact beq_self_eq_true i
 | str x => exact beq_self_eq_true x
 | _ => cases h
theorem Z8l : ∀ (ts us : List PV), ((List.range (min ts.length us.length)).all (fun j => Z5k (ts.getD j (.at .non)) (us.getD j (.at .non))) && ts.length == us.length) = Z1t ts us
 | [], [] => by unfold Z1t; rfl
 | [], _ :: _ => by unfold Z1t; simp
 | _ :: _, [] => by unfold Z1t; simp
 | t :: ts, u :: us => by
  have ih := Z8l ts us
  unfold Z1t
  rw [<- ih]
  simp only [List.length_cons, Nat.add_min_add_right, List.range_succ_eq_map, List.all_cons, List.all_map, Bool.and_assoc]
  simp [Function.comp_def]
section
variable {X : Cx} {pins : List (Addr × Obj)} {σ : St} {H : Hp} {s : Shared}
theorem Z5l {n : Nat} (ih : ∀ {v : V} {t u : PV}, IsPV X.K H n v t -> IsPV X.K H n v u -> Z5k t u = true) : ∀ (vs : List V) {ts us : List PV}, IsPVs X.K H n vs ts -> IsPVs X.K H n vs us -> Z1t ts us = true := by
 intro vs
 induction vs with
 | nil =>
  intro ts us h h'
  cases h
  cases h'
  unfold Z1t
  rfl
 | cons v vs ihv =>
  intro ts us h h'
  cases h with
  | cons a b =>
   cases h' with
   | cons a' b' =>
    unfold Z1t
    rw [ih a a', ihv b b']
    rfl
theorem Ziv (I : Inv X pins σ H s) : ∀ (n : Nat) {v : V} {t u : PV}, IsPV X.K H n v t -> IsPV X.K H n v u -> Z5k t u = true := by
 intro n
 induction n with
 | zero =>
  intro v t u h h'
  cases h with
  | «at» f =>
   cases h' with
   | «at» g => unfold Z5k; exact Zan f
 | succ n ih =>
  intro v t u h h'
  cases h with
  | «at» f =>
   cases h' with
   | «at» g => unfold Z5k; exact Zan f
   | tup a b => exact absurd (show false = true from f) Bool.false_ne_true
  | tup a r =>
   cases h' with
   | «at» g => exact absurd (show false = true from g) Bool.false_ne_true
   | tup a' r' =>
    have e := I.tuple_inj a a'
    subst e
    unfold Z5k
    exact Z5l ih _ r r'
theorem Zg2 (I : Inv X pins σ H s) {n : Nat} {vs : List V} {ts us : List PV} (h : IsPVs X.K H n vs ts) (h' : IsPVs X.K H n vs us) : Z1t ts us = true := Z5l (Ziv I n) _ h h'
theorem Zlk (I : Inv X pins σ H s) {n : Nat} {A : Around} {vs ws : List V} {ts us : List PV} {its its2 : List Value} (r : IsPVs X.K H n vs ts) (r' : IsPVs X.K H n ws us) (v1 : Vals vs its) (v2 : Vals ws its2)
  (ih : ∀ {x y : V} {t u : PV} {v w : Value}, IsPV X.K H n x t -> IsPV X.K H n y u -> RelV x v -> RelV y w -> SeqAt.EqAt A s v w (Z5k t u)) :
  (∀ j (h1 : j < its.toArray.size) (h2 : j < its2.toArray.size), SeqAt.EqAt A s its.toArray[j] its2.toArray[j] ((fun j => Z5k (ts.getD j (.at .non)) (us.getD j (.at .non))) j)) ∧
  ((List.range (min its.toArray.size its2.toArray.size)).all (fun j => Z5k (ts.getD j (.at .non)) (us.getD j (.at .non))) && its.toArray.size == its2.toArray.size) = Z1t ts us := by
 have l1 := v1.length
 have l2 := v2.length
 have l3 := r.length
 have l4 := r'.length
 constructor
 ·intro j h1 h2
  simp only [List.size_toArray] at h1 h2
  have g1 : vs[j]? = some vs[j] := List.getElem?_eq_getElem (by omega)
  have g2 : ws[j]? = some ws[j] := List.getElem?_eq_getElem (by omega)
  obtain ⟨u1, e1, ru1⟩ := v1.get g1
  obtain ⟨u2, e2, ru2⟩ := v2.get g2
  obtain ⟨t1, f1, p1⟩ := r.get g1
  obtain ⟨t2, f2, p2⟩ := r'.get g2
  have k1 : its.toArray[j] = u1 := by
   have : its[j]? = some its[j] := List.getElem?_eq_getElem h1
   rw [e1] at this
   simpa using (Option.some.inj this).symm
  have k2 : its2.toArray[j] = u2 := by
   have : its2[j]? = some its2[j] := List.getElem?_eq_getElem h2
   rw [e2] at this
   simpa using (Option.some.inj this).symm
  rw [k1, k2]
  show SeqAt.EqAt A s u1 u2 (Z5k (ts.getD j (.at .non)) (us.getD j (.at .non)))
  rw [show ts.getD j (.at .non) = t1 by simp [List.getD, f1], show us.getD j (.at .non) = t2 by simp [List.getD, f2]]
  exact ih p1 p2 ru1 ru2
 ·rw [List.size_toArray, List.size_toArray, <- l1, <- l2, l3, l4]
  exact Z8l ts us
theorem Zg3 (I : Inv X pins σ H s) {n : Nat} {A : Around} (hu : A.units + (n + 1) < cLine)
  (ih : ∀ (A : Around), A.units + n < cLine -> ∀ {x y : V} {t u : PV} {v w : Value}, IsPV X.K H n x t -> IsPV X.K H n y u -> RelV x v -> RelV y w -> SeqAt.EqAt A s v w (Z5k t u))
  {a b : Addr} {vs ws : List V} {ts us : List PV} {its its2 : List Value} (h : SqT X.K H a vs) (r : IsPVs X.K H n vs ts) (h' : SqT X.K H b ws) (r' : IsPVs X.K H n ws us)
  (v1 : Vals vs its) (pl : IsTup s.heap a its.toArray) (v2 : Vals ws its2) (pl2 : IsTup s.heap b its2.toArray) : SeqAt.EqAt A s (.ref a) (.ref b) (Z1t ts us) := by
 by_cases hab : a = b
 ·subst hab
  have e := I.tuple_inj h h'
  subst e
  rw [Zg2 I r r']
  exact SeqAt.EqAt.same _
 ·obtain ⟨e1, e2⟩ := Zlk (A := A.in1) I r r' v1 v2 (fun hx hy rx ry => ih A.in1 (by show A.units + 1 + n < cLine; omega) hx hy rx ry)
  rw [<- e2]
  exact SeqAt.EqAt.of_refs hab (SeqAt.RcAt.tuples pl pl2 (by omega) e1)
theorem Ziw (I : Inv X pins σ H s) : ∀ (n : Nat) (A : Around), A.units + n < cLine -> ∀ {x y : V} {t u : PV} {v w : Value}, IsPV X.K H n x t -> IsPV X.K H n y u -> RelV x v -> RelV y w -> SeqAt.EqAt A s v w (Z5k t u) := by
 intro n
 induction n with
 | zero =>
  intro A hu x y t u v w hx hy rx ry
  cases hx with
  | «at» f =>
   cases hy with
   | «at» g => unfold Z5k; exact Z6l rx ry f g
 | succ n ih =>
  intro A hu x y t u v w hx hy rx ry
  have hu0 : A.units < cLine := by omega
  cases hx with
  | «at» f =>
   cases hy with
   | «at» g => unfold Z5k; exact Z6l rx ry f g
   | tup h r =>
    cases ry
    obtain ⟨its, _, pl, _⟩ := I.tuple h
    unfold Z5k
    cases x with
    | non => cases rx; exact SeqAt.EqAt.none_tuple pl hu0
    | bl b => cases rx; exact SeqAt.EqAt.bool_tuple b pl hu0
    | int i => obtain ⟨k, rfl⟩ := rx; exact SeqAt.EqAt.int_tuple i k pl hu0
    | str z => obtain ⟨k, rfl⟩ := rx; exact SeqAt.EqAt.str_tuple z k pl hu0
    | _ => cases f
  | tup h r =>
   cases rx
   obtain ⟨its, v1, pl, _⟩ := I.tuple h
   cases hy with
   | «at» g =>
    unfold Z5k
    cases y with
    | non => cases ry; exact SeqAt.EqAt.tuple_none pl hu0
    | bl b => cases ry; exact SeqAt.EqAt.tuple_bool b pl hu0
    | int i => obtain ⟨k, rfl⟩ := ry; exact SeqAt.EqAt.tuple_int i k pl hu0
    | str z => obtain ⟨k, rfl⟩ := ry; exact SeqAt.EqAt.tuple_str z k pl hu0
    | _ => cases g
   | tup h' r' =>
    cases ry
    obtain ⟨its2, v2, pl2, _⟩ := I.tuple h'
    unfold Z5k
    exact Zg3 I hu ih h r h' r' v1 pl v2 pl2
end
section
variable {X : Cx}
def Zph (K : PySem.W.Frag) (n : Nat) (neg : Bool) : R2 := fun x y H Q => ∃ a b vs ws ts us, x = .ref a /\ y = .ref b /\ SqT K H a vs /\ IsPVs K H n vs ts /\ SqT K H b ws /\ IsPVs K H n ws us /\ Q (.bl (if neg then !Z1t ts us else Z1t ts us)) H
theorem Zdu (n : Nat) (hu : X.A.units + (n + 1) < cLine) : OpR X (compareOp .NotEq) (Zph X.K n true) := by
 intro pins s σ H x y v u Q I rx ry h
 obtain ⟨a, b, vs, ws, ts, us, rfl, rfl, ha, r, hb, r', q⟩ := h
 cases rx
 cases ry
 obtain ⟨its, v1, pl, _⟩ := I.tuple ha
 obtain ⟨its2, v2, pl2, _⟩ := I.tuple hb
 obtain ⟨e1, e2⟩ := Zlk (A := X.A.in1) I r r' v1 v2 (fun hx hy rx ry => Ziw I n X.A.in1 (by show X.A.units + 1 + n < cLine; omega) hx hy rx ry)
 refine SeqAt.RcNeAt.tuples pl pl2 (by omega) e1 X.prog X.w _ _ (Z0s I q ?_)
 show (!Z1t ts us) = _
 rw [e2]
end
end L2
namespace L2
open PySem PySem.Spec PyProof.Rows PySem.Builtin PySem.Builtin.Str
theorem Zix {n : Nat} {j : Int} (h : (n : Int) <= j) : (strSliceIndices none (some j) 1 n).length = n := by
 unfold strSliceIndices sliceRange
 simp only [show (1 : Int) > 0 by decide, if_true, List.length_map, List.length_range]
 split <;> (try split) <;> (try split) <;> (try simp only [Int.ediv_one]) <;> omega
theorem Ziy {x : Str} {j : Int} (hx : 0 < x.length) (hj : 1 <= j) : 0 < (Txt.slice x none (some j)).length := by
 have hl : x.cps.toList.length = x.length := by simp [Str.length]
 by_cases h : j <= x.length
 ·have e := beq_iff_eq.mp (slice_closes_to (x := x) (j := j) ⟨by omega, by rw [hl]; exact h⟩)
  rw [e]
  show 0 < (List.toArray _).size
  rw [List.size_toArray, List.length_take, List.length_drop, hl]
  omega
 ·have e : Txt.slice x none (some j) = x := by
   unfold Txt.slice
   rw [Zix (show ((x.length : Nat) : Int) <= j by omega)]
   simp
  rw [e]; exact hx
theorem Zhw {x : Str} {j : Int} (hj : 0 <= j) : ((Txt.slice x none (some j)).length : Int) <= j := by
 have hl : x.cps.toList.length = x.length := by simp [Str.length]
 by_cases h : j <= x.length
 ·have e := beq_iff_eq.mp (slice_closes_to (x := x) (j := j) ⟨hj, by rw [hl]; exact h⟩)
  rw [e]
  show (((List.toArray _).size : Nat) : Int) <= j
  rw [List.size_toArray, List.length_take, List.length_drop, hl]
  omega
 ·have := Txt.slice_le x none (some j)
  omega
theorem Zg4 {x : Str} {i : Int} (h0 : 0 <= i) (h : i <= x.length) : ((Txt.slice x (some i) none).length : Int) = x.length - i := by
 have hl : x.cps.toList.length = x.length := by simp [Str.length]
 rw [slice_from_eq h0 h rfl]
 show (((List.toArray _).size : Nat) : Int) = _
 rw [List.size_toArray, List.length_take, List.length_drop, hl]
 omega
end L2
namespace L2
open PySem PySem.Spec PyProof.Rows
def Zg5 : Expr -> Option (List V)
 | .List es _ => es.mapM Z5j
 | _ => none
theorem Zg6 : ∀ {es : List Expr} {vs : List V}, es.mapM Z5j = some vs -> es.map Z5j = vs.map some := by
 intro es
 induction es with
 | nil =>
  intro vs h
  rw [List.mapM_nil] at h
  have : vs = [] := (Option.some.inj h).symm
  subst this
  rfl
 | cons e es ih =>
  intro vs h
  rw [List.mapM_cons] at h
  cases he : Z5j e with
  | none => rw [he] at h; cases h
  | some v =>
   cases hr : es.mapM Z5j with
   | none => rw [he, hr] at h; cases h
   | some r =>
    rw [he, hr] at h
    have : vs = v :: r := (Option.some.inj h).symm
    subst this
    rw [List.map_cons, List.map_cons, he, ih hr]
theorem Z41 {X : Cx} {e : Expr} {vs : List V} (h : Zg5 e = some vs) : PE X e (Znb (fun _ H Q => Q vs H)) := by
 cases e with
 | List es p => exact Z1h (Z8k (Zg6 h))
 | _ => cases h
theorem Z5m {X : Cx} {st : Stmt} {i : Nat} {x : Str} {vs : List V} {idx : Expr} {tb : TE} (hN : X.N.Nodup) (hi : X.N[i]? = some x) (hx : Loc X.env.scope x)
  (hst : ∃ p' es p1 p2 p3, st = .Assign [.Name x p'] (.Subscript (.List es p1) idx p2) p3 /\ es.mapM Z5j = some vs) (hb : PE X idx tb) (hs : Zdi idx)
  (hf : X.fn x = true ∨ X.env.scope.names.lookup x = some .local) : PS X st (Zkx (tOp (Zom X.K) (Znb (fun _ H Q => Q vs H)) tb) (Z83 i)) := by
 obtain ⟨p', es, p1, p2, p3, e, h⟩ := hst
 subst e
 exact Z08 hN hi hx (Z10 Z1e (Z41 (e := .List es p1) h) hb hs) rfl hf
section
variable {X : Cx} {CX : CXT} {k : Nat} {E : XK} {x : Str} {p pos : Pos} {e : Expr} {es : List Expr} {tf : TE} {t : TA} {Pf : Addr -> Prop} {sp : Addr -> Sp}
def Zll (Pf : Addr -> Prop) (sp : Addr -> Sp) (E : XK) (tf : TE) (t : TA) : TE := fun σ H Q => tf σ H fun fv H1 => ∃ f, fv = .ref f /\ Pf f /\ t σ H1 fun vs H2 => sp f vs H2 Q E
theorem Zao (hF : ∀ f, Pf f -> ∃ fd ps, FnOk X.prog X.w X.K X.mg X.base CX k f fd ps (sp f) /\ PySem.W.keepIn X.K (.ref f) = true /\ Binds X.K fd ps []) (hr : Room k X.A) (hx : Zad CX X E) (hfn : PE X (.Name x p) tf)
  (ha : PA X (e :: es) t) (he : starEach (e :: es) X.env = (false, eval e X.env) :: starEach es X.env := by rfl) (hpl : (backTo pos (starEach es X.env)).any (·.1) = false := by rfl) :
  PE X (.Call (.Name x p) (e :: es) [] pos) (Zll Pf sp E tf t) := by
 intro pins s σ H Q I h
 refine wpAny_Call_Name_kw (thn (hfn pins s σ H _ I h) fun u s1 ⟨v, H1, I1, r1, f, ev, hp, q1⟩ => ?_)
 subst ev
 cases r1
 obtain ⟨fd, ps, F, hk, hb⟩ := hF f hp
 refine PySem.W.callWith_K (h₀ := X.base) I.ok.mod.kin hk (thn (ha pos pins s1 σ H1 _ I1 q1) fun us s2 ⟨vs, H2, I2, r, q⟩ => ⟨I2.kIn, ?_⟩) he hpl
 exact Zhp (dvs := []) F hr hb .nil hx I2 r (by rw [List.append_nil]; exact q)
end
inductive Th where
 | at (v : V)
 | tup (xs : List Th)
 | lst (xs : List Th)
def smallV : V -> Bool
 | .str x => decide (x.length <= 1000)
 | v => Z2e v
theorem smallV.flat {v : V} (h : smallV v = true) : Z2e v = true := by
 cases v with
 | str x => rfl
 | _ => exact h
mutual
inductive IsTh (H : Hp) : V -> Th -> Prop where
 | at {v : V} (f : smallV v = true) : IsTh H v (.at v)
 | tup {a : Addr} {vs : List V} {ts : List Th} (h : H a = some (.tup vs)) (r : IsThs H vs ts) : IsTh H (.ref a) (.tup ts)
 | lst {a : Addr} {vs : List V} {ts : List Th} (h : H a = some (.lst vs)) (r : IsThs H vs ts) : IsTh H (.ref a) (.lst ts)
inductive IsThs (H : Hp) : List V -> List Th -> Prop where
 | nil : IsThs H [] []
 | cons {v : V} {vs : List V} {t : Th} {ts : List Th} (h : IsTh H v t) (r : IsThs H vs ts) : IsThs H (v :: vs) (t :: ts)
end
def Kp (H H' : Hp) : Prop := ∀ a o, H a = some o -> (∀ kvs, o ≠ .dK kvs) -> H' a = some o
theorem Kp.of {H H1 : Hp} (a : Same H H1) : Kp H H1 := fun c o e _ => a c o e
mutual
theorem IsTh.kp {H H' : Hp} (k : Kp H H') : ∀ {v : V} {t : Th}, IsTh H v t -> IsTh H' v t
 | _, _, .at f => .at f
 | _, _, .tup h r => .tup (k _ _ h (fun _ z => by cases z)) (IsThs.kp k r)
 | _, _, .lst h r => .lst (k _ _ h (fun _ z => by cases z)) (IsThs.kp k r)
theorem IsThs.kp {H H' : Hp} (k : Kp H H') : ∀ {vs : List V} {ts : List Th}, IsThs H vs ts -> IsThs H' vs ts
 | _, _, .nil => .nil
 | _, _, .cons h r => .cons (IsTh.kp k h) (IsThs.kp k r)
end
theorem IsThs.len {H : Hp} : ∀ (vs : List V) {ts : List Th}, IsThs H vs ts -> vs.length = ts.length := by
 intro vs
 induction vs with
 | nil => intro ts h; cases h; rfl
 | cons v vs ih =>
  intro ts h
  cases h with
  | cons a b => rw [List.length_cons, List.length_cons, ih b]
theorem IsThs.app {H : Hp} : ∀ (vs : List V) {ws : List V} {ts us : List Th}, IsThs H vs ts -> IsThs H ws us -> IsThs H (vs ++ ws) (ts ++ us) := by
 intro vs
 induction vs with
 | nil => intro ws ts us h g; cases h; exact g
 | cons v vs ih =>
  intro ws ts us h g
  cases h with
  | cons a b => exact .cons a (ih b g)
inductive KEnt (w : World) : List DictEntry -> List (Str × V) -> Prop where
 | nil : KEnt w [] []
 | cons {x : Str} {tk : Tok} {u : Value} {v : V} {es : List DictEntry} {kvs : List (Str × V)} (r : RelV v u) (q : KEnt w es kvs) : KEnt w (⟨PyData.keyHash w.params x, .str x tk, u⟩ :: es) ((x, v) :: kvs)
structure KDict (K : PySem.W.Frag) (w : World) (a : Addr) (kvs : List (Str × V)) : Prop where
 ex : ∃ (o : Obj) (es : Array DictEntry) (ep : Nat), K.lookup a = some o /\ o.cls = .type "dict" /\ o.dict = none /\ o.slots = #[] /\ o.data = .dict es ep /\ KEnt w es.toList kvs
 nd : (kvs.map (·.1)).Nodup
 sm : (a == sysModules) = false
def Zdv (kvs : List (Str × V)) : List (Key × V) := kvs.map fun p => (Sum.inr p.1, p.2)
def Zcx (kvs : List (Str × V)) (t : Str) : Option V := Z6a (Zdv kvs) (Sum.inr t)
theorem KEnt.pairs {P : Program} {w : World} : ∀ (es : List DictEntry) {kvs : List (Str × V)}, KEnt w es kvs →
  ∃ vs : List (Key × Value), KV (Zdv kvs) vs /\ Pairs (Z0z P w) es vs /\ (∀ e ∈ es, ∃ k, (Z0z P w).is k e.key = true /\ e.hash = (Z0z P w).hash k) /\ vs.map (·.1) = kvs.map fun p => (Sum.inr p.1 : Key) := by
 intro es
 induction es with
 | nil =>
  intro kvs h
  cases h
  exact ⟨[], .nil, .nil, (fun e he => absurd he List.not_mem_nil), rfl⟩
 | cons e es ih =>
  intro kvs h
  cases h with
  | @cons x tk u v _ kvs' r q =>
   obtain ⟨vs, h1, h2, h3, h4⟩ := ih q
   refine ⟨(Sum.inr x, u) :: vs, .cons ⟨rfl, r⟩ h1, .cons (Z3h P w x tk) rfl h2, fun e he => ?_, by rw [List.map_cons, List.map_cons, h4]⟩
   rcases List.mem_cons.mp he with z | z
   ·subst z
    exact ⟨Sum.inr x, Z3h P w x tk, rfl⟩
   ·exact h3 e z
theorem Zdw {kvs : List (Str × V)} (h : (kvs.map (·.1)).Nodup) : (kvs.map fun p => (Sum.inr p.1 : Key)).Nodup := by
 have e : (kvs.map fun p => (Sum.inr p.1 : Key)) = (kvs.map (·.1)).map Sum.inr := by rw [List.map_map]; rfl
 rw [e]
 exact List.Pairwise.map _ (fun a b hab z => hab (by injection z)) h
theorem KDict.of {X : Cx} {pins : List (Addr × Obj)} {σ : St} {H : Hp} {s : Shared} {a : Addr} {kvs : List (Str × V)} (I : Inv X pins σ H s) (d : KDict X.K X.w a kvs) :
  ∃ vs, KV (Zdv kvs) vs /\ s.heap.DictOf (Z0z X.prog X.w) a vs := by
 obtain ⟨⟨o, es, ep, h1, h2, h3, h4, h5, h6⟩, nd, _⟩ := d
 obtain ⟨vs, q1, q2, q3, q4⟩ := h6.pairs (P := X.prog)
 refine ⟨vs, q1, o, es, ep, I.kIn a o h1, ⟨h2, h3, h4⟩, h5, fun e he => q3 e (by simpa using he), q2, ?_⟩
 rw [q4]
 exact Zdw nd
section
variable {X : Cx} {o e f : Expr} {apos cpos : Pos} {td ty tx : TE}
def Zlm (K : PySem.W.Frag) (w : World) (td ty : TE) : TE := fun σ H Q => td σ H fun x H1 => ∃ a kvs, x = .ref a /\ KDict K w a kvs /\ ty σ H1 fun y H2 => ∃ t, y = .str t /\ Q ((Zcx kvs t).getD .non) H2
def Zln (K : PySem.W.Frag) (w : World) (td ty tx : TE) : TE := fun σ H Q => td σ H fun x H1 => ∃ a kvs, x = .ref a /\ KDict K w a kvs /\ ty σ H1 fun y H2 => ∃ t, y = .str t /\ tx σ H2 fun z H3 => Q ((Zcx kvs t).getD z) H3
theorem Zlo {pins : List (Addr × Obj)} {σ : St} {H : Hp} {s : Shared} {a : Addr} {kvs : List (Str × V)} (I : Inv X pins σ H s) (d : KDict X.K X.w a kvs) :
  s.TypeIs (.ref a) "dict" /\ ∀ b, Value.ref a = .ref b -> ∃ ob, s.heap.get? b = some ob /\ ob.dict = none := by
 obtain ⟨vs, _, dd⟩ := d.of I
 refine ⟨dd.typeIs, fun b q => ?_⟩
 cases q
 obtain ⟨ob, _, _, h1, h2, _⟩ := dd
 exact ⟨ob, h1, h2.2.1⟩
theorem Zg7 (ho : PE X o td) (he : PE X e ty) (m : M1 X o "get" apos e cpos) : PE X (.Call (.Attribute o "get" apos) [e] [] cpos) (Zlm X.K X.w td ty) := by
 intro pins s σ H Q I h
 refine wpAny_Call_method m.base m.few m.line PySem.F.plainAttrs_dict PySem.F.slot_dict_get PySem.F.type_dict_get (thn (ho pins s σ H _ I h) fun u s1 ⟨x, H1, I1, rx, a, kvs, ex, d, q1⟩ => ?_)
 subst ex
 obtain rfl : u = Value.ref a := rx
 obtain ⟨t1, t2⟩ := Zlo I1 d
 refine ⟨t1, t2, ?_⟩
 rw [m.trees]
 refine Calls.callWith_builtin rfl (Calls.evalArgs_plain (Calls.spliced_cons (thn (he pins s1 σ H1 _ I1 q1) fun iv s2 ⟨y, H2, I2, ry, t, ey, q2⟩ => Calls.spliced_nil ?_)))
 subst ey
 obtain ⟨vs, rel, dd⟩ := d.of I2
 refine call_meetsIn PySem.F.slot_dict_get dd.typeIs PySem.F.entry_dict_get (PySem.F.args_dict_get_2 _ _) (meets_dict_get (Z0z X.prog X.w) a (Zc5 (k := Sum.inr t) ry) d.sm) ⟨_, dd.mapOf, ⟨(Zcx kvs t).getD .non, H2, I2.tok _, ?_, q2⟩⟩
 exact (rel.val (Sum.inr t)).getD rfl
theorem Zg8 (ho : PE X o td) (he : PE X e ty) (hf : PE X f tx) (m : M2 X o "get" apos e f cpos) : PE X (.Call (.Attribute o "get" apos) [e, f] [] cpos) (Zln X.K X.w td ty tx) := by
 intro pins s σ H Q I h
 refine wpAny_Call_method m.base m.few m.line PySem.F.plainAttrs_dict PySem.F.slot_dict_get PySem.F.type_dict_get (thn (ho pins s σ H _ I h) fun u s1 ⟨x, H1, I1, rx, a, kvs, ex, d, q1⟩ => ?_)
 subst ex
 obtain rfl : u = Value.ref a := rx
 obtain ⟨t1, t2⟩ := Zlo I1 d
 refine ⟨t1, t2, ?_⟩
 rw [m.trees]
 refine Calls.callWith_builtin rfl (Calls.evalArgs_plain (Calls.spliced_cons (thn (he pins s1 σ H1 _ I1 q1) fun iv s2 ⟨y, H2, I2, ry, t, ey, q2⟩ =>
  Calls.spliced_cons (thn (hf pins s2 σ H2 _ I2 q2) fun fv s3 ⟨z, H3, I3, rz, q3⟩ => Calls.spliced_nil ?_))))
 subst ey
 obtain ⟨vs, rel, dd⟩ := d.of I3
 refine call_meetsIn PySem.F.slot_dict_get dd.typeIs PySem.F.entry_dict_get (PySem.F.args_dict_get_3 _ _ _) (meets_dict_get_default (Z0z X.prog X.w) a (Zc5 (k := Sum.inr t) ry) d.sm _) ⟨_, dd.mapOf, ⟨(Zcx kvs t).getD z, H3, I3.tok _, ?_, q3⟩⟩
 exact (rel.val (Sum.inr t)).getD rz
end
section
variable {X : Cx}
theorem Zdx {c : TT} {tb : TS} {D : Ends} {σ : St} {H : Hp} (Pv : Nat -> St -> Hp -> Prop) (m0 : Nat) (h0 : Pv m0 σ H)
  (hs : ∀ m σ H, Pv m σ H -> c σ H fun b H1 => if b = true then tb { D with nx := fun σ' H' => ∃ m', m' < m /\ Pv m' σ' H', ct := fun σ' H' => ∃ m', m' < m /\ Pv m' σ' H', bk := D.nx } σ H1 else D.nx σ H1)
  (mono : ∀ σ H Q Q', (∀ b H1, Q b H1 -> Q' b H1) -> c σ H Q -> c σ H Q') : Zd4 c tb D σ H := by
 refine ⟨Pv, ⟨m0, h0⟩, ?_⟩
 intro m σ H p
 refine mono σ H _ _ (fun b H1 q => ?_) (hs m σ H p)
 cases b with
 | true => exact ⟨_, fun σ' H' z => z, q⟩
 | false => exact q
def rExtendT : V -> List V -> Hp -> VK -> Prop := fun x vs H Q => ∃ l b xs zs, x = .ref l /\ vs = [.ref b] /\ H l = some (.lst xs) /\ H b = some (.tup zs) /\ xs.length + zs.length <= sizeLine /\ Q .non (upd H l (.lst (xs ++ zs)))
theorem Z51 (l : Addr) (items : Array Value) (n : Nat) (b : Addr) (items2 : Array Value) (n2 : Nat) (dd2 : Option Addr) (sl2 : Array (Option Value)) (hs0 : ¬(!items.isEmpty && Builtin.List.listTooLong (items.size + items2.size)) = true) (hs1 : items.size <= sizeLine) (hs2 : items.size + items2.size <= sizeLine + 1) :
  Meets (Builtin.«list.extend» ⟨[.ref l, .ref b], []⟩) (fun _ R s => s.heap.get? l = some { cls := .type "list", dict := none, data := .seq items n, slots := #[] } /\ s.heap.get? b = some { cls := .type "tuple", dict := dd2, data := .seq items2 n2, slots := sl2 } /\ R (.ok (.ret Value.none)) { s with heap := s.heap.update l (Obj.mapSeq (· ++ items2)), toks := s.toks }) := by
 refine .of_wp fun prog w A R s h => ?_
 obtain ⟨hp, g, d, tk, os⟩ := s
 obtain ⟨e1, e2, k⟩ := h
 have g1 := AutoSeq1.idx_int
 have g2 := AutoSeq1.sub_tuple_tuple
 have g3 := AutoSeq1.sub_list_list
 have g4 := AutoSeq1.sub_tuple_list
 have g5 := AutoSeq1.sub_list_tuple
 have fits : (items ++ items2).size <= sizeLine + 1 := by
  rw [Array.size_append]
  exact hs2
 wp_walk using (wpAny_updateSeq e1 rfl (hz := hs1) (_hz' := fits)), AutoSeq1.wpAny_loadPart' e1, AutoSeq1.wpAny_loadPart' e2
 exact ⟨_, rfl, k⟩
theorem Zc9 : MtM X "list.extend" rExtendT := by
 intro pins s σ H x vs v us Q I rx rv h
 obtain ⟨l, b, xs, zs, rfl, rfl, hH, hB, hz, q⟩ := h
 cases rx
 obtain ⟨u, rfl, ru⟩ := rv.one
 cases ru
 obtain ⟨z, its, n, r, hl, e⟩ := I.lstM hH
 obtain ⟨its2, r2, p2, hz2⟩ := I.tuple (SqT.of (K := X.K) hB)
 have hl2 := r2.length
 obtain ⟨⟨c2, dd2, data2, sl2⟩, ho2, hc2, n2, hd2⟩ := id p2
 simp only at hc2 hd2
 subst hc2 hd2
 have hsz : its.toArray.size + its2.toArray.size <= sizeLine := by rw [List.size_toArray, List.size_toArray]; omega
 have hlong : ¬ (!its.toArray.isEmpty && Builtin.List.listTooLong (its.toArray.size + its2.toArray.size)) = true := by
  rw [Zag hsz, Bool.and_false]
  exact Bool.false_ne_true
 refine call_meets F.slot_list_extend ⟨_, e, rfl⟩ F.entry_list_extend (F.args_list_extend_2 _ _)
  (Z51 l its.toArray n b its2.toArray n2 dd2 sl2 hlong (by rw [List.size_toArray]; omega) (by omega)) ⟨e, ho2, ?_⟩
 refine ⟨.non, _, I.lset (its' := its ++ its2) hH e (by simp) (r.append r2) ?_, rfl, q⟩
 rw [List.length_append]
 omega
end
end L2
namespace L2
open PySem PySem.Spec PyProof.Rows PySem.Builtin PySem.Builtin.Str
end L2
namespace L2
open PySem PySem.Spec PyProof.Rows
section
variable {X : Cx}
end
end L2
namespace HT
open PySem PySem.Spec PyProof.Rows
section
variable {prog : Program} {w : World} {A : Around} {E : Value -> Shared -> Prop} {s : Shared}
theorem getItem_tuple_all {t sl : Addr} {items : Array Value} {vl vu : Value} {lo hi : Option Int} {Q : Value -> Shared -> Prop} (ht : IsTup s.heap t items) (hs : s.heap.IsSliceOf sl vl vu .none) (pl : IsPart vl lo) (pu : IsPart vu hi)
  (hw : sIx items.size 0 lo = 0 /\ sIx items.size items.size hi = items.size) (h : Q (.ref t) s) : wpAny (model prog w) A (getItem (.ref t) (.ref sl)) Q E s := by
 obtain ⟨os, hos, hcs, hds⟩ := id hs
 have hTs : s.TypeIs (.ref sl) "slice" := ⟨os, hos, hcs⟩
 unfold getItem
 try with_reducible refine wpAny_holding ?_
 first | refine wpAny_bind (wpAny_pure ?_) | skip
 refine wpAny_bind (wpAny_sequenceKey ht.typeIs (by decide) ?_)
 refine wpAny_bind (wpAny_callSpecial?_slot (name := Str.ofString "__getitem__") ht.typeIs PyProof.Rows.slot_tuple_getitem
  (wpAny_call_entry PyProof.Rows.slot_tuple_getitem ht.typeIs entry_tuple_getitem ?_ (args_tuple_getitem _ _)))
 show wpAny _ _ (Builtin.Tuple.tupleItemsOf (.ref t) >>= _) _ _ s
 refine wpAny_bind (tupleItemsOf_ ht ?_)
 refine wpAny_bind (wpAny_typeOf hTs ?_)
 rw [if_pos (by decide)]
 refine wpAny_bind (Z2o hs pl pu ?_)
 have hno : ((((sIx items.size 0 lo : Nat) : Int) == 0 && (1 : Int) == 1 && (sIx items.size items.size hi - sIx items.size 0 lo) == items.size) = true) := by
  rw [hw.1, hw.2]; simp
 show wpAny _ _ (if (((sIx items.size 0 lo : Nat) : Int) == 0 && (1 : Int) == 1 && (sIx items.size items.size hi - sIx items.size 0 lo) == items.size) = true then _ else _) _ _ s
 rw [if_pos hno]
 refine wpAny_bind (m := Builtin.Tuple.tupleIsExact _) (wpAny_bind (wpAny_typeOf ht.typeIs (wpAny_pure ?_)))
 rw [if_pos (by decide)]
 refine wpAny_bind (wpAny_rule ?_)
 exact wpAny_pure ⟨_, rfl, wpAny_pure h⟩
end
end HT
namespace L2
open PySem PySem.Spec PyProof.Rows
section
variable {X : Cx}
theorem Zg9 {xs : List V} {lo hi : Option Int} (h : HT.sIx xs.length 0 lo = 0 /\ HT.sIx xs.length xs.length hi = xs.length) : Z8a xs lo hi = xs := by
 unfold Z8a
 rw [h.1, h.2, List.drop_zero, Nat.sub_zero, List.take_of_length_le (Nat.le_refl _)]
def Znn (K : PySem.W.Frag) : R2 := fun x y H Q => ∃ a n xs, x = .ref a /\ y = .int n /\ SqT K H a xs /\ xs ≠ [] /\ 2 <= n /\ n <= 1000 /\ xs.length <= 1000 /\ ∀ p, H p = none -> Q (.ref p) (upd H p (.tup (List.replicate n.toNat xs).flatten))
theorem Z52 : fillsNumberSlot (.type "tuple") "mul" = pure false :=
 PySem.fillsNumberSlot_seq (id := "tuple.__mul__") (r := some (.builtin "tuple.__rmul__")) F.slot_tuple_mul.lookup (by decide +kernel) F.slot_tuple_rmul.lookup (by decide +kernel)
theorem Z8m : seqRepeat? (.type "tuple") = pure (some (.builtin "tuple.__mul__")) := by
 unfold seqRepeat?
 rw [PySem.seqSlot_of (T := "tuple") (name := "__mul__") (id := "tuple.__mul__") F.slot_tuple_mul.lookup (by decide +kernel), PySem.seqSlot_of (T := "tuple") (name := "__rmul__") (id := "tuple.__rmul__") F.slot_tuple_rmul.lookup (by decide +kernel)]
 rfl
theorem Z8n (a : Int) (t : Tok) (l : Addr) (o : Obj) (items : Array Value) (n : Nat) (hc : o.cls = .type "tuple") (hd : o.data = .seq items n) :
  Meets (Builtin.«int.__rmul__» ⟨[.int a t, .ref l], []⟩) (fun _ R s => s.heap.get? l = some o /\ R (.ok (.ret Value.notImplemented)) s) :=
 .of_wp fun prog w A R s h => by obtain ⟨hp, g, d, tk, os⟩ := s; obtain ⟨hl, h⟩ := h; cases o; cases hc; cases hd; wp_walk; exact ⟨_, rfl, h⟩
theorem Ziz : OpR X (binaryOp .Mult) (Znn X.K) := by
 intro pins s σ H x y v u Q I rx ry h
 obtain ⟨a, k, xs, rfl, rfl, hx, hne, h2, h3, hl, q⟩ := h
 cases rx
 obtain ⟨t, rfl⟩ := ry
 obtain ⟨its, r, ht, hz⟩ := I.tuple hx
 obtain ⟨o, e1, e2, n, e3⟩ := id ht
 have hlen : its.toArray.size = xs.length := by rw [List.size_toArray]; exact r.length.symm
 have hpos : 0 < xs.length := List.length_pos_iff.mpr hne
 refine wpAny_binaryOp_repeat_ref (T := "tuple") (U := "int") (by decide) ht.typeIs (fun s' => typeIs_int s' k t) Z52 F.fills_int_mul F.slot_int_rmul Z8m F.slot_int_index.lookup
  (call_meets F.slot_int_rmul (typeIs_int s k t) F.entry_int_rmul (F.args_int_rmul_2 _ _) (Z8n k t a o _ n e2 e3)
   ⟨e1, rfl, ht.typeIs, ?_⟩)
 refine wpAny_call_entry F.slot_tuple_mul ht.typeIs F.entry_tuple_mul ?_ (F.args_tuple_mul_2 _ _)
 show wpAny _ _ (asIndex (.int k t) >>= _) _ _ s
 refine wpAny_bind (wpAny_of_eq (show asIndex (.int k t) = pure k from rfl) ?_)
 have c1 : ¬ (decide (k < -2 ^ 63) || decide (k ≥ 2 ^ 63)) = true := by
  rw [Bool.or_eq_true, decide_eq_true_iff, decide_eq_true_iff]; omega
 have hie : its.toArray.isEmpty = false := by
  cases its with
  | nil => rw [List.size_toArray] at hlen; simp at hlen; omega
  | cons _ _ => simp
 have c2 : ¬ (its.toArray.isEmpty || k == 1) = true := by
  rw [hie, Bool.false_or, beq_iff_eq]; omega
 have c3 : ¬ (decide (k <= 0) || its.toArray.isEmpty) = true := by
  rw [hie, Bool.or_false, decide_eq_true_iff]; omega
 have hm : (its.toArray.size : Int) * k <= 1000 * 1000 := Int.mul_le_mul (by omega) h3 (by omega) (by decide)
 have c4 : ¬ (its.toArray.size : Int) * k > (2 ^ 63 - 1) / 8 := by omega
 have c5 : ¬ Builtin.Tuple.tupleTooMany ((its.toArray.size : Int) * k) = true := by
  unfold Builtin.Tuple.tupleTooMany
  rw [decide_eq_true_iff]
  have : sizeLine = 16777216 := sizeLine_eq
  omega
 rw [if_neg c1]
 refine wpAny_bind (tupleItemsOf_ ht ?_)
 rw [if_neg c2, if_neg c3, if_neg c4, if_neg c5]
 have hnew : List.foldl (fun x1 x2 => x1 ++ x2) #[] (List.replicate k.toNat its.toArray) = (List.replicate k.toNat its).flatten.toArray := by
  have := Z8e its k.toNat []
  rw [List.nil_append] at this
  exact this
 rw [hnew]
 have hzz : (List.replicate k.toNat its).flatten.length <= sizeLine := by
  rw [Z9i]
  have : sizeLine = 16777216 := sizeLine_eq
  have h4 : k.toNat * its.length <= 1000 * 1000 := Nat.mul_le_mul (by omega) (by rw [List.size_toArray] at hlen; omega)
  omega
 refine wpAny_bind (m := Builtin.Tuple.tupleExact _) (wpAny_newObj_type ?_ (by show _ <= sizeLine; rw [List.size_toArray]; exact hzz))
 refine wpAny_pure ⟨_, rfl, ?_⟩
 refine ⟨.ref s.heap.objs.size, _, I.laid (t' := s.toks) (o := .tup (List.replicate k.toNat xs).flatten) (fun b ob q => Heap.get?_push_of_some _ q) (Nat.le_refl _) ?_, rfl, q _ (I.hok.fresh (Nat.le_refl _))⟩
 exact ⟨by rw [Z9i]; rw [Z9i] at hzz; rw [r.length]; exact hzz, _, r.rep k.toNat, IsTup.new _ _⟩
theorem Zga (hc : X.calm = true) : Z3k X (.builtin "sum") (fun xs H Q => ∃ (a : Addr) (ns : List Int), xs = [.ref a] /\ SqL X.K H a (ns.map V.int) /\ Q (.int ns.sum) H) := by
 intro pins s σ H xs us Q I r h
 obtain ⟨a, ns, rfl, ha, q⟩ := h
 obtain ⟨u, rfl, ru⟩ := Z84 r
 cases ru
 obtain ⟨its, r1, pl, hz⟩ := I.list ha
 have hi := Zc2 r1
 obtain ⟨ys, hys⟩ := hi.allInts.items
 have e1 : (intItems ys).toList = its := by rw [<- hys]
 have e2 : preSum (numAt ys) ys.size = ns.sum := by
  rw [preSum_eq, List.take_of_length_le (by simp), <- nums_intItems, e1, hi.numsOf]
 refine sum_intListG (I.ok.hd hc) (hys ▸ pl.isList) fun h' tk t' hk => ?_
 rw [e2]
 exact ⟨.int ns.sum, H, I.kept hk, ⟨_, rfl⟩, q⟩
end
section
variable {X : Cx}
def rSlP : V -> Option Int -> Option Int -> Hp -> VK -> Prop := fun x lo hi H Q => ∃ a xs, x = .ref a /\ H a = some (.tup xs) /\ ∀ p H', Same H H' -> H' p = some (.tup (Z8a xs lo hi)) -> Q (.ref p) H'
theorem Zj0 : SlR X rSlP := by
 intro pins s σ H x v vl vu lo hi sl Q I rx hs pl pu h
 obtain ⟨a, xs, rfl, hx, q⟩ := h
 by_cases hw : HT.sIx xs.length 0 lo = 0 /\ HT.sIx xs.length xs.length hi = xs.length
 ·cases rx
  obtain ⟨its, r, ht, hz⟩ := I.tuple (SqT.of hx)
  have hlen : its.toArray.size = xs.length := by rw [List.size_toArray]; exact r.length.symm
  refine ⟨"tuple", _, PyProof.Rows.slot_tuple_getitem.lookup, ht.typeIs, ?_⟩
  refine HT.getItem_tuple_all ht hs pl pu (by rw [hlen]; exact hw) ?_
  exact ⟨.ref a, H, I, rfl, q a H (Same.refl H) (by rw [Zg9 hw]; exact hx)⟩
 ·exact Zdg pins s σ H (.ref a) v vl vu lo hi sl Q I rx hs pl pu ⟨a, xs, rfl, SqT.of hx, hw, fun p hp => q p _ (Z02 hp) Z01⟩
def rCatP : R2 := fun x y H Q => ∃ a b xs ys, x = .ref a /\ y = .ref b /\ H a = some (.tup xs) /\ H b = some (.tup ys) /\ xs.length + ys.length <= sizeLine ∧
 ∀ p H', Same H H' -> H' p = some (.tup (xs ++ ys)) -> Q (.ref p) H'
theorem Zj1 : OpR X (binaryOp .Add) rCatP := by
 intro pins s σ H x y v u Q I rx ry h
 obtain ⟨a, b, xs, ys, rfl, rfl, ha, hb, hz, q⟩ := h
 by_cases hx : xs = []
 ·subst hx
  cases rx
  cases ry
  obtain ⟨its, r1, p1, _⟩ := I.tuple (SqT.of ha)
  obtain ⟨its2, r2, p2, _⟩ := I.tuple (SqT.of hb)
  cases r1
  obtain ⟨⟨cls, dd, data, sl⟩, ho, hc, n, hd⟩ := id p1
  obtain ⟨⟨cls2, dd2, data2, sl2⟩, ho2, hc2, n2, hd2⟩ := id p2
  simp only at hc hd hc2 hd2
  subst hc hd hc2 hd2
  exact concat_meets ⟨_, ho, rfl⟩ ⟨_, ho2, rfl⟩ noFill_tuple_add seq_tuple_add PySem.F.slot_tuple_add PySem.F.entry_tuple_add (PySem.F.args_tuple_add_2 _ _)
   (tuple_addW0 a b _ _ n n2 dd dd2 sl sl2 (by simp)) ⟨ho, ho2, ⟨.ref b, H, I, rfl, q b H (Same.refl H) hb⟩⟩
 ·refine Ziq pins s σ H (.ref a) (.ref b) v u Q I rx ry ⟨a, b, xs, ys, rfl, rfl, SqT.of ha, SqT.of hb, hx, hz, fun hy => ?_, fun hy p hp => ?_⟩
  ·subst hy
   exact q a H (Same.refl H) (by rw [List.append_nil]; exact ha)
  ·exact q p _ (Z02 hp) Z01
theorem Z5n {e : Expr} {t t' : TE} (h : PE X e t) (i : ∀ σ H Q, t' σ H Q -> t σ H Q) : PE X e t' := fun pins s σ H Q I q => h pins s σ H Q I (i σ H Q q)
theorem Zhx {es : List Expr} {t t' : TA} (h : PA X es t) (i : ∀ σ H Q, t' σ H Q -> t σ H Q) : PA X es t' := fun pos pins s σ H Q I q => h pos pins s σ H Q I (i σ H Q q)
end
section
variable {X : Cx} {pins : List (Addr × Obj)} {σ : St} {H H1 : Hp} {s s1 : Shared}
end
section
variable {X : Cx} {CX : CXT} {k : Nat} {f : Addr} {fd : FuncData} {ps : List Str} {sp : Sp} {E : XK} {x : Str} {p pos : Pos} {e : Expr} {es : List Expr} {t : TA} {ds : List Value} {dvs : List V}
end
section
variable {X : Cx}
end
section
variable {X : Cx}
end
section
variable {X : Cx} {pins : List (Addr × Obj)} {σ : St} {H : Hp} {s : Shared} {h' : Heap}
end
end L2
namespace L2
open PySem PySem.Spec PyProof.Rows PySem.Builtin PySem.AutoSeq1
section
variable {P : Program} {w : World} {B : Around} {G : Value -> Shared -> Prop} {z : Shared}
end
end L2
namespace L2
open PySem PySem.Spec PyProof.Rows
section
variable {X : Cx}
end
section
variable {X : Cx}
end
section
variable {X : Cx}
end
def isTup : Th -> Bool
 | .tup _ => true
 | _ => false
def Zlp : Th -> String
 | .at .non => "NoneType"
 | .at (.bl _) => "bool"
 | .at (.int _) => "int"
 | .at (.str _) => "str"
 | .tup _ => "tuple"
 | .lst _ => "list"
 | _ => ""
def Zlq : Th -> Bool
 | .at (.bl _) => true
 | _ => false
def Zdy : Th -> Bool
 | .at (.int _) => true
 | .at (.bl _) => true
 | _ => false
theorem Z3q {K : PySem.W.Frag} {H : Hp} {v : V} {t : Th} (h : IsTh H v t) : TyOf K H v (.type (Zlp t)) := by
 cases h with
 | «at» f =>
  cases v with
  | non => exact .non
  | bl b => exact .bl b
  | int i => exact .int i
  | str x => exact .str x
  | _ => exact absurd (show false = true from f) Bool.false_ne_true
 | tup e r => exact .tup e
 | lst e r => exact .lst e
structure Kits (K : PySem.W.Frag) : Prop where
 int : ∀ {H : Hp} {v : V} {t : Th}, IsTh H v t -> PySem.W.kitOne K (.type (Zlp t)) (.type "int") = some (Zdy t)
 bl : ∀ {H : Hp} {v : V} {t : Th}, IsTh H v t -> PySem.W.kitOne K (.type (Zlp t)) (.type "bool") = some (Zlq t)
 tup : ∀ {H : Hp} {v : V} {t : Th}, IsTh H v t -> PySem.W.kitOne K (.type (Zlp t)) (.type "tuple") = some (isTup t)
theorem Z17 {H : Hp} : ∀ (vs : List V) {ts : List Th} {i : Nat} {v : V}, IsThs H vs ts -> vs[i]? = some v -> ∃ t, ts[i]? = some t /\ IsTh H v t := by
 intro vs
 induction vs with
 | nil => intro ts i v h e; cases e
 | cons u vs ih =>
  intro ts i v h e
  cases h with
  | cons a b =>
   cases i with
   | zero =>
    have e' : u = v := by simpa using e
    subst e'
    exact ⟨_, rfl, a⟩
   | succ i =>
    rw [List.getElem?_cons_succ] at e
    obtain ⟨t, e1, e2⟩ := ih b e
    exact ⟨t, by rw [List.getElem?_cons_succ]; exact e1, e2⟩
theorem Zlr {H : Hp} : ∀ (vs : List V) {ts : List Th} {i : Nat} {t : Th}, IsThs H vs ts -> ts[i]? = some t -> ∃ v, vs[i]? = some v /\ IsTh H v t := by
 intro vs
 induction vs with
 | nil => intro ts i t h e; cases h; simp at e
 | cons v vs ih =>
  intro ts i t h e
  cases h with
  | cons a b =>
   cases i with
   | zero => simp at e; subst e; exact ⟨v, rfl, a⟩
   | succ i => simp at e; obtain ⟨w, e1, e2⟩ := ih b e; exact ⟨w, by simpa using e1, e2⟩
theorem Z19 {H : Hp} {v : V} {ts : List Th} (h : IsTh H v (.tup ts)) : ∃ a vs, v = .ref a /\ H a = some (.tup vs) /\ IsThs H vs ts := by
 cases h with
 | tup e r => exact ⟨_, _, rfl, e, r⟩
theorem Zap {H : Hp} {v : V} {ts : List Th} (h : IsTh H v (.lst ts)) : ∃ a vs, v = .ref a /\ H a = some (.lst vs) /\ IsThs H vs ts := by
 cases h with
 | lst e r => exact ⟨_, _, rfl, e, r⟩
theorem Z2b {H : Hp} {v w : V} (h : IsTh H v (.at w)) : v = w /\ smallV w = true := by
 cases h with
 | «at» f => exact ⟨rfl, f⟩
theorem Zaq {H : Hp} : ∀ (ws : List V) {us : List Th}, IsThs H ws us -> ws ≠ [] -> ∃ ws' y us' u, ws = ws' ++ [y] /\ us = us' ++ [u] /\ IsThs H ws' us' /\ IsTh H y u := by
 intro ws
 induction ws with
 | nil => intro us h n; exact absurd rfl n
 | cons v vs ih =>
  intro us h _
  cases h with
  | @cons _ _ t ts a b =>
   cases vs with
   | nil => cases b; exact ⟨[], v, [], t, rfl, rfl, .nil, a⟩
   | cons v2 vs2 =>
    obtain ⟨ws', y, us', u, e1, e2, h1, h2⟩ := ih b (by intro z; cases z)
    exact ⟨v :: ws', y, t :: us', u, by rw [e1]; rfl, by rw [e2]; rfl, .cons a h1, h2⟩
theorem Zj2 {H : Hp} : ∀ (vs : List V) {ts : List Th}, IsThs H vs ts -> IsThs H vs.reverse ts.reverse := by
 intro vs
 induction vs with
 | nil => intro ts h; cases h; exact .nil
 | cons v vs ih =>
  intro ts h
  cases h with
  | cons a b =>
   rw [List.reverse_cons, List.reverse_cons]
   exact IsThs.app _ (ih b) (.cons a .nil)
mutual
def Th.sz : Th -> Nat
 | .at _ => 1
 | .tup xs => 1 + szs xs
 | .lst xs => 1 + szs xs
def szs : List Th -> Nat
 | [] => 0
 | x :: xs => Th.sz x + szs xs
end
theorem Zls (t : Th) : 1 <= Th.sz t := by
 cases t with
 | «at» v => simp [Th.sz]
 | tup xs => simp [Th.sz]
 | lst xs => simp [Th.sz]
theorem Z5o : ∀ us ws : List Th, szs (us ++ ws) = szs us + szs ws := by
 intro us
 induction us with
 | nil => intro ws; simp [szs]
 | cons u us ih => intro ws; rw [List.cons_append, szs, szs, ih]; omega
theorem Zca : ∀ ts : List Th, szs (ts.filter isTup) <= szs ts := by
 intro ts
 induction ts with
 | nil => simp [szs]
 | cons t ts ih =>
  rw [List.filter_cons]
  split
  ·rw [szs, szs]; omega
  ·rw [szs]; omega
theorem Z5p : ∀ ts : List Th, ts.length <= szs ts := by
 intro ts
 induction ts with
 | nil => simp [szs]
 | cons t ts ih => have := Zls t; rw [List.length_cons, szs]; omega
theorem Zlt : ∀ (ts : List Th) (t : Th), t ∈ ts -> Th.sz t <= szs ts := by
 intro ts
 induction ts with
 | nil => intro t h; cases h
 | cons u ts ih =>
  intro t h
  rw [szs]
  rcases List.mem_cons.mp h with z | z
  ·subst z; omega
  ·have := ih t z; omega
def Z0x (ts : List Th) : List Th := ts.filter isTup
def OkT : Nat -> Th -> Prop
 | 0, _ => False
 | n + 1, t => ∃ (w : Str) (ts : List Th), t = .tup (.at (.str w) :: ts) /\ (w = "let" -> (Z0x ts).length = 2) /\ ∀ x ∈ ts, isTup x = true -> OkT n x
theorem OkT.up : ∀ (n : Nat) {t : Th}, OkT n t -> OkT (n + 1) t := by
 intro n
 induction n with
 | zero => intro t h; exact h.elim
 | succ n ih =>
  intro t h
  obtain ⟨w, ts, e, h1, h2⟩ := h
  exact ⟨w, ts, e, h1, fun x hx hx2 => ih (h2 x hx hx2)⟩
theorem Z2x {H H' : Hp} {p : Addr} (s : Same H H') (h : H' p = none) : H p = none := by
 cases e : H p with
 | none => rfl
 | some o => rw [s p o e] at h; cases h
theorem Zno (x : V) (xs : List V) : Z8a (x :: xs) (some 1) none = xs := by
 have e1 : HT.sIx (x :: xs).length 0 (some 1) = min 1 (x :: xs).length := rfl
 have e2 : HT.sIx (x :: xs).length (x :: xs).length none = (x :: xs).length := rfl
 unfold Z8a
 rw [e1, e2, List.length_cons]
 have e3 : min 1 (xs.length + 1) = 1 := by omega
 rw [e3]
 show List.take (xs.length + 1 - 1) xs = xs
 exact List.take_of_length_le (by omega)
end L2
namespace L2
open PySem
def Z1y (xs : List Th) : Bool := match xs with
 | .at (.str w) :: _ => decide (w = "let")
 | _ => false
def Z42 (l : Bool) (me : Th) : Nat -> List (Str × Th)
 | 0 => if l = true then [(("opened" : Str), me)] else []
 | 1 => if l = true then [(("closed" : Str), me)] else []
 | _ => []
mutual
def Z0q : Th -> List (Str × Th)
 | .tup xs => (("node" : Str), Th.tup xs) :: Z24 (Z1y xs) (.tup xs) 0 xs
 | .at _ => []
 | .lst _ => []
def Z24 (l : Bool) (me : Th) : Nat -> List Th -> List (Str × Th)
 | _, [] => []
 | i, x :: xs => if isTup x = true then Z0q x ++ (Z42 l me i ++ Z24 l me (i + 1) xs) else Z24 l me i xs
end
def Z5q (l : Bool) (me : Th) : Nat -> List Th -> List (Str × Th)
 | _, [] => []
 | i, k :: ks => Z0q k ++ (Z42 l me i ++ Z5q l me (i + 1) ks)
theorem Z6r (l : Bool) (me : Th) : ∀ (xs : List Th) (i : Nat), Z24 l me i xs = Z5q l me i (Z0x xs) := by
 intro xs
 induction xs with
 | nil => intro i; simp [Z24, Z5q, Z0x]
 | cons x xs ih =>
  intro i
  rw [Z24]
  unfold Z0x
  rw [List.filter_cons]
  split
  ·rw [Z5q, ih]; rfl
  ·rw [ih]; rfl
theorem Z8o (me : Th) : ∀ (ks : List Th) (i : Nat), Z5q false me i ks = (ks.map Z0q).flatten := by
 intro ks
 induction ks with
 | nil => intro i; rfl
 | cons k ks ih =>
  intro i
  have e : Z42 false me i = [] := by
   match i with
   | 0 => rfl
   | 1 => rfl
   | _ + 2 => rfl
  rw [Z5q, ih, e, List.map_cons, List.flatten_cons, List.nil_append]
theorem Z3r {xs : List Th} (h : Z1y xs = false) : Z0q (.tup xs) = (("node" : Str), Th.tup xs) :: ((Z0x xs).map Z0q).flatten := by
 rw [Z0q, Z6r, h, Z8o]
theorem Z5r {xs : List Th} {k1 k2 : Th} (h : Z1y xs = true) (hk : Z0x xs = [k1, k2]) : Z0q (.tup xs) = (("node" : Str), Th.tup xs) :: (Z0q k1 ++ ((("opened" : Str), Th.tup xs) :: (Z0q k2 ++ [(("closed" : Str), Th.tup xs)]))) := by
 rw [Z0q, Z6r, h, hk]
 simp [Z5q, Z42]
def Z4k (p : Str × Th) : List (Str × Th) := if p.1 = "node" then Z0q p.2 else [p]
def Z1u (st : List (Str × Th)) : List (Str × Th) := (st.reverse.map Z4k).flatten
theorem Z43 (st : List (Str × Th)) (x : Str × Th) : Z1u (st ++ [x]) = Z4k x ++ Z1u st := by
 unfold Z1u; simp
theorem Zar (st r : List (Str × Th)) : Z1u (st ++ r.reverse) = (r.map Z4k).flatten ++ Z1u st := by
 unfold Z1u; simp
theorem Z3b (t : Th) : Z4k (("node" : Str), t) = Z0q t := by unfold Z4k; simp
theorem Zcb (t : Th) : Z4k (("opened" : Str), t) = [(("opened" : Str), t)] := by
 unfold Z4k; rw [if_neg (by show ¬ (("opened" : Str) = "node"); decide +kernel)]
theorem Z9l (t : Th) : Z4k (("closed" : Str), t) = [(("closed" : Str), t)] := by
 unfold Z4k; rw [if_neg (by show ¬ (("closed" : Str) = "node"); decide +kernel)]
theorem Zcc {st : List (Str × Th)} {xs : List Th} (h : Z1y xs = false) : Z1u (st ++ [(("node" : Str), Th.tup xs)]) = (("node" : Str), Th.tup xs) :: Z1u (st ++ ((Z0x xs).map fun k => (("node" : Str), k)).reverse) := by
 rw [Z43, Zar, Z3b, Z3r h, List.map_map]
 show _ :: (_ ++ _) = _ :: (_ ++ _)
 congr 2
theorem Zgb {st : List (Str × Th)} {xs : List Th} {k1 k2 : Th} (h : Z1y xs = true) (hk : Z0x xs = [k1, k2]) :
  Z1u (st ++ [(("node" : Str), Th.tup xs)]) = (("node" : Str), Th.tup xs) :: Z1u (st ++ ([(("node" : Str), k1), (("opened" : Str), Th.tup xs), (("node" : Str), k2), (("closed" : Str), Th.tup xs)] : List (Str × Th)).reverse) := by
 rw [Z43, Zar, Z3b, Z5r h hk]
 simp [Z3b, Zcb, Z9l]
def pr (p : Str × Th) : Th := .tup [.at (.str p.1), p.2]
mutual
def cnt : Th -> Nat
 | .tup xs => 1 + Z21 xs
 | .at _ => 0
 | .lst _ => 0
def Z21 : List Th -> Nat
 | [] => 0
 | x :: xs => cnt x + Z21 xs
end
mutual
def dp : Th -> Nat
 | .tup xs => 1 + dps xs
 | .at _ => 0
 | .lst _ => 0
def dps : List Th -> Nat
 | [] => 0
 | x :: xs => max (dp x) (dps xs)
end
theorem Zj3 (t : Th) (h : isTup t = false) : cnt t = 0 := by
 cases t with
 | «at» v => simp [cnt]
 | lst xs => simp [cnt]
 | tup xs => cases h
theorem Z8p : ∀ xs : List Th, Z21 xs = Z21 (Z0x xs) := by
 intro xs
 induction xs with
 | nil => rfl
 | cons x xs ih =>
  unfold Z0x
  rw [Z21, List.filter_cons]
  split
  ·rw [Z21, ih]; rfl
  ·rw [Zj3 x (by simp_all), Nat.zero_add, ih]; rfl
def Z14 (l : List (Str × Th)) : List (Str × Th) := l.filter fun p => decide (p.1 = "node")
theorem Zcd (l : Bool) (me : Th) (i : Nat) : Z14 (Z42 l me i) = [] := by
 have e1 : decide (("opened" : Str) = "node") = false := by decide +kernel
 have e2 : decide (("closed" : Str) = "node") = false := by decide +kernel
 match i with
 | 0 => cases l <;> simp [Z14, Z42, e1]
 | 1 => cases l <;> simp [Z14, Z42, e2]
 | _ + 2 => rfl
end L2
namespace L2
open PySem PySem.Spec PyProof.Rows
section
variable {K : PySem.W.Frag} {a : Addr} {xs : List V} {σ0 : St} {H : Hp} {g : TG} {tt : TT} {te : TE} {Q : List V -> Hp -> Prop}
end
end L2
namespace Srt
open PySem PyProof.Rows
section
variable {prog : Program} {w : World} {A : Around} {E : Value -> Shared -> Prop} {s : Shared}
end
section
variable {prog : Program} {w : World} {A : Around} {E : Value -> Shared -> Prop} {s : Shared}
end
section
variable {prog : Program} {w : World} {A : Around} {E : Value -> Shared -> Prop} {s : Shared}
end
section
variable {prog : Program} {w : World} {A : Around} {E : Value -> Shared -> Prop} {s : Shared} {a₀ : Array Keyed} {P : Array (Nat × Nat × Nat)}
end
section
variable {prog : Program} {w : World} {A : Around} {E : Value -> Shared -> Prop} {s : Shared} {a₀ : Array Keyed} {P : Array (Nat × Nat × Nat)}
end
section
variable {prog : Program} {w : World} {A : Around} {E : Value -> Shared -> Prop} {s : Shared} {a₀ : Array Keyed} {P : Array (Nat × Nat × Nat)}
end
def Rs (p : Array Nat) : Prop := p.toList.Pairwise (· < ·)
theorem Rs.lt {p : Array Nat} (h : Rs p) {i j : Nat} (hij : i < j) (hj : j < p.size) : p[i]'(by omega) < p[j] := by
 have q := List.pairwise_iff_getElem.mp h i j (by simpa using Nat.lt_trans hij hj) (by simpa using hj) hij
 simpa using q
theorem Rs.le {p : Array Nat} (h : Rs p) {i j : Nat} (hij : i <= j) (hj : j < p.size) : p[i]'(by omega) <= p[j] := by
 rcases Nat.lt_or_eq_of_le hij with z | z
 ·exact Nat.le_of_lt (h.lt z hj)
 ·subst z
  exact Nat.le_refl _
theorem Z76 {p : Array Nat} (h : Rs p) (x : Nat) : ∀ (f lo hi : Nat), hi <= p.size -> hi - lo <= f -> lo <= hi -> (∀ i (q : i < p.size), i < lo -> p[i] < x) -> (∀ i (q : i < p.size), hi <= i -> x <= p[i]) →
  SetTable.below.go p x f lo hi <= p.size /\ (∀ i (q : i < p.size), i < SetTable.below.go p x f lo hi -> p[i] < x) /\ ∀ i (q : i < p.size), SetTable.below.go p x f lo hi <= i -> x <= p[i]
 | 0, lo, hi, a, b, c, d, e => by
  obtain rfl : lo = hi := by omega
  exact ⟨a, d, e⟩
 | f + 1, lo, hi, a, b, c, d, e => by
  unfold SetTable.below.go
  by_cases z : lo < hi
  ·rw [if_pos z]
   have hm : (lo + hi) / 2 < p.size := by omega
   have g : p.getD ((lo + hi) / 2) x = p[(lo + hi) / 2] := by rw [Array.getD_eq_getD_getElem?, getElem?_pos p _ hm]; rfl
   dsimp only
   rw [g]
   by_cases y : p[(lo + hi) / 2] < x
   ·rw [if_pos y]
    exact Z76 h x f _ hi a (by omega) (by omega) (fun i q r => Nat.lt_of_le_of_lt (h.le (by omega) hm) y) e
   ·rw [if_neg y]
    exact Z76 h x f lo _ (by omega) (by omega) (by omega) d fun i q r => Nat.le_trans (Nat.le_of_not_lt y) (h.le r q)
  ·rw [if_neg z]
   obtain rfl : lo = hi := by omega
   exact ⟨a, d, e⟩
theorem Zas {p : Array Nat} (h : Rs p) (x : Nat) : SetTable.below p x <= p.size /\ (∀ i (q : i < p.size), i < SetTable.below p x -> p[i] < x) /\ ∀ i (q : i < p.size), SetTable.below p x <= i -> x <= p[i] :=
 Z76 h x p.size 0 p.size (Nat.le_refl _) (by omega) (Nat.zero_le _) (fun i q r => absurd r (by omega)) fun i q r => absurd r (by omega)
theorem Zat {p : Array Nat} (h : Rs p) {x n : Nat} (hn : n <= p.size) (h1 : ∀ i (q : i < p.size), i < n -> p[i] < x) (h2 : ∀ i (q : i < p.size), n <= i -> x <= p[i]) : SetTable.below p x = n := by
 obtain ⟨a, b, c⟩ := Zas h x
 rcases Nat.lt_trichotomy (SetTable.below p x) n with z | z | z
 ·have u := h1 _ (by omega) z
  have v := c (SetTable.below p x) (by omega) (Nat.le_refl _)
  omega
 ·exact z
 ·have u := b n (by omega) z
  have v := h2 n (by omega) (Nat.le_refl _)
  omega
theorem Rs.put {p : Array Nat} (h : Rs p) {x : Nat} (hx : p[SetTable.below p x]? ≠ some x) : Rs (SetTable.insertAt p (SetTable.below p x) x) := by
 obtain ⟨a, b, c⟩ := Zas h x
 unfold Rs
 rw [SetTable.toList_insertAt]
 refine List.pairwise_append.mpr ⟨h.sublist (List.take_sublist _ _), List.pairwise_cons.mpr ⟨fun y hy => ?_, h.sublist (List.drop_sublist _ _)⟩, fun u hu y hy => ?_⟩
 ·obtain ⟨i, hi⟩ := List.mem_iff_getElem?.mp hy
  rw [List.getElem?_drop, Array.getElem?_toList] at hi
  obtain ⟨q, rfl⟩ := Array.getElem?_eq_some_iff.mp hi
  have z := c _ q (by omega)
  rcases Nat.lt_or_eq_of_le z with z | z
  ·exact z
  ·exfalso
   rcases Nat.eq_zero_or_pos i with e | e
   ·subst e
    refine hx ?_
    rw [Array.getElem?_eq_some_iff]
    exact ⟨q, z.symm⟩
   ·have w := c (SetTable.below p x) (by omega) (Nat.le_refl _)
    have v := h.lt (i := SetTable.below p x) (j := SetTable.below p x + i) (by omega) q
    omega
 ·obtain ⟨i, hi⟩ := List.mem_iff_getElem?.mp hu
  rw [List.getElem?_take] at hi
  have ux : u < x := by
   by_cases l : i < SetTable.below p x
   ·rw [if_pos l, Array.getElem?_toList] at hi
    obtain ⟨q, rfl⟩ := Array.getElem?_eq_some_iff.mp hi
    exact b i q l
   ·rw [if_neg l] at hi
    cases hi
  rcases List.mem_cons.mp hy with rfl | hy
  ·exact ux
  ·obtain ⟨k, hk⟩ := List.mem_iff_getElem?.mp hy
   rw [List.getElem?_drop, Array.getElem?_toList] at hk
   obtain ⟨q, rfl⟩ := Array.getElem?_eq_some_iff.mp hk
   exact Nat.lt_of_lt_of_le ux (c _ q (by omega))
def Zlu (t : SetTable) (j : Nat) : Prop := t.place[SetTable.below t.place j]? ≠ some j
theorem Z8q {t : SetTable} {j : Nat} (h : ∀ i, t.slot j ≠ .live i) : Zlu t j := by
 intro e
 refine h (SetTable.below t.place j) ?_
 unfold SetTable.slot
 dsimp only
 rw [if_pos (by rw [e]; exact beq_self_eq_true _)]
theorem Z44 (t : SetTable) (p : SetTable.Probe) : (t.advance p).dummy = p.dummy := by
 unfold SetTable.advance
 split <;> rfl
theorem Z4l {t : SetTable} {ha : Nat -> Int} {h : Int} {j : Nat} {d : Option Nat} : ∀ (f : Nat) (p : SetTable.Probe), (∀ x, p.dummy = some x -> Zlu t x) -> SetTable.probe.go t ha h f p = some (.empty j d) -> Zlu t j /\ ∀ x, d = some x -> Zlu t x
 | 0, p, _, e => by
  unfold SetTable.probe.go at e
  cases e
 | f + 1, p, hp, e => by
  unfold SetTable.probe.go at e
  cases hs : t.slot p.j with
  | empty =>
   rw [hs] at e
   dsimp only at e
   cases e
   exact ⟨Z8q fun i z => (by rw [hs] at z; cases z), hp⟩
  | dummy =>
   rw [hs] at e
   dsimp only at e
   refine Z4l f _ (fun x hx => ?_) e
   rw [Z44] at hx
   cases hx
   exact Z8q fun i z => by rw [hs] at z; cases z
  | live i =>
   rw [hs] at e
   dsimp only at e
   split at e
   ·cases e
   ·exact Z4l f _ (fun x hx => hp x (by rw [Z44] at hx; exact hx)) e
theorem Zdz {t : SetTable} {h : Int} {j : Nat} {b : Bool} (e : t.freeSlot h = some (j, b)) : Zlu t j := by
 unfold SetTable.freeSlot at e
 split at e
 ·next k d q =>
  obtain ⟨a, c⟩ := Z4l _ _ (fun x z => by cases z) q
  cases d with
  | none =>
   cases e
   exact a
  | some x =>
   cases e
   exact c _ rfl
 ·cases e
theorem Z3c (t : SetTable) (n : Nat) : Rs (t.standIn n).place := by
 show (Array.range n).toList.Pairwise (· < ·)
 rw [Array.toList_range]
 exact List.pairwise_lt_range
theorem Ze0 {t : SetTable} (hr : Rs t.place) (es : Array (Int × Value)) (h : Int) (x : Value) : Rs (layNew t es h x).2.1.place /\ (layNew t es h x).2.1.led = t.led := by
 unfold layNew
 split
 ·next j b e =>
  show Rs ((t.put j).1.orStandIn _).place /\ ((t.put j).1.orStandIn _).led = t.led
  unfold SetTable.orStandIn
  split
  ·exact ⟨hr.put (Zdz e), rfl⟩
  ·exact ⟨Z3c _ _, rfl⟩
 ·exact ⟨Z3c _ _, rfl⟩
theorem Zj4 (f : Nat -> Option (Nat × Nat)) (hf : ∀ j p, f j = some p -> p.1 = j) (n : Nat) : (((List.range n).filterMap f).map (·.1)).Pairwise (· < ·) := by
 rw [List.pairwise_map, List.pairwise_filterMap]
 refine List.Pairwise.imp ?_ (List.pairwise_lt_range (n := n))
 intro a b hab p hp q hq
 rw [hf a p hp, hf b q hq]
 exact hab
theorem Z9m {t : SetTable} (es : Array (Int × Value)) (n : Nat) : Rs (relayAll t es n).2.1.place /\ (relayAll t es n).2.1.led = t.led := by
 unfold relayAll
 split
 ·next t' order e =>
  dsimp only
  split
  ·unfold SetTable.relaid SetTable.laid at e
   cases q : SetTable.layClean (SetTable.sizeAbove n - 1) (es.map (·.1)) with
   | none =>
    rw [q] at e
    cases e
   | some owner =>
    rw [q] at e
    cases e
    refine ⟨?_, rfl⟩
    refine Zj4 (fun j => (owner.getD j none).map fun x => (j, x)) (fun j p hp => ?_) _
    cases z : owner.getD j none with
    | none =>
     rw [z] at hp
     cases hp
    | some y =>
     rw [z] at hp
     cases hp
     rfl
  ·exact ⟨Z3c _ _, rfl⟩
 ·exact ⟨Z3c _ _, rfl⟩
theorem Z6s {α : Type} {l : List α} {i : Nat} (hi : i < l.length) : (l[i] :: l.eraseIdx i).Perm l := by
 rw [List.eraseIdx_eq_take_drop_succ]
 refine List.perm_middle.symm.trans (List.Perm.of_eq ?_)
 rw [<- List.drop_eq_getElem_cons hi, List.take_append_drop]
theorem Ze1 {α : Type} (f : Nat -> Nat) : ∀ (n k : Nat) (l : List α) (out : Array α), l.length <= n -> (pickOrder.go f n k l out).toList.Perm (out.toList ++ l)
 | 0, k, l, out, h => by
  obtain rfl : l = [] := List.length_eq_zero_iff.mp (by omega)
  unfold pickOrder.go
  rw [List.append_nil]
 | n + 1, k, l, out, h => by
  unfold pickOrder.go
  cases q : l[f k % l.length]? with
  | none =>
   dsimp only
   have : l = [] := by
    cases l with
    | nil => rfl
    | cons a t =>
     have z := List.getElem?_eq_none_iff.mp q
     have w := Nat.mod_lt (f k) (show 0 < (a :: t).length from Nat.succ_pos _)
     omega
   subst this
   rw [List.append_nil]
  | some x =>
   dsimp only
   obtain ⟨hi, hx⟩ := List.getElem?_eq_some_iff.mp q
   refine (Ze1 f n (k + 1) _ _ (by rw [List.length_eraseIdx_of_lt hi]; omega)).trans ?_
   rw [Array.toList_push, List.append_assoc]
   refine List.Perm.append_left _ ?_
   subst hx
   exact Z6s hi
theorem Z5s {α : Type} (f : Nat -> Nat) (xs : Array α) : (pickOrder f xs).toList.Perm xs.toList := by
 refine (Ze1 f xs.size 0 xs.toList #[] (by simp)).trans ?_
 exact List.Perm.of_eq (List.nil_append _)
section
variable {M : Model} {A : Around} {E : Value -> Shared -> Prop}
theorem Z8r {src : Source} {n : Nat} {s : Shared} {Q : Nat -> Shared -> Prop} (hn : n ≠ 0) (h : ∀ i d, i < n -> Q i { s with drawn := d }) : wpAny M A (choose src n) Q E s :=
 fun _ _ _ => ⟨hn, h _ _ (Nat.mod_lt _ (Nat.pos_of_ne_zero hn))⟩
theorem Z8s {α : Type} : ∀ (n : Nat) (l : List α) (s : Shared) (Q : List α -> Shared -> Prop), l.length <= n -> (∀ m d, m.Perm l -> Q m { s with drawn := d }) -> wpAny M A (drawOrder n l) Q E s
 | 0, l, s, Q, h, q => by
  obtain rfl : l = [] := List.length_eq_zero_iff.mp (by omega)
  unfold drawOrder
  exact wpAny_pure (q [] s.drawn (List.Perm.refl _))
 | n + 1, [], s, Q, h, q => by
  unfold drawOrder
  exact wpAny_pure (q [] s.drawn (List.Perm.refl _))
 | n + 1, a :: t, s, Q, h, q => by
  unfold drawOrder
  refine wpAny_bind (Z8r (by simp) fun i d hi => ?_)
  have e : (a :: t)[i]? = some (a :: t)[i] := getElem?_pos _ i hi
  rw [e]
  dsimp only
  refine wpAny_bind (Z8s n _ _ _ (by rw [List.length_eraseIdx_of_lt hi]; omega) fun m d' hm => ?_)
  exact wpAny_pure (q _ d' ((List.Perm.cons _ hm).trans (Z6s hi)))
end
def byT (w : World) : Bool := w.params.followText "set-order"
def IS (P : Program) (w : World) (h : Heap) (a : Addr) (l : List Int) : Prop :=
 ∃ o es ep t, h.get? a = some o /\ o.ExactSet /\ o.data = .set es ep t /\ ElemsOf (intKind P w) es.toList /\ (es.toList.map fun e => numOf e.2).Perm l /\ l.Nodup /\ es.size < scanBound /\ t.fits es.size = true /\ Rs t.place /\ t.led = !byT w
theorem IS.keep {P : Program} {w : World} {h h' : Heap} {a : Addr} {l : List Int} (x : IS P w h a l) (k : ∀ o, h.get? a = some o -> h'.get? a = some o) : IS P w h' a l := by
 obtain ⟨o, es, ep, t, ho, r⟩ := x
 exact ⟨o, es, ep, t, k o ho, r⟩
theorem IS.type {P : Program} {w : World} {s : Shared} {a : Addr} {l : List Int} (x : IS P w s.heap a l) : s.TypeIs (.ref a) "set" := by
 obtain ⟨o, es, ep, t, ho, hx, _⟩ := x
 exact ⟨o, ho, hx.1⟩
def Z45 (l : List Int) (k : Int) : List Int := if k ∈ l then l else l ++ [k]
theorem Ze2 {l : List Int} {k : Int} (h : l.Nodup) : (Z45 l k).Nodup := by
 unfold Z45
 by_cases e : k ∈ l
 ·rw [if_pos e]
  exact h
 ·rw [if_neg e]
  exact List.nodup_append.mpr ⟨h, List.nodup_cons.mpr ⟨List.not_mem_nil, List.nodup_nil⟩, fun a ha b hb => by rw [List.mem_singleton.mp hb]; exact fun z => e (z ▸ ha)⟩
section
variable {P : Program} {w : World} {A : Around} {E : Value -> Shared -> Prop} {s : Shared}
theorem IS.store {h : Heap} {a : Addr} {o : Obj} {es : Array (Int × Value)} {ep : Nat} {t : SetTable} (ho : h.get? a = some o) (hx : o.ExactSet) (hd : o.data = .set es ep t) {es' : Array (Int × Value)} {t' : SetTable} {l : List Int}
  (h1 : ElemsOf (intKind P w) es'.toList) (h2 : (es'.toList.map fun e => numOf e.2).Perm l) (h3 : l.Nodup) (h4 : es'.size < scanBound) (h5 : t'.fits es'.size = true) (h6 : Rs t'.place) (h7 : t'.led = !byT w) :
  (h.update a (Obj.putSet es' t')).get? a = some { o with data := .set es' (ep + 1) t' } /\ IS P w (h.update a (Obj.putSet es' t')) a l := by
 have g : (h.update a (Obj.putSet es' t')).get? a = some { o with data := .set es' (ep + 1) t' } := by
  have q := Heap.get?_update_self (Obj.putSet es' t') ho (by rw [putSet_of es' t' hd]; rfl)
  rw [putSet_of es' t' hd] at q
  exact q
 exact ⟨g, _, es', ep + 1, t', g, hx, rfl, h1, h2, h3, h4, h5, h6, h7⟩
theorem Zhy (b : Bool) {s₁ : Shared} {Q' : Unit -> Shared -> Prop} (q : Q' () s₁) : wpAny (model P w) A (match b with | true => rule "set.scan.the-table-gave-way" | false => pure ()) Q' E s₁ := by
 cases b
 ·exact wpAny_pure q
 ·exact wpAny_rule q
theorem Z6t {a : Addr} {l : List Int} {k : Int} {tk : Tok} {Q : Bool -> Shared -> Prop} (hS : IS P w s.heap a l) (room : l.length + 1 < scanBound)
  (h : ∀ h' b, Heap.SameBut a s.heap h' -> IS P w h' a (Z45 l k) -> Q b { s with heap := h' }) : wpAny (model P w) A (setAddHashed a (.int k tk) ((intKind P w).hash k)) Q E s := by
 obtain ⟨o, es, ep, t, ho, hx, hd, hel, hpm, hnd, hb, hf, hr, hled⟩ := hS
 have hlen : es.size = l.length := by rw [<- hpm.length_eq, List.length_map, Array.length_toList]
 have hkey : (intKind P w).is k (.int k tk) = true := intKind_is _ _ _ _
 have memk : k ∈ l ↔ ∃ e ∈ es.toList, (intKind P w).is k e.2 = true := by
  rw [<- hpm.mem_iff, List.mem_map]
  constructor
  ·rintro ⟨e, he, q⟩
   obtain ⟨⟨k', hk', _⟩, _⟩ := hel e he
   obtain ⟨t', e'⟩ := Value.isInt_shape hk'
   refine ⟨e, he, ?_⟩
   rw [e'] at q ⊢
   rw [<- q]
   exact intKind_is _ _ _ _
  ·rintro ⟨e, he, q⟩
   obtain ⟨t', e'⟩ := Value.isInt_shape q
   exact ⟨e, he, by rw [e']; rfl⟩
 unfold setAddHashed setAddHashedIn
 refine wpAny_holding (wpAny_bind (wpAny_setState_of ho hd hf ?_))
 dsimp only
 rw [byScan_of (x := .int k tk) rfl hb hel]
 simp only [↓reduceIte]
 unfold setAddByScan
 refine wpAny_bind (wpAny_bind (wpAny_rule (wpAny_bind (wpAny_setScan_of hkey ho hd hf hel ?_))))
 cases hq : List.findIdx? (fun e => (intKind P w).is k e.2) es.toList with
 | some j =>
  dsimp only
  obtain ⟨hj, hpj, _⟩ := List.findIdx?_eq_some_iff_getElem.mp hq
  have hk : k ∈ l := memk.mpr ⟨es.toList[j], List.getElem_mem hj, hpj⟩
  refine wpAny_pure (wpAny_pure ?_)
  refine h s.heap _ (Heap.SameBut.refl a s.heap) ?_
  rw [Z45, if_pos hk]
  exact ⟨o, es, ep, t, ho, hx, hd, hel, hpm, hnd, hb, hf, hr, hled⟩
 | none =>
  dsimp only
  have hk : ¬ k ∈ l := fun z => by
   obtain ⟨e, he, q⟩ := memk.mp z
   have := List.findIdx?_eq_none_iff.mp hq e he
   rw [q] at this
   cases this
  have e1 := layNew_perm t es ((intKind P w).hash k) (.int k tk)
  have e2 := layNew_fits t es ((intKind P w).hash k) (.int k tk)
  have e3 := Ze0 hr es ((intKind P w).hash k) (.int k tk)
  generalize layNew t es ((intKind P w).hash k) (.int k tk) = L at e1 e2 e3 ⊢
  obtain ⟨es1, t1, wd, gave⟩ := L
  dsimp only at e1 e2 e3 ⊢
  rw [Array.toList_push] at e1
  have el1 : ElemsOf (intKind P w) es1.toList := (hel.push hkey rfl).perm e1
  have pm1 : (es1.toList.map fun e => numOf e.2).Perm (Z45 l k) := by
   refine (e1.map _).trans ?_
   rw [List.map_append, Z45, if_neg hk]
   exact List.Perm.append_right _ hpm
  have nd1 : (Z45 l k).Nodup := Ze2 hnd
  have b1 : es1.size < scanBound := by
   rw [<- Array.length_toList, e1.length_eq, List.length_append, Array.length_toList, hlen]
   exact room
  refine wpAny_bind (Zhy gave ?_)
  have e4 : hashByValue 8 (.int k tk) = pure true := rfl
  rw [e4, ite_self]
  refine wpAny_bind (wpAny_pure ?_)
  simp only [↓reduceIte]
  refine wpAny_bind (wpAny_storeSet_of ho hd ?_ (fits_of_scanBound b1))
  obtain ⟨g1, i1⟩ := IS.store (P := P) (w := w) ho hx hd el1 pm1 nd1 b1 e2 e3.1 (e3.2.trans hled)
  have sb1 := Heap.SameBut.update s.heap a (Obj.putSet es1 t1)
  split
  ·have f1 := relayAll_perm t1 es1 (SetTable.grown es1.size)
   have f2 := relayAll_fits t1 es1 (SetTable.grown es1.size)
   have f3 := Z9m (t := t1) es1 (SetTable.grown es1.size)
   generalize relayAll t1 es1 (SetTable.grown es1.size) = R at f1 f2 f3 ⊢
   obtain ⟨es2, t2, gave2⟩ := R
   dsimp only at f1 f2 f3 ⊢
   have sz : es2.size = es1.size := by rw [<- Array.length_toList, f1.length_eq, Array.length_toList]
   refine wpAny_bind (Zhy gave2 ?_)
   refine wpAny_bind (wpAny_storeSet_of g1 rfl ?_ (fits_of_scanBound (by omega)))
   obtain ⟨g2, i2⟩ := IS.store (P := P) (w := w) g1 hx rfl (el1.perm f1) ((f1.map _).trans pm1) nd1 (by omega) f2 f3.1 (f3.2.trans (e3.2.trans hled))
   exact wpAny_pure (wpAny_pure (h _ _ (sb1.trans (Heap.SameBut.update _ a _)) i2))
  ·exact wpAny_pure (wpAny_pure (h _ _ sb1 i1))
theorem Zau {a : Addr} {l : List Int} {k : Int} {tk : Tok} {Q : Value -> Shared -> Prop} (hS : IS P w s.heap a l) (room : l.length + 1 < scanBound)
  (h : ∀ h', Heap.SameBut a s.heap h' -> IS P w h' a (Z45 l k) -> Q .none { s with heap := h', toks := s.toks + 1 }) : wpAny (model P w) A (call (.builtin "set.add") [.ref a, .int k tk]) Q E s := by
 refine wpAny_call_entry F.slot_set_add hS.type F.entry_set_add ?_ (F.args_set_add_2 _ _)
 unfold Builtin.«set.add» Builtin.Frozenset.oneOther
 simp only [List.isEmpty_nil, bind_assoc]
 unfold Builtin.Frozenset.addrOf setAdd
 refine wpAny_bind (wpAny_pure ?_)
 refine wpAny_bind (wpAny_pure ?_)
 refine wpAny_bind (wpAny_holding (wpAny_bind ((intKind P w).pyHash (k := k) (intKind_is _ _ _ _) ?_)))
 refine Z6t (s := { s with toks := s.toks + 1 }) hS room fun h' b hs hS' => ?_
 show wpAny _ _ (ret Value.none) _ _ _
 exact wpAny_pure ⟨_, rfl, h h' hs hS'⟩
end
end Srt
namespace Srt
open PySem PyProof.Rows PySem.Spec
abbrev Z80 (w : World) : Obj := { cls := .type "set", dict := none, data := .set #[] 0 (.fresh 0 0 (!byT w)) }
section
variable {P : Program} {w : World} {A : Around} {E : Value -> Shared -> Prop} {s : Shared}
theorem IS.new {h : Heap} {a : Addr} (e : h.get? a = some (Z80 w)) : IS P w h a [] :=
 ⟨_, #[], 0, _, e, ⟨rfl, rfl, rfl⟩, rfl, fun e he => absurd he (by simp), List.Perm.refl _, List.nodup_nil, by decide, by rfl, List.Pairwise.nil, rfl⟩
theorem Zpi {Q₁ : Value -> Shared -> Prop} (h : Q₁ (.ref s.heap.objs.size) { s with heap := s.heap.push (Z80 w) }) : codeAny (model P w) A (.call (.builtin "set.__new__") ⟨[.type "set"], []⟩) (wants Q₁ E) s := by
 refine codeAny_of_tree ?_
 show wpAny _ A.in1 (checkBuiltinCall "set.__new__" ⟨[.type "set"], []⟩ >>= fun _ => again (.builtin "set.__new__" ⟨[.type "set"], []⟩)) _ _ s
 refine wpAny_bind (wpAny_of_eq F.newCall_set_0 (wpAny_pure ⟨plainId_quiet F.plain_set_new _, codeAny_builtin F.entry_set_new ?k⟩))
 case k =>
  rw [Around.under_plainId F.plain_set_new _]
  have hsub := sub_set_self
  obtain ⟨hp, g, d, tk, os⟩ := s
  unfold Builtin.«set.__new__» Builtin.Frozenset.newClass
  dsimp only
  wp_walk
  refine wpAny_askSetting (wpAny_pure ?j)
  case j =>
   simp only [newObj]
   exact wpAny_bind (wpAny_alloc (wpAny_pure (wpAny_pure h)))
theorem Zpj (a : Value) {Q₁ : Value -> Shared -> Prop} (h : Q₁ (.ref s.heap.objs.size) { s with heap := s.heap.push (Z80 w) }) : codeAny (model P w) A (.call (.builtin "set.__new__") ⟨[.type "set", a], []⟩) (wants Q₁ E) s := by
 refine codeAny_of_tree ?_
 show wpAny _ A.in1 (checkBuiltinCall "set.__new__" ⟨[.type "set", a], []⟩ >>= fun _ => again (.builtin "set.__new__" ⟨[.type "set", a], []⟩)) _ _ s
 refine wpAny_bind (wpAny_of_eq (F.newCall_set_1 a) (wpAny_pure ⟨plainId_quiet F.plain_set_new _, codeAny_builtin F.entry_set_new ?k⟩))
 case k =>
  rw [Around.under_plainId F.plain_set_new _]
  have hsub := sub_set_self
  obtain ⟨hp, g, d, tk, os⟩ := s
  unfold Builtin.«set.__new__» Builtin.Frozenset.newClass
  dsimp only
  wp_walk
  refine wpAny_askSetting (wpAny_pure ?j)
  case j =>
   simp only [newObj]
   exact wpAny_bind (wpAny_alloc (wpAny_pure (wpAny_pure h)))
theorem set0 {Q : Value -> Shared -> Prop} (h : Q (.ref s.heap.objs.size) { s with heap := s.heap.push (Z80 w) }) : wpAny (model P w) A (call (.type "set") []) Q E s := by
 obtain ⟨c, tl, hmro⟩ := F.called_set.mro
 have hmade := F.called_set.made
 have hsub := F.called_set.sub
 have h1 := F.called_set.notType
 have h2 := F.called_set.canCreate
 have hct := F.typeCall_set_0
 refine wpAny_call (codeAny_of_tree ?_)
 show wpAny _ _ (callAny (.type "set") _) _ _ _
 refine wpAny_pure ⟨Code.quiet_builtin _ (by decide +kernel), codeAny_builtin F.entry_type_call ?k⟩
 case k =>
  rw [Around.under_plain (weight_type_call_type "set" [] []) rfl]
  repeat (any_goals (first | assumption | wp_step))
  refine codeAny_mono (Zpi (E := E) (Q₁ := fun v s₁ => v = .ref s.heap.objs.size /\ s₁ = { s with heap := s.heap.push (Z80 w) }) ⟨rfl, rfl⟩) fun r s₁ hr => ?_
  rcases r with e | fl
  ·exact hr
  ·rcases fl with _ | _ | _ | v
   ·exact hr.elim
   ·exact hr.elim
   ·exact hr.elim
   ·obtain ⟨rfl, rfl⟩ := hr
    have hS : (s.heap.push (Z80 w)).get? s.heap.objs.size = some (Z80 w) := Heap.get?_push_size _ rfl
    have hT : Shared.TypeIs { s with heap := s.heap.push (Z80 w) } (.ref s.heap.objs.size) "set" := ⟨_, hS, rfl⟩
    have hli := F.called_set.init.lookup
    have hbi := F.called_set.init.bind (.ref s.heap.objs.size)
    repeat (any_goals (first | assumption | wp_step))
    refine codeAny_mono (codeAny_call_builtin (R := wants (fun r s₂ => r = .none /\ Q (.ref s.heap.objs.size) s₂) E) F.called_set.init.plain F.entry_set_init (check_set_init hT ?goA)) fun r₂ s₂ hr₂ => ?goB
    case goA =>
     unfold Builtin.«set.__init__» noKeywords
     wp_walk
     exact ⟨rfl, h⟩
    case goB =>
     rcases r₂ with e | fl₂
     ·exact hr₂
     ·rcases fl₂ with _ | _ | _ | v
      ·exact hr₂.elim
      ·exact hr₂.elim
      ·exact hr₂.elim
      ·obtain ⟨rfl, hq⟩ := hr₂
       repeat (any_goals (first | assumption | wp_step))
end
def ofL (ns : List Int) : List Int := ns.foldl Z45 []
theorem Zgc (l : List Int) (k : Int) : (Z45 l k).length <= l.length + 1 := by
 unfold Z45
 split
 ·omega
 ·rw [List.length_append]
  exact Nat.le_refl _
theorem Zav (ns : List Int) (k : Int) : ofL (ns ++ [k]) = Z45 (ofL ns) k := by
 unfold ofL
 rw [List.foldl_append]
 rfl
theorem Z9n : ∀ (ns : List Int), (ofL ns).length <= ns.length := by
 have go : ∀ (ns l : List Int), (ns.foldl Z45 l).length <= l.length + ns.length := by
  intro ns
  induction ns with
  | nil => intro l; exact Nat.le_refl _
  | cons a r ih =>
   intro l
   have h1 := ih (Z45 l a)
   have h2 := Zgc l a
   rw [List.foldl_cons, List.length_cons]
   omega
 intro ns
 have := go ns []
 rw [List.length_nil, Nat.zero_add] at this
 exact this
theorem Zgd {l : List Int} {k x : Int} : x ∈ Z45 l k ↔ x ∈ l ∨ x = k := by
 unfold Z45
 by_cases e : k ∈ l
 ·rw [if_pos e]
  exact ⟨.inl, fun h => h.elim id fun z => z ▸ e⟩
 ·rw [if_neg e, List.mem_append, List.mem_singleton]
theorem Z4m (ns : List Int) : ∀ x, x ∈ ofL ns ↔ x ∈ ns := by
 have go : ∀ (ns l : List Int) x, x ∈ ns.foldl Z45 l ↔ x ∈ l ∨ x ∈ ns := by
  intro ns
  induction ns with
  | nil => intro l x; simp
  | cons a r ih =>
   intro l x
   rw [List.foldl_cons, ih, Zgd, List.mem_cons, or_assoc]
 intro x
 have q := go ns [] x
 unfold ofL
 simpa using q
section
variable {P : Program} {w : World} {A : Around} {R : Result -> Shared -> Prop} {I : Addr} {fp wr : List Addr} {G : Array GenState -> Array GenState -> Prop} {n : Nat} {Pv : Nat -> Value -> Prop} {St : Nat -> Shared -> Prop}
theorem Zge (W : WalksS P w A.in1 I fp wr G n Pv St) (S : Addr) (hS : S ∉ fp) (ns : List Int) (hn : ns.length = n) (hv : ∀ i v, Pv i v -> ∃ t, v = .int (ns.getD i 0) t) (hb : n + 1 < scanBound) :
  ∀ (k i : Nat) (s : Shared), n - i = k -> i <= n -> St i s -> IS P w s.heap S (ofL (ns.take i)) -> (∀ s', Moved (S :: wr) G s s' -> IS P w s'.heap S (ofL ns) -> R (.ok (.ret .none)) s') →
   codeAny (model P w) A (.builtin "set.update.loop" ⟨[.ref S, .ref I], []⟩) R s := by
 have hw : S ∉ wr := fun z => hS (W.sub _ z)
 have sub : ∀ b ∈ wr, b ∈ S :: wr := fun b z => List.mem_cons_of_mem _ z
 intro k
 induction k with
 | zero =>
  intro i s hk hi st is hR
  obtain rfl : i = n := by omega
  refine codeAny_builtin F.entry_set_update_loop ?_
  rw [Around.under_plainId F.plain_set_update_loop _]
  show wpAny _ A.in1 (pyNext (.ref I) >>= _) _ _ s
  refine wpAny_bind (W.done s _ _ st fun s' hm => ?_)
  show wpAny _ A.in1 (ret Value.none) _ _ s'
  refine wpAny_pure (hR s' (hm.mono sub) ?_)
  rw [List.take_of_length_le (by omega)] at is
  exact is.keep fun o e => hm.heap S o hw e
 | succ k ih =>
  intro i s hk hi st is hR
  have lt : i < n := by omega
  refine codeAny_builtin F.entry_set_update_loop ?_
  rw [Around.under_plainId F.plain_set_update_loop _]
  show wpAny _ A.in1 (pyNext (.ref I) >>= _) _ _ s
  refine wpAny_bind (W.item i s _ _ lt st fun v s' hP st' hm => ?_)
  obtain ⟨t, rfl⟩ := hv i v hP
  have is' := is.keep (h' := s'.heap) fun o e => hm.heap S o hw e
  show wpAny _ A.in1 (holding [Value.int (ns.getD i 0) t] (setAdd S (.int (ns.getD i 0) t)) >>= _) _ _ s'
  refine wpAny_bind (wpAny_holding ?_)
  unfold setAdd
  refine wpAny_holding (wpAny_bind ((intKind P w).pyHash (k := ns.getD i 0) (intKind_is _ _ _ _) ?_))
  have room : (ofL (ns.take i)).length + 1 < scanBound := by
   have h1 := Z9n (ns.take i)
   rw [List.length_take] at h1
   omega
  refine Z6t (s := { s' with toks := s'.toks + 1 }) is' room fun h' b hs is2 => ?_
  have e : Z45 (ofL (ns.take i)) (ns.getD i 0) = ofL (ns.take (i + 1)) := by
   have q : ns[i]? = some (ns.getD i 0) := by
    rw [List.getD_eq_getElem?_getD, List.getElem?_eq_getElem (by omega)]
    rfl
   rw [List.take_add_one, q, <- Zav]
   rfl
  rw [e] at is2
  refine wpAny_pure ⟨plainId_quiet F.plain_set_update_loop _, ih (i + 1) _ (by omega) lt (W.frame _ s' _ _ st' (Nat.le_succ _) fun b hb o q => ?_) is2 fun s'' hm'' is3 => ?_⟩
  ·rw [hs.2 b fun z => hS (z ▸ hb)]
   exact q
  ·refine hR s'' (Moved.trans W.gtrans ((hm.mono sub).then_heap (Nat.le_succ _) fun b o hb q => ?_) hm'') is3
   rw [hs.2 b fun z => hb (z ▸ List.mem_cons_self)]
   exact q
end
section
variable {P : Program} {w : World} {A : Around} {E : Value -> Shared -> Prop} {s : Shared}
theorem set1 {l : Addr} {vs : List Value} {ns : List Int} {Q : Value -> Shared -> Prop} (hh : A.handled = none) (hl : s.heap.IsList l vs.toArray) (hi : IntsAre vs ns) (hb : vs.length + 1 < scanBound)
  (h : ∀ (h' : Heap) (tk : Nat), IS P w h' s.heap.objs.size (ofL ns) -> (∀ b o, b < s.heap.objs.size -> s.heap.get? b = some o -> h'.get? b = some o) -> Q (.ref s.heap.objs.size) { s with heap := h', toks := tk }) :
  wpAny (model P w) A (call (.type "set") [.ref l]) Q E s := by
 obtain ⟨c, tl, hmro⟩ := F.called_set.mro
 have hmade := F.called_set.made
 have hsub := F.called_set.sub
 have h1 := F.called_set.notType
 have h2 := F.called_set.canCreate
 have hct := F.typeCall_set_1 (.ref l)
 refine wpAny_call (codeAny_of_tree ?_)
 show wpAny _ _ (callAny (.type "set") _) _ _ _
 refine wpAny_pure ⟨Code.quiet_builtin _ (by decide +kernel), codeAny_builtin F.entry_type_call ?k⟩
 case k =>
  rw [Around.under_plain (weight_type_call_type "set" [.ref l] []) rfl]
  repeat (any_goals (first | assumption | wp_step))
  refine codeAny_mono (Zpj (.ref l) (E := E) (Q₁ := fun v s₁ => v = .ref s.heap.objs.size /\ s₁ = { s with heap := s.heap.push (Z80 w) }) ⟨rfl, rfl⟩) fun r s₁ hr => ?_
  rcases r with e | fl
  ·exact hr
  ·rcases fl with _ | _ | _ | v
   ·exact hr.elim
   ·exact hr.elim
   ·exact hr.elim
   ·obtain ⟨rfl, rfl⟩ := hr
    have hS : (s.heap.push (Z80 w)).get? s.heap.objs.size = some (Z80 w) := Heap.get?_push_size _ rfl
    have hT : Shared.TypeIs { s with heap := s.heap.push (Z80 w) } (.ref s.heap.objs.size) "set" := ⟨_, hS, rfl⟩
    have hli := F.called_set.init.lookup
    have hbi := F.called_set.init.bind (.ref s.heap.objs.size)
    repeat (any_goals (first | assumption | wp_step))
    refine codeAny_mono (codeAny_call_builtin (R := wants (fun r s₂ => r = .none /\ ∃ h' tk, s₂ = { s with heap := h', toks := tk } /\ IS P w h' s.heap.objs.size (ofL ns) /\ ∀ b o, b < s.heap.objs.size -> s.heap.get? b = some o -> h'.get? b = some o) E) F.called_set.init.plain F.entry_set_init (check_set_init_1 hT ?goA)) fun r₂ s₂ hr₂ => ?goB
    case goA =>
     obtain ⟨ol, hol, hcl, nl, hdl⟩ := hl
     obtain ⟨ocls, odict, odata, oslots⟩ := ol
     simp only at hcl hdl
     subst hcl hdl
     have hol' : (s.heap.push (Z80 w)).get? l = some { cls := .type "list", dict := odict, data := .seq vs.toArray nl, slots := oslots } := Heap.get?_push_of_some _ hol
     have hsls := F.sub_list_set
     have hslf := F.sub_list_frozenset
     have hne : (Value.type "list" == Value.type "dict") = false := by decide
     have hl1 : (s.heap.push (Z80 w)).IsList l vs.toArray := ⟨_, hol', rfl, nl, rfl⟩
     unfold Builtin.«set.__init__» noKeywords Builtin.Frozenset.updateFrom
     generalize hPI : pyIter = PI
     wp_walk
     subst hPI
     refine wpAny_pyIter_list hl1 ?_
     refine wpAny_bind (wpAny_runValue ?_)
     have lS : l < s.heap.objs.size := Heap.lt_size hol
     have hh3 : A.in1.in1.in1.handled = none := by simp [hh]
     have nI : l ≠ (s.heap.push (Z80 w)).objs.size := by
      rw [Heap.size_push]
      exact Nat.ne_of_lt (Nat.lt_succ_of_lt lS)
     have nS : s.heap.objs.size ∉ [(s.heap.push (Z80 w)).objs.size, l] := by
      rw [Heap.size_push]
      simp only [List.mem_cons, List.not_mem_nil, or_false, not_or]
      exact And.intro (Nat.ne_of_lt (Nat.lt_succ_self _)) (Nat.ne_of_gt lS)
     have hv : ∀ (i : Nat) (v : Value), vs.toArray[i]? = some v -> ∃ t, v = .int (ns.getD i 0) t := fun i v e => IntsAre.int_at hi i v (by simpa using e)
     refine Zge ((Walks.list hh3 _ l nI vs.toArray).toS) s.heap.objs.size nS ns (by rw [<- IntsAre.length hi]; simp) hv (by simpa using hb) (vs.toArray.size - 0) 0 _ rfl (Nat.zero_le _) ⟨⟨_, Heap.get?_push_size _ rfl, rfl, rfl⟩, hl1.push _⟩ ?isA ?rA
     case isA => exact IS.new (Heap.get?_push_of_some _ hS)
     case rA =>
      intro s' hm is'
      obtain ⟨h', g', d', tk', os'⟩ := s'
      obtain rfl : g' = s.gens := hm.gens
      obtain rfl : d' = s.drawn := hm.drawn
      obtain rfl : os' = s.os := hm.os
      show wpAny _ _ _ _ _ _
      refine wpAny_pure ?_
      show wpAny _ _ (ret Value.none) _ _ _
      refine wpAny_pure ⟨rfl, h', tk', rfl, is', fun b o hb e => ?_⟩
      refine hm.heap b o ?_ (Heap.get?_push_of_some _ (Heap.get?_push_of_some _ e))
      rw [Heap.size_push]
      simp only [List.mem_cons, List.not_mem_nil, or_false, not_or]
      exact And.intro (Nat.ne_of_lt hb) (Nat.ne_of_lt (Nat.lt_succ_of_lt hb))
    case goB =>
     rcases r₂ with e | fl₂
     ·exact hr₂
     ·rcases fl₂ with _ | _ | _ | v
      ·exact hr₂.elim
      ·exact hr₂.elim
      ·exact hr₂.elim
      ·obtain ⟨rfl, h', tk, rfl, is', k'⟩ := hr₂
       repeat (any_goals (first | assumption | wp_step))
       exact h _ _ is' k'
end
theorem sl_next : Slot "set_iterator" "__next__" "set_iterator.__next__" := by
 refine .of (owner := "set_iterator") (n := "__next__") ?_ ?_ ?_ ?_ ?_ ?_
 ·rw [typeLookup_type, builtinLookup_eq_fast]
  kernel_rfl
 ·decide +kernel
 ·decide +kernel
 ·decide +kernel
 ·first | exact .inl (by decide +kernel) | exact .inr (by decide +kernel)
 ·rw [isSubtype_type]
  kernel_rfl
theorem Ze3 : Slot "set_iterator" "__iter__" "set_iterator.__iter__" := by
 refine .of (owner := "set_iterator") (n := "__iter__") ?_ ?_ ?_ ?_ ?_ ?_
 ·rw [typeLookup_type, builtinLookup_eq_fast]
  kernel_rfl
 ·decide +kernel
 ·decide +kernel
 ·decide +kernel
 ·first | exact .inl (by decide +kernel) | exact .inr (by decide +kernel)
 ·rw [isSubtype_type]
  kernel_rfl
theorem Z77 : entryFor table "set_iterator.__next__" = some Builtin.«set_iterator.__next__» := entryFor_of_tree (by kernel_rfl)
theorem Zj5 : entryFor table "set.__iter__" = some Builtin.«frozenset.__iter__» := entryFor_alias (id' := "frozenset.__iter__") (by kernel_rfl) rfl (by decide +kernel) (by kernel_rfl)
theorem Zj6 : entryFor table "set_iterator.__iter__" = some Builtin.«dict_keyiterator.__iter__» := entryFor_alias (id' := "dict_keyiterator.__iter__") (by kernel_rfl) rfl (by decide +kernel) (by kernel_rfl)
theorem Z78 (a : Value) : argsOk "set_iterator.__next__" ⟨[a], []⟩ := by
 unfold argsOk
 kernel_rfl
theorem Zj7 (a : Value) : argsOk "set_iterator.__iter__" ⟨[a], []⟩ := by
 unfold argsOk
 kernel_rfl
def SA (h : Heap) (a : Addr) (es : Array (Int × Value)) (ep : Nat) (t : SetTable) : Prop := ∃ o, h.get? a = some o /\ o.ExactSet /\ o.data = .set es ep t /\ t.fits es.size = true
def SI (h : Heap) (it : Addr) (first : Value) (i : Nat) (a : Addr) (n ep : Nat) : Prop := h.get? it = some { cls := .type "set_iterator", data := .fields #[first, .int i 0, .ref a, .int n 0, .int ep 0] }
section
variable {P : Program} {w : World} {A : Around} {E : Value -> Shared -> Prop} {s : Shared}
theorem Z79 {Q : Bool -> Shared -> Prop} (h : Q (byT w) s) : wpAny (model P w) A setsByText Q E s := by
 unfold setsByText
 exact wpAny_bind (wpAny_askSetting (wpAny_pure h))
theorem SI.type {it a : Addr} {first : Value} {i n ep : Nat} (x : SI s.heap it first i a n ep) : s.TypeIs (.ref it) "set_iterator" := ⟨_, x, rfl⟩
theorem SI.set {it a : Addr} {f f' : Value} {i n ep : Nat} {h : Heap} (x : SI h it f i a n ep) : SI ((h.update it (Obj.mapFields (·.setIfInBounds 0 f'))).update it (Obj.mapFields (·.setIfInBounds 1 (rawInt ((i : Int) + 1))))) it f' (i + 1) a n ep := by
 have g1 : (h.update it (Obj.mapFields (·.setIfInBounds 0 f'))).get? it = some { cls := .type "set_iterator", data := .fields #[f', .int i 0, .ref a, .int n 0, .int ep 0] } := Heap.get?_update_self _ x rfl
 exact Heap.get?_update_self _ g1 rfl
theorem SI.set1 {it a : Addr} {f : Value} {i n ep : Nat} {h : Heap} (x : SI h it f i a n ep) : SI (h.update it (Obj.mapFields (·.setIfInBounds 1 (rawInt ((i : Int) + 1))))) it f (i + 1) a n ep := Heap.get?_update_self _ x rfl
theorem Z8t {it a : Addr} {i slot ep nx : Nat} {x : Value} {es : Array (Int × Value)} {t : SetTable} {Q : Option Value -> Shared -> Prop} (hit : SI s.heap it (.int slot 0) i a es.size ep) (hs : SA s.heap a es ep t)
  (hn : ∀ (Q' : Option (Value × Nat) -> Shared -> Prop) E', Q' (some (x, nx)) s -> wpAny (model P w) A.in1 (setNext a slot i ep) Q' E' s)
  (q : ∀ h', SI h' it (.int nx 0) (i + 1) a es.size ep -> Heap.SameBut it s.heap h' -> Q (some x) { s with heap := h' }) : wpAny (model P w) A (pyNext (.ref it)) Q E s := by
 obtain ⟨o, ho, hx, hdat, hf⟩ := hs
 unfold pyNext
 refine wpAny_bind (wpAny_attempt (wpAny_callSpecial?_slot (name := Str.ofString "__next__") hit.type sl_next (wpAny_call_entry sl_next hit.type Z77 ?_ (Z78 _))))
 unfold Builtin.«set_iterator.__next__»
 refine wpAny_bind (wpAny_pure (wpAny_bind (wpAny_fieldsOf hit rfl ?_)))
 dsimp only
 refine wpAny_bind (wpAny_setEntries_of ho hdat hf ?_)
 rw [if_neg (by simp)]
 refine wpAny_bind (hn _ _ ?_)
 dsimp only
 refine wpAny_bind (wpAny_setField hit rfl (by simp) ?_)
 have g1 : (s.heap.update it (Obj.mapFields (·.setIfInBounds 0 (rawInt nx)))).get? it = some { cls := .type "set_iterator", data := .fields #[.int nx 0, .int i 0, .ref a, .int es.size 0, .int ep 0] } := Heap.get?_update_self _ hit rfl
 refine wpAny_bind (wpAny_setField g1 rfl (by simp) ?_)
 exact wpAny_pure ⟨_, rfl, wpAny_pure (q _ hit.set ((Heap.SameBut.update ..).trans (Heap.SameBut.update ..)))⟩
theorem Z8u {it a : Addr} {i slot ep : Nat} {es : Array (Int × Value)} {t : SetTable} {Q : Option Value -> Shared -> Prop} (hh : A.handled = none) (hit : SI s.heap it (.int slot 0) i a es.size ep) (hs : SA s.heap a es ep t)
  (hn : ∀ (Q' : Option (Value × Nat) -> Shared -> Prop) E', Q' none s -> wpAny (model P w) A.in1 (setNext a slot i ep) Q' E' s)
  (q : ∀ h', Heap.ExtBut it s.heap h' -> Q none { s with heap := h' }) : wpAny (model P w) A (pyNext (.ref it)) Q E s := by
 obtain ⟨o, ho, hx, hdat, hf⟩ := hs
 unfold pyNext
 refine wpAny_bind (wpAny_attempt (wpAny_callSpecial?_slot (name := Str.ofString "__next__") hit.type sl_next (wpAny_call_entry sl_next hit.type Z77 ?_ (Z78 _))))
 unfold Builtin.«set_iterator.__next__»
 refine wpAny_bind (wpAny_pure (wpAny_bind (wpAny_fieldsOf hit rfl ?_)))
 dsimp only
 refine wpAny_bind (wpAny_setEntries_of ho hdat hf ?_)
 rw [if_neg (by simp)]
 refine wpAny_bind (hn _ _ ?_)
 dsimp only
 refine wpAny_bind (wpAny_setField hit rfl (by simp) ?_)
 refine wpAny_bind ?_
 simp only [newExc, newTuple]
 refine wpAny_bind (wpAny_newObj_type ?_ (by size_fits))
 refine wpAny_bind (m := firstArgMember _ _) (wpAny_of_eq (a := Value.none) rfl ?_)
 refine wpAny_newObj_type ?_ (by size_fits)
 simp only [raiseNew]
 refine wpAny_bind (wpAny_handled ?_)
 rw [(show A.in1.handled = none from hh)]
 refine wpAny_bind (wpAny_pure (wpAny_throw ?_))
 refine wpAny_bind (wpAny_isInstance (T := "StopIteration") (b := true) ⟨_, Heap.get?_push_size _ rfl, rfl⟩ isSubtype_stop ?_)
 exact wpAny_pure (q _ (((Heap.SameBut.update ..).extBut.push _).push _))
theorem Zce {it a tp : Addr} {i ep : Nat} {es : Array (Int × Value)} {t : SetTable} {ps : List Nat} {p : Nat} {e : Int × Value} {Q : Option Value -> Shared -> Prop} (hit : SI s.heap it (.ref tp) i a es.size ep) (hs : SA s.heap a es ep t)
  (ht : s.heap.get? tp = some { cls := .type "tuple", data := .seq (ps.map fun (k : Nat) => Value.int k 0).toArray 0 }) (hp : ps[i]? = some p) (he : es[p]? = some e)
  (q : ∀ h', SI h' it (.ref tp) (i + 1) a es.size ep -> Heap.SameBut it s.heap h' -> Q (some e.2) { s with heap := h' }) : wpAny (model P w) A (pyNext (.ref it)) Q E s := by
 obtain ⟨o, ho, hx, hdat, hf⟩ := hs
 unfold pyNext
 refine wpAny_bind (wpAny_attempt (wpAny_callSpecial?_slot (name := Str.ofString "__next__") hit.type sl_next (wpAny_call_entry sl_next hit.type Z77 ?_ (Z78 _))))
 unfold Builtin.«set_iterator.__next__»
 refine wpAny_bind (wpAny_pure (wpAny_bind (wpAny_fieldsOf hit rfl ?_)))
 dsimp only
 refine wpAny_bind (wpAny_setEntries_of ho hdat hf ?_)
 rw [if_neg (by simp)]
 refine wpAny_bind (wpAny_seqItems ht rfl ?_)
 have e1 : (ps.map fun (k : Nat) => Value.int k 0).toArray[(i : Int).toNat]? = some (.int p 0) := by
  rw [Int.toNat_natCast, List.getElem?_toArray, List.getElem?_map, hp]
  rfl
 dsimp only
 rw [e1]
 dsimp only
 rw [Int.toNat_natCast, Int.toNat_natCast]
 unfold setNextDrawn
 refine wpAny_bind (wpAny_bind (wpAny_setState_of ho hdat hf ?_))
 dsimp only
 rw [if_neg (by simp), he]
 refine wpAny_pure ?_
 refine wpAny_bind (wpAny_setField hit rfl (by simp) ?_)
 exact wpAny_pure ⟨_, rfl, wpAny_pure (q _ hit.set1 (Heap.SameBut.update ..))⟩
theorem Z6d {it a tp : Addr} {i ep : Nat} {es : Array (Int × Value)} {t : SetTable} {ps : List Nat} {Q : Option Value -> Shared -> Prop} (hh : A.handled = none) (hit : SI s.heap it (.ref tp) i a es.size ep) (hs : SA s.heap a es ep t)
  (ht : s.heap.get? tp = some { cls := .type "tuple", data := .seq (ps.map fun (k : Nat) => Value.int k 0).toArray 0 }) (hp : ps[i]? = none)
  (q : ∀ h', Heap.ExtBut it s.heap h' -> Q none { s with heap := h' }) : wpAny (model P w) A (pyNext (.ref it)) Q E s := by
 obtain ⟨o, ho, hx, hdat, hf⟩ := hs
 unfold pyNext
 refine wpAny_bind (wpAny_attempt (wpAny_callSpecial?_slot (name := Str.ofString "__next__") hit.type sl_next (wpAny_call_entry sl_next hit.type Z77 ?_ (Z78 _))))
 unfold Builtin.«set_iterator.__next__»
 refine wpAny_bind (wpAny_pure (wpAny_bind (wpAny_fieldsOf hit rfl ?_)))
 dsimp only
 refine wpAny_bind (wpAny_setEntries_of ho hdat hf ?_)
 rw [if_neg (by simp)]
 refine wpAny_bind (wpAny_seqItems ht rfl ?_)
 have e1 : (ps.map fun (k : Nat) => Value.int k 0).toArray[(i : Int).toNat]? = none := by
  rw [Int.toNat_natCast, List.getElem?_toArray, List.getElem?_map, hp]
  rfl
 dsimp only
 rw [e1]
 dsimp only
 refine wpAny_bind (wpAny_setField hit rfl (by simp) ?_)
 have g1 : (s.heap.update it (Obj.mapFields (·.setIfInBounds 0 (rawInt 0)))).get? it = some { cls := .type "set_iterator", data := .fields #[.int 0 0, .int i 0, .ref a, .int es.size 0, .int ep 0] } := Heap.get?_update_self _ hit rfl
 refine wpAny_bind (wpAny_setField g1 rfl (by simp) ?_)
 refine wpAny_bind ?_
 simp only [newExc, newTuple]
 refine wpAny_bind (wpAny_newObj_type ?_ (by size_fits))
 refine wpAny_bind (m := firstArgMember _ _) (wpAny_of_eq (a := Value.none) rfl ?_)
 refine wpAny_newObj_type ?_ (by size_fits)
 simp only [raiseNew]
 refine wpAny_bind (wpAny_handled ?_)
 rw [(show A.in1.handled = none from hh)]
 refine wpAny_bind (wpAny_pure (wpAny_throw ?_))
 refine wpAny_bind (wpAny_isInstance (T := "StopIteration") (b := true) ⟨_, Heap.get?_push_size _ rfl, rfl⟩ isSubtype_stop ?_)
 exact wpAny_pure (q _ ((((Heap.SameBut.update ..).trans (Heap.SameBut.update ..)).extBut.push _).push _))
theorem Zaw {a : Addr} {i slot ep : Nat} {es : Array (Int × Value)} {t : SetTable} {Q : Option (Value × Nat) -> Shared -> Prop} (hs : SA s.heap a es ep t) (hb : byT w = false) (hd : (!t.plain && decide (es.size > 1)) = false) (hl : t.led = true)
  (q : Q (match es[SetTable.below t.place slot]?, t.place[SetTable.below t.place slot]? with | some (_, x), some j => some (x, j + 1) | _, _ => none) s) : wpAny (model P w) A (setNext a slot i ep) Q E s := by
 obtain ⟨o, ho, hx, hdat, hf⟩ := hs
 unfold setNext
 refine wpAny_bind (wpAny_setState_of ho hdat hf ?_)
 dsimp only
 refine wpAny_bind (Z79 ?_)
 rw [hb, if_neg Bool.false_ne_true]
 split
 ·next z =>
  have z : (!t.plain && decide (es.size > 1)) = true := z
  rw [hd] at z
  cases z
 ·refine wpAny_bind ?_
  show wpAny (model P w) A (if (!t.led && !es.isEmpty) = true then unsupported "set:maker-not-led" else pure PUnit.unit) _ _ _
  rw [hl, if_neg (by simp)]
  exact wpAny_pure (wpAny_pure q)
theorem Z46 {a : Addr} {i slot ep : Nat} {es : Array (Int × Value)} {t : SetTable} {Q : Option (Value × Nat) -> Shared -> Prop} (hs : SA s.heap a es ep t) (hb : byT w = true)
  (q : Q (((pickOrder (w.params.setOrder a ep) es)[i]?).map fun e => (e.2, slot)) s) : wpAny (model P w) A (setNext a slot i ep) Q E s := by
 obtain ⟨o, ho, hx, hdat, hf⟩ := hs
 unfold setNext
 refine wpAny_bind (wpAny_setState_of ho hdat hf ?_)
 dsimp only
 refine wpAny_bind (Z79 ?_)
 rw [hb, if_pos rfl, if_neg (by simp)]
 unfold setWalk
 refine wpAny_bind (wpAny_bind (wpAny_setState_of ho hdat hf ?_))
 dsimp only
 refine wpAny_bind (Z79 ?_)
 rw [hb, if_pos rfl]
 refine wpAny_bind (wpAny_askSetting (wpAny_pure (wpAny_pure q)))
end
section
variable {P : Program} {w : World} {A : Around}
theorem SI.at {h h' : Heap} {it a : Addr} {f : Value} {i n ep : Nat} (x : SI h it f i a n ep) (k : ∀ o, h.get? it = some o -> h'.get? it = some o) : SI h' it f i a n ep := k _ x
theorem SA.at {h h' : Heap} {a : Addr} {es : Array (Int × Value)} {ep : Nat} {t : SetTable} (x : SA h a es ep t) (k : ∀ o, h.get? a = some o -> h'.get? a = some o) : SA h' a es ep t := by
 obtain ⟨o, ho, r⟩ := x
 exact ⟨o, k o ho, r⟩
theorem Z5t {it a : Addr} {f : Value} {i n ep : Nat} {s : Shared} {Q : Value -> Shared -> Prop} {E : Value -> Shared -> Prop} (hit : SI s.heap it f i a n ep) (h : Q (.ref it) s) : wpAny (model P w) A (pyIter (.ref it)) Q E s := by
 refine wpAny_pyIter_slot hit.type Ze3 (wpAny_call_entry Ze3 hit.type Zj6 ?_ (Zj7 _))
 show wpAny _ _ (ret (.ref it)) _ _ s
 exact wpAny_pure ⟨_, rfl, "set_iterator", _, hit.type, sl_next.lookup, h⟩
def at0 (t : SetTable) (i : Nat) : Nat := if i = 0 then 0 else t.place.getD (i - 1) 0 + 1
theorem Z8v {t : SetTable} (hr : Rs t.place) {i : Nat} (hi : i <= t.place.size) : SetTable.below t.place (at0 t i) = i := by
 unfold at0
 by_cases e : i = 0
 ·subst e
  rw [if_pos rfl]
  exact Zat hr (Nat.zero_le _) (fun i q r => absurd r (by omega)) fun i q r => Nat.zero_le _
 ·rw [if_neg e]
  have g : t.place.getD (i - 1) 0 = t.place[i - 1] := by rw [Array.getD_eq_getD_getElem?, getElem?_pos t.place _ (by omega)]; rfl
  rw [g]
  refine Zat hr hi (fun k q r => ?_) fun k q r => ?_
  ·exact Nat.lt_succ_of_le (hr.le (by omega) (by omega))
  ·exact hr.lt (by omega) q
theorem Zcf (hh : A.handled = none) (it a : Addr) (hne : a ≠ it) (es : Array (Int × Value)) (ep : Nat) (t : SetTable) (hb : byT w = false) (hd : (!t.plain && decide (es.size > 1)) = false) (hl : t.led = true) (hr : Rs t.place) (hz : t.place.size = es.size) :
  Walks P w A it [it, a] [it] es.size (fun i v => (es.toList.map (·.2))[i]? = some v) (fun i h => SI h it (.int (at0 t i : Nat) 0) i a es.size ep /\ SA h a es ep t) where
 sub := fun b h => by simp at h; simp [h]
 frame := fun _ _ _ st hk => ⟨st.1.at fun o e => hk it (by simp) o e, st.2.at fun o e => hk a (by simp) o e⟩
 item := fun i s Q E hi st q => by
  have hj : t.place[i]? = some t.place[i] := getElem?_pos _ _ (by omega)
  have he : es[i]? = some es[i] := getElem?_pos es i hi
  refine Z8t (x := es[i].2) (nx := t.place[i] + 1) st.1 st.2 (fun Q' E' q' => Zaw st.2 hb hd hl ?_) fun h' si sb => ?_
  ·rw [Z8v hr (by omega), hj, he]
   exact q'
  ·have e1 : at0 t (i + 1) = t.place[i] + 1 := by
    unfold at0
    rw [if_neg (by omega), Nat.add_sub_cancel, Array.getD_eq_getD_getElem?, hj]
    rfl
   refine q _ h' s.toks (by rw [List.getElem?_map, Array.getElem?_toList, he]; rfl) ⟨by rw [e1]; exact si, st.2.at fun o e => sb.extBut a o hne e⟩ fun b o hb' e => sb.extBut b o (fun z => hb' (by simp [z])) e
 done := fun s Q E st q => by
  refine Z8u hh st.1 st.2 (fun Q' E' q' => Zaw st.2 hb hd hl ?_) fun h' he => q h' s.toks fun b o hb' e => he b o (fun z => hb' (by simp [z])) e
  rw [Z8v hr (by omega), getElem?_neg es _ (by omega)]
  exact q'
 self := fun _ _ _ _ st q => Z5t st.1 q
theorem Ze4 (hh : A.handled = none) (it a : Addr) (hne : a ≠ it) (es : Array (Int × Value)) (ep : Nat) (t : SetTable) (hb : byT w = true) :
  Walks P w A it [it, a] [it] es.size (fun i v => ((pickOrder (w.params.setOrder a ep) es).toList.map (·.2))[i]? = some v) (fun i h => SI h it (.int (0 : Nat) 0) i a es.size ep /\ SA h a es ep t) where
 sub := fun b h => by simp at h; simp [h]
 frame := fun _ _ _ st hk => ⟨st.1.at fun o e => hk it (by simp) o e, st.2.at fun o e => hk a (by simp) o e⟩
 item := fun i s Q E hi st q => by
  have sz : (pickOrder (w.params.setOrder a ep) es).size = es.size := by
   have z := (Z5s (w.params.setOrder a ep) es).length_eq
   simpa using z
  have he : (pickOrder (w.params.setOrder a ep) es)[i]? = some (pickOrder (w.params.setOrder a ep) es)[i] := getElem?_pos _ _ (by omega)
  refine Z8t (x := (pickOrder (w.params.setOrder a ep) es)[i].2) (nx := 0) st.1 st.2 (fun Q' E' q' => Z46 st.2 hb ?_) fun h' si sb => ?_
  ·rw [he]
   exact q'
  ·refine q _ h' s.toks (by rw [List.getElem?_map, Array.getElem?_toList, he]; rfl) ⟨si, st.2.at fun o e => sb.extBut a o hne e⟩ fun b o hb' e => sb.extBut b o (fun z => hb' (by simp [z])) e
 done := fun s Q E st q => by
  have sz : (pickOrder (w.params.setOrder a ep) es).size = es.size := by
   have z := (Z5s (w.params.setOrder a ep) es).length_eq
   simpa using z
  refine Z8u hh st.1 st.2 (fun Q' E' q' => Z46 st.2 hb ?_) fun h' he => q h' s.toks fun b o hb' e => he b o (fun z => hb' (by simp [z])) e
  rw [getElem?_neg _ _ (by omega)]
  exact q'
 self := fun _ _ _ _ st q => Z5t st.1 q
theorem Zcg (hh : A.handled = none) (it a tp : Addr) (hne : a ≠ it) (hne2 : tp ≠ it) (es : Array (Int × Value)) (ep : Nat) (t : SetTable) (ps : List Nat) (hps : ps.Perm (List.range es.size)) :
  Walks P w A it [it, a, tp] [it] es.size (fun i v => (ps.map fun p => (es.getD p (0, .none)).2)[i]? = some v)
   (fun i h => SI h it (.ref tp) i a es.size ep /\ SA h a es ep t /\ h.get? tp = some { cls := .type "tuple", data := .seq (ps.map fun (k : Nat) => Value.int k 0).toArray 0 }) where
 sub := fun b h => by simp at h; simp [h]
 frame := fun _ _ _ st hk => ⟨st.1.at fun o e => hk it (by simp) o e, st.2.1.at fun o e => hk a (by simp) o e, hk tp (by simp) _ st.2.2⟩
 item := fun i s Q E hi st q => by
  have lp : ps.length = es.size := by rw [hps.length_eq, List.length_range]
  have hp : ps[i]? = some ps[i] := getElem?_pos _ _ (by omega)
  have lt : ps[i] < es.size := List.mem_range.mp (hps.mem_iff.mp (List.getElem_mem ..))
  have he : es[ps[i]]? = some es[ps[i]] := getElem?_pos es ps[i] lt
  refine Zce st.1 st.2.1 st.2.2 hp he fun h' si sb => ?_
  refine q _ h' s.toks ?_ ⟨si, st.2.1.at fun o e => sb.extBut a o hne e, sb.extBut tp _ hne2 st.2.2⟩ fun b o hb' e => sb.extBut b o (fun z => hb' (by simp [z])) e
  rw [List.getElem?_map, hp, Option.map_some, Array.getD_eq_getD_getElem?, he]
  rfl
 done := fun s Q E st q => by
  have lp : ps.length = es.size := by rw [hps.length_eq, List.length_range]
  refine Z6d hh st.1 st.2.1 st.2.2 (getElem?_neg _ _ (by omega)) fun h' he => q h' s.toks fun b o hb' e => he b o (fun z => hb' (by simp [z])) e
 self := fun _ _ _ _ st q => Z5t st.1 q
end
theorem Z7a {P : Program} {w : World} : ∀ {l : List (Int × Value)}, ElemsOf (intKind P w) l -> IntsAre (l.map (·.2)) (l.map fun e => numOf e.2)
 | [], _ => .nil
 | e :: r, h => by
  obtain ⟨⟨k, hk, _⟩, _⟩ := h.head
  obtain ⟨t, e'⟩ := Value.isInt_shape hk
  have q := Z7a h.tail
  rw [List.map_cons, List.map_cons, e']
  exact .cons k t q
theorem Ze5 (es : Array (Int × Value)) : ((List.range es.size).map fun p => (es.getD p (0, .none)).2) = es.toList.map (·.2) := by
 refine List.ext_getElem? fun i => ?_
 rw [List.getElem?_map, List.getElem?_map]
 have e : es.toList[i]? = es[i]? := Array.getElem?_toList
 rw [e]
 by_cases hi : i < es.size
 ·rw [List.getElem?_range hi, getElem?_pos es i hi, Option.map_some, Option.map_some, Array.getD_eq_getD_getElem?, getElem?_pos es i hi]
  rfl
 ·rw [getElem?_neg es i hi, List.getElem?_eq_none (by simpa using hi)]
  rfl
section
variable {P : Program} {w : World} {A : Around} {E : Value -> Shared -> Prop} {s : Shared}
theorem Zgf {a : Addr} {l : List Int} {Q : Value -> Shared -> Prop} (hS : IS P w s.heap a l)
  (q : ∀ (it : Addr) (h' : Heap) (d : Drawn) (fp : List Addr) (seq : List Value) (ns : List Int) (St : Nat -> Heap -> Prop), (∀ A' : Around, A'.handled = none -> Walks P w A' it fp [it] seq.length (fun i v => seq[i]? = some v) St) -> St 0 h' -> IntsAre seq ns -> ns.Perm l →
   s.heap.objs.size <= it -> (∀ b ∈ fp, b = a ∨ s.heap.objs.size <= b) -> (∀ b o, s.heap.get? b = some o -> h'.get? b = some o) -> Q (.ref it) { s with heap := h', drawn := d }) : wpAny (model P w) A (pyIter (.ref a)) Q E s := by
 have hT := hS.type
 obtain ⟨o, es, ep, t, ho, hx, hdat, hel, hpm, hnd, hb, hf, hr, hled⟩ := hS
 have hz : t.place.size = es.size := by
  unfold SetTable.fits at hf
  rw [Bool.and_eq_true] at hf
  exact beq_iff_eq.mp hf.1
 have alt : a < s.heap.objs.size := Heap.lt_size ho
 refine wpAny_pyIter_slot hT F.slot_set_iter (wpAny_call_entry F.slot_set_iter hT Zj5 ?_ (F.args_set_iter_1 _))
 unfold Builtin.«frozenset.__iter__»
 refine wpAny_bind (wpAny_pure ?_)
 unfold Builtin.Frozenset.sizeOf
 refine wpAny_bind (wpAny_bind (wpAny_setEntries_of ho hdat hf (wpAny_pure ?_)))
 unfold setDrawn
 refine wpAny_bind (wpAny_bind (wpAny_setState_of ho hdat hf ?_))
 dsimp only
 refine wpAny_bind (Z79 (wpAny_pure ?_))
 have em : (es.toList.map fun e => numOf e.2) = (es.toList.map (·.2)).map numOf := by
  rw [List.map_map]
  rfl
 have lt1 : ∀ o', (s.heap.push o').objs.size = s.heap.objs.size + 1 := fun o' => Heap.size_push _ _
 split
 ·refine wpAny_bind (Z8s es.size (List.range es.size) s _ (by simp) fun ps d hps => ?_)
  have lp : ps.length = es.size := by rw [hps.length_eq, List.length_range]
  refine wpAny_bind (wpAny_newTuple ?_ (by rw [List.length_map, lp]; exact fits_of_scanBound hb))
  refine wpAny_bind (wpAny_setEpoch_of (Heap.get?_push_of_some _ ho) hdat hf ?_)
  refine wpAny_bind (wpAny_newObj_type (wpAny_pure ⟨_, rfl, "set_iterator", _, ⟨_, Heap.get?_push_size _ rfl, rfl⟩, sl_next.lookup, ?_⟩))
  have sl : (ps.map fun p => (es.getD p (0, .none)).2).length = es.size := by rw [List.length_map, lp]
  have e1 := Ze5 es
  have pm := hps.map fun p => (es.getD p (0, .none)).2
  rw [e1] at pm
  have hI : ∀ v ∈ ps.map (fun p => (es.getD p (0, .none)).2), ∃ n t, v = .int n t := fun v hv => (Z7a hel).all v (pm.mem_iff.mp hv)
  show Q (.ref (s.heap.push { cls := .type "tuple", data := .seq (ps.map fun (k : Nat) => Value.int k 0).toArray 0 }).objs.size) { s with heap := _, drawn := d }
  rw [lt1]
  refine q _ _ d [s.heap.objs.size + 1, a, s.heap.objs.size] (ps.map fun p => (es.getD p (0, .none)).2) _ (fun i h => SI h (s.heap.objs.size + 1) (.ref s.heap.objs.size) i a es.size ep /\ SA h a es ep t /\ h.get? s.heap.objs.size = some { cls := .type "tuple", data := .seq (ps.map fun (k : Nat) => Value.int k 0).toArray 0 })
   (fun A' hh => ?_) ?_ (intsAre_map _ hI) ?_ ?_ ?_ ?_
  ·rw [sl]
   exact Zcg hh _ a _ (Nat.ne_of_lt (Nat.lt_succ_of_lt alt)) (Nat.ne_of_lt (Nat.lt_succ_self _)) es ep t ps hps
  ·refine ⟨?_, ⟨o, Heap.get?_push_of_some _ (Heap.get?_push_of_some _ ho), hx, hdat, hf⟩, Heap.get?_push_of_some _ (Heap.get?_push_size _ rfl)⟩
   have g := Heap.get?_push_size (s.heap.push { cls := .type "tuple", data := .seq (ps.map fun (k : Nat) => Value.int k 0).toArray 0 }) (o := { cls := .type "set_iterator", data := .fields #[.ref s.heap.objs.size, .int (0 : Nat) 0, .ref a, .int es.size 0, .int ep 0] }) rfl
   rw [lt1] at g
   exact g
  ·refine List.Perm.trans ?_ hpm
   rw [em]
   exact pm.map numOf
  ·exact Nat.le_succ _
  ·intro b hb'
   simp only [List.mem_cons, List.not_mem_nil, or_false] at hb'
   rcases hb' with rfl | rfl | rfl
   ·exact .inr (Nat.le_succ _)
   ·exact .inl rfl
   ·exact .inr (Nat.le_refl _)
  ·exact fun b o' e => Heap.get?_push_of_some _ (Heap.get?_push_of_some _ e)
 ·next z =>
  refine wpAny_bind (wpAny_pure ?_)
  refine wpAny_bind (wpAny_setEpoch_of ho hdat hf ?_)
  refine wpAny_bind (wpAny_newObj_type (wpAny_pure ⟨_, rfl, "set_iterator", _, ⟨_, Heap.get?_push_size _ rfl, rfl⟩, sl_next.lookup, ?_⟩))
  have sa : SA (s.heap.push { cls := .type "set_iterator", data := .fields #[.int (0 : Nat) 0, .int (0 : Nat) 0, .ref a, .int es.size 0, .int ep 0] }) a es ep t := ⟨o, Heap.get?_push_of_some _ ho, hx, hdat, hf⟩
  have fpl : ∀ b ∈ [s.heap.objs.size, a], b = a ∨ s.heap.objs.size <= b := fun b hb' => by
   simp only [List.mem_cons, List.not_mem_nil, or_false] at hb'
   rcases hb' with rfl | rfl
   ·exact .inr (Nat.le_refl _)
   ·exact .inl rfl
  by_cases ht : byT w = true
  ·have pm := (Z5s (w.params.setOrder a ep) es).map (·.2)
   have sl : ((pickOrder (w.params.setOrder a ep) es).toList.map (·.2)).length = es.size := by rw [pm.length_eq, List.length_map, Array.length_toList]
   have hI : ∀ v ∈ (pickOrder (w.params.setOrder a ep) es).toList.map (·.2), ∃ n t, v = .int n t := fun v hv => (Z7a hel).all v (pm.mem_iff.mp hv)
   refine q _ _ s.drawn [s.heap.objs.size, a] ((pickOrder (w.params.setOrder a ep) es).toList.map (·.2)) _ (fun i h => SI h s.heap.objs.size (.int (0 : Nat) 0) i a es.size ep /\ SA h a es ep t) (fun A' hh => ?_) ⟨Heap.get?_push_size _ rfl, sa⟩ (intsAre_map _ hI) ?_ (Nat.le_refl _) fpl fun b o' e => Heap.get?_push_of_some _ e
   ·rw [sl]
    exact Ze4 hh _ a (Nat.ne_of_lt alt) es ep t ht
   ·refine List.Perm.trans ?_ hpm
    rw [em]
    exact pm.map numOf
  ·have hf0 : byT w = false := Bool.not_eq_true _ ▸ ht
   have hd : (!t.plain && decide (es.size > 1)) = false := by
    have z : ¬ ((!byT w && (!t.plain && decide (es.size > 1))) = true) := z
    rw [hf0] at z
    simpa using z
   have sl : (es.toList.map (·.2)).length = es.size := by rw [List.length_map, Array.length_toList]
   refine q _ _ s.drawn [s.heap.objs.size, a] (es.toList.map (·.2)) _ (fun i h => SI h s.heap.objs.size (.int (at0 t i : Nat) 0) i a es.size ep /\ SA h a es ep t) (fun A' hh => ?_) ⟨Heap.get?_push_size _ rfl, sa⟩ (Z7a hel) hpm (Nat.le_refl _) fpl fun b o' e => Heap.get?_push_of_some _ e
   rw [sl]
   exact Zcf hh _ a (Nat.ne_of_lt alt) es ep t hf0 hd (by rw [hled, hf0]; rfl) hr hz
end
section
variable {P : Program} {w : World} {A : Around} {E : Value -> Shared -> Prop} {s : Shared}
theorem Zhz {α : Type} {M : Model} {c : Prop} [Decidable c] {t e : Sem α} {Q : α -> Shared -> Prop} (hc : c) (h : wpAny M A t Q E s) : wpAny M A (if c then t else e) Q E s := by
 rw [if_pos hc]
 exact h
theorem Zlv : splitId "set.__len__" = some ("set", "__len__") := by decide +kernel
theorem Zgg {a : Addr} {Q : Bool -> Shared -> Prop} (hT : s.TypeIs (.ref a) "set") (h : Q false s) : wpAny (model P w) A (Builtin.List.listLengthHint (.ref a)) Q E s := by
 unfold Builtin.List.listLengthHint
 refine wpAny_bind (wpAny_specialOf hT F.slot_set_len.lookup ?_)
 dsimp only
 rw [Zlv]
 dsimp only
 refine wpAny_bind (wpAny_isInstance (b := true) hT sub_set_self ?_)
 rw [if_neg (by decide)]
 refine Zhz (by decide +kernel) ?_
 refine wpAny_bind (wpAny_typeOf hT ?_)
 exact wpAny_pure h
theorem Zj8 {a b : Addr} (h : a ≠ b) : Builtin.List.listSameRef (.ref a) (.ref b) = false := by
 unfold Builtin.List.listSameRef
 simp [h]
theorem Z9o {a : Addr} {l : List Int} {Q : List Value -> Shared -> Prop} (hh : A.handled = none) (hS : IS P w s.heap a l)
  (q : ∀ (vs : List Value) (ns : List Int) (s' : Shared), IntsAre vs ns -> ns.Perm l -> s'.gens = s.gens -> s'.os = s.os -> (∀ b o, s.heap.get? b = some o -> s'.heap.get? b = some o) -> Q vs s') : wpAny (model P w) A (collect (.ref a)) Q E s := by
 have alt : a < s.heap.objs.size := by
  obtain ⟨o, es, ep, t, ho, _⟩ := hS
  exact Heap.lt_size ho
 have hl : l.length < scanBound := by
  obtain ⟨o, es, ep, t, ho, hx, hdat, hel, hpm, hnd, hb, hf, hr, hled⟩ := hS
  rw [<- hpm.length_eq, List.length_map, Array.length_toList]
  exact hb
 unfold collect
 refine wpAny_bind (wpAny_runValue (codeAny_builtin F.entry_proto_collect ?_))
 rw [Around.under_plainId F.plain_proto_collect _]
 show wpAny _ A.in1 (newList [] >>= fun z => again (.builtin "list.__iadd__" ⟨[z, .ref a], []⟩)) _ _ s
 refine wpAny_bind (wpAny_newObj_type (wpAny_pure ⟨plainId_quiet F.plain_list_iadd _, codeAny_builtin F.entry_list_iadd ?_⟩))
 rw [Around.under_plainId F.plain_list_iadd _]
 have g0 : (s.heap.push (seqObj "list" #[] 0)).get? s.heap.objs.size = some (seqObj "list" #[] 0) := Heap.get?_push_size _ rfl
 have hS1 : IS P w (s.heap.push (seqObj "list" #[] 0)) a l := hS.keep fun o e => Heap.get?_push_of_some _ e
 show wpAny _ A.in1 (Builtin.List.listExtendWith (.ref s.heap.objs.size) (.ref a) (.ref s.heap.objs.size)) _ _ { s with heap := s.heap.push (seqObj "list" #[] 0) }
 unfold Builtin.List.listExtendWith
 refine wpAny_bind (wpAny_typeOf (s := { s with heap := s.heap.push (seqObj "list" #[] 0) }) (T := "set") (IS.type (s := { s with heap := s.heap.push (seqObj "list" #[] 0) }) hS1) ?_)
 rw [if_neg (by rw [Zj8 (Nat.ne_of_gt alt)]; decide)]
 refine wpAny_bind (Zgf (s := { s with heap := s.heap.push (seqObj "list" #[] 0) }) hS1 fun it h' d fp seq ns St W st hi hp hit hfp hk => ?_)
 have hT' : Shared.TypeIs { s with heap := h', drawn := d } (.ref a) "set" := IS.type (s := { s with heap := h', drawn := d }) (hS1.keep fun o e => hk a o e)
 refine wpAny_bind (wpAny_holding (Zgg hT' ?_))
 have g1 : h'.get? s.heap.objs.size = some (seqObj "list" #[] 0) := hk _ _ g0
 dsimp only
 refine Zhz (by decide +kernel) ?_
 refine wpAny_bind (wpAny_rule ?_)
 have lz : l.length <= sizeLine := fits_of_scanBound hl
 have ls : seq.length = l.length := by rw [IntsAre.length hi, hp.length_eq]
 have nS : s.heap.objs.size ∉ fp := fun z => by
  rcases hfp _ z with e | e
  ·exact absurd alt (e ▸ Nat.lt_irrefl _)
  ·have e : (s.heap.push (seqObj "list" #[] 0)).objs.size <= s.heap.objs.size := e
   rw [Heap.size_push] at e
   exact absurd e (Nat.not_succ_le_self _)
 unfold Builtin.List.listTouch
 refine wpAny_bind (wpAny_bind (listUpdate_at (s := { s with heap := h', drawn := d }) g1 rfl ?_))
 have g2 := get?_update_seq g1 (fun x => x.push .none)
 refine listUpdate_at (s := { s with heap := h'.update s.heap.objs.size (Obj.mapSeq fun x => x.push .none), drawn := d }) g2 rfl ?_
 have g3 := get?_update_seq g2 (fun x => x.pop)
 have oth : ∀ b o, b ≠ s.heap.objs.size -> h'.get? b = some o -> ((h'.update s.heap.objs.size (Obj.mapSeq fun x => x.push .none)).update s.heap.objs.size (Obj.mapSeq fun x => x.pop)).get? b = some o := fun b o hb e => by
  rw [Heap.get?_update_ne _ _ _ _ hb, Heap.get?_update_ne _ _ _ _ hb]
  exact e
 have WS := (W A.in1 hh).toS
 refine wpAny_pure ⟨plainId_quiet F.plain_extend_loop _, codeAny_extend_loopS WS (by omega) _ nS _ seq.length 0 _ _ _ rfl (Nat.zero_le _) (WS.frame 0 { s with heap := h', drawn := d } _ s.toks st (Nat.le_refl _) fun b hb o e => oth b o (fun z => nS (z ▸ hb)) e) g3 (ItemsOf.nil _) fun s' acc' c' hm g4 hacc => ?_⟩
 show wpAny _ A (load s.heap.objs.size >>= _) _ _ s'
 refine wpAny_bind (wpAny_load g4 ?_)
 have ev : acc'.toList = seq := by
  have lv : acc'.size = seq.length := hacc.1
  refine List.ext_getElem? fun j => ?_
  rw [Array.getElem?_toList]
  by_cases hj : j < acc'.size
  ·have e1 : acc'[j]? = some acc'[j] := getElem?_pos acc' j hj
   rw [e1]
   exact (hacc.2 j _ e1).symm
  ·rw [getElem?_neg acc' j hj, List.getElem?_eq_none (by omega)]
 refine wpAny_pure ?_
 rw [ev]
 refine q seq ns s' hi hp hm.gens hm.os fun b o e => ?_
 have bl : b < s.heap.objs.size := Heap.lt_size e
 refine hm.heap b o ?_ (oth b o (Nat.ne_of_lt bl) (hk b o (Heap.get?_push_of_some _ e)))
 have it1 : s.heap.objs.size + 1 <= it := by
  have z : (s.heap.push (seqObj "list" #[] 0)).objs.size <= it := hit
  rw [Heap.size_push] at z
  exact z
 simp only [List.mem_cons, List.not_mem_nil, or_false, not_or]
 exact And.intro (Nat.ne_of_lt bl) (Nat.ne_of_lt (Nat.lt_trans bl it1))
end
end Srt
namespace L2
open PySem PySem.Spec PyProof.Rows Srt
def Z81 (P : Program) (w : World) (a : Addr) (l : List Int) : HO := .ext fun h => IS P w h a l
section
variable {X : Cx} {pins : List (Addr × Obj)} {σ : St} {H : Hp} {s : Shared}
theorem Inv.iset {a : Addr} {l : List Int} (I : Inv X pins σ H s) (h : H a = some (Z81 X.prog X.w a l)) : IS X.prog X.w s.heap a l := (I.hok a _ h).1
theorem Z7b {P : Program} {w : World} {H : Hp} {h : Heap} {a : Addr} {l : List Int} (x : IS P w h a l) : ObjOk P w H h a (Z81 P w a l) := by
 refine ⟨x, ?_, fun h1 h2 y k => y.keep k⟩
 obtain ⟨o, es, ep, t, ho, _⟩ := x
 exact ⟨o, ho⟩
theorem Ze6 : Z3k X (.type "set") (fun xs H Q => xs = [] /\ ∀ a, H a = none -> Q (.ref a) (upd H a (Z81 X.prog X.w a []))) := by
 intro pins s σ H xs us Q I r h
 obtain ⟨rfl, q⟩ := h
 cases r
 refine Srt.set0 ?_
 exact ⟨.ref s.heap.objs.size, _, I.laid (t' := s.toks) (fun _ _ e => Heap.get?_push_of_some _ e) (Nat.le_refl _) (Z7b (IS.new (Heap.get?_push_size _ rfl))), rfl, q _ (I.hok.fresh (Nat.le_refl _))⟩
theorem Z7c : ∀ {ns : List Int} {us : List Value}, Vals (ns.map V.int) us -> IntsAre us ns
 | [], _, .nil => .nil
 | n :: r, _, .cons ⟨t, e⟩ h => by
  subst e
  exact .cons n t (Z7c h)
theorem Zax : ∀ {ns : List Int} {us : List Value}, IntsAre us ns -> Vals (ns.map V.int) us
 | _, _, .nil => .nil
 | _, _, .cons n t h => .cons ⟨t, rfl⟩ (Zax h)
theorem Ze7 (hc : X.calm = true) : Z3k X (.type "set") (fun xs H Q => ∃ (p : Addr) (ns : List Int), xs = [.ref p] /\ SqL X.K H p (ns.map V.int) /\ ns.length <= 1000 /\ ∀ a, H a = none -> Q (.ref a) (upd H a (Z81 X.prog X.w a (ofL ns)))) := by
 intro pins s σ H xs us Q I r h
 obtain ⟨p, ns, rfl, hq, hz, q⟩ := h
 obtain ⟨u, rfl, rx⟩ := Z84 r
 cases rx
 obtain ⟨its, r', pl, _⟩ := I.list hq
 have hI := Z7c r'
 have hlen : its.length = ns.length := IntsAre.length hI
 refine Srt.set1 (I.ok.hd hc) pl.isList hI (by show its.length + 1 < 4096; omega) fun h' tk is k => ?_
 exact ⟨.ref s.heap.objs.size, _, I.laid (t' := tk) (fun b o e => k b o (Heap.lt_size e) e) (Nat.le_refl _) (Z7b is), rfl, q _ (I.hok.fresh (Nat.le_refl _))⟩
end
def Znp (P : Program) (w : World) (to : TE) (t : TA) : TE := fun σ H Q => to σ H fun x H1 => ∃ a l, x = .ref a /\ H1 a = some (Z81 P w a l) /\ t σ H1 fun xs H2 => ∃ l2 i, xs = [.int i] /\ H2 a = some (Z81 P w a l2) /\ l2.length <= 1000 /\ Q .non (upd H2 a (Z81 P w a (Z45 l2 i)))
section
variable {X : Cx} {o e : Expr} {to : TE} {t : TA} {apos cpos : Pos}
theorem Zj9 (ho : PE X o to) (ha : PA X [e] t) (hbase : attributeBase o "add" X.env (eval o X.env) = eval o X.env := by rfl)
  (hfew : ((backTo cpos (starEach [e] X.env)).all (fun x => !x.1) && (backToKw cpos (keywordEach [] X.env)).all (fun x => x.1.isSome) && decide ([e].length + ([] : List Keyword).length + (if ([] : List Keyword).isEmpty then 0 else 1) < 30)) = true := by rfl)
  (hline : (apos.endLine == cpos.line) = true := by rfl) (hs : starEach [e] X.env = [(false, eval e X.env)] := by rfl) : PE X (.Call (.Attribute o "add" apos) [e] [] cpos) (Znp X.prog X.w to t) := by
 intro pins s σ H Q I h
 refine wpAny_Call_method_late hbase hfew hline rfl (thn (ho pins s σ H _ I h) fun v s1 ⟨x, H1, I1, r1, a, l, ex, hH, q1⟩ => ?_)
 subst ex
 cases r1
 have is := I1.iset hH
 have nd : ∀ b, Value.ref a = .ref b -> ∃ ob, s1.heap.get? b = some ob /\ ob.dict = none := fun b e => by
  cases e
  obtain ⟨o, es, ep, t, ho, hx, _⟩ := is
  exact ⟨o, ho, hx.2.1⟩
 refine ⟨"set", "set.add", PySem.F.plainAttrs_set, PySem.F.slot_set_add, PySem.F.type_set_add, is.type, nd, ?_⟩
 have hA := ha cpos pins s1 σ H1 _ I1 q1
 rw [hs] at hA ⊢
 refine Calls.callWith_builtin rfl (Calls.evalArgs_plain ?_)
 refine thn hA fun us s2 ⟨vs, H2, I2, r2, l2, i, ev, hH2, hz, q2⟩ => ?_
 subst ev
 obtain ⟨u, rfl, ru⟩ := r2.one
 obtain ⟨tk, rfl⟩ := ru
 refine Zau (I2.iset hH2) (by show l2.length + 1 < 4096; omega) fun h' sb is' => ?_
 refine ⟨.non, _, I2.write (t' := s2.toks + 1) (x := a) (e := a) (o := Z81 X.prog X.w a (Z45 l2 i)) (by rw [hH2]; trivial) (.inl rfl) (fun b u hb e => sb.extBut b u hb e) ?_ (Z7b is'), rfl, q2⟩
 obtain ⟨o, es, ep, t, ho, _⟩ := is'
 exact ⟨o, ho⟩
end
end L2
namespace L2
open PySem PySem.Spec PyProof.Rows
mutual
def plT : Th -> Bool
 | .at (.int _) => true
 | .at (.str _) => true
 | .at _ => false
 | .tup xs => Z4z xs
 | .lst _ => false
def Z4z : List Th -> Bool
 | [] => true
 | x :: xs => plT x && Z4z xs
end
mutual
def pvT : Th -> PV
 | .at v => .at v
 | .tup xs => .tup (Z6b xs)
 | .lst _ => .at .non
def Z6b : List Th -> List PV
 | [] => []
 | x :: xs => pvT x :: Z6b xs
end
mutual
theorem Znq {K : PySem.W.Frag} {H : Hp} : ∀ {v : V} {t : Th}, IsTh H v t -> ∀ n, plT t = true -> dp t <= n -> IsPV K H n v (pvT t)
 | _, _, .at f, n, hp, hd => by rw [pvT]; exact .at (smallV.flat f)
 | _, _, .tup h r, n, hp, hd => by
  rw [dp] at hd
  rw [plT] at hp
  rw [pvT]
  cases n with
  | zero => exact absurd hd (by omega)
  | succ n => exact .tup (SqT.of h) (Zay r n hp (by omega))
 | _, _, .lst h r, n, hp, hd => by rw [plT] at hp; cases hp
theorem Zay {K : PySem.W.Frag} {H : Hp} : ∀ {vs : List V} {ts : List Th}, IsThs H vs ts -> ∀ n, Z4z ts = true -> dps ts <= n -> IsPVs K H n vs (Z6b ts)
 | _, _, .nil, n, hp, hd => by rw [Z6b]; exact .nil
 | _, _, .cons h r, n, hp, hd => by
  rw [Z4z, Bool.and_eq_true] at hp
  rw [dps] at hd
  rw [Z6b]
  exact .cons (Znq h n hp.1 (by omega)) (Zay r n hp.2 (by omega))
end
theorem Ze8 {v w : V} (hv : plT (.at v) = true) (hw : plT (.at w) = true) : eqV v w = true ↔ v = w := by
 cases v with
 | int i =>
  cases w with
  | int j => simp [eqV]
  | str y => simp [eqV]
  | _ => simp [plT] at hw
 | str x =>
  cases w with
  | int j => simp [eqV]
  | str y => simp [eqV]
  | _ => simp [plT] at hw
 | _ => simp [plT] at hv
mutual
theorem Zgh : ∀ (t u : Th), plT t = true -> plT u = true -> (Z5k (pvT t) (pvT u) = true ↔ t = u)
 | .at v, .at w, ht, hu => by rw [pvT, pvT, Z5k, Ze8 ht hu]; simp
 | .at v, .tup ys, ht, hu => by rw [pvT, pvT, Z5k]; simp
 | .tup xs, .at w, ht, hu => by rw [pvT, pvT, Z5k]; simp
 | .tup xs, .tup ys, ht, hu => by rw [plT] at ht hu; rw [pvT, pvT, Z5k, Z5u xs ys ht hu]; simp
 | .lst _, _, ht, hu => by rw [plT] at ht; cases ht
 | _, .lst _, ht, hu => by rw [plT] at hu; cases hu
theorem Z5u : ∀ (ts us : List Th), Z4z ts = true -> Z4z us = true -> (Z1t (Z6b ts) (Z6b us) = true ↔ ts = us)
 | [], [], _, _ => by rw [Z6b, Z1t]; simp
 | [], y :: ys, _, _ => by rw [Z6b, Z6b, Z1t]; simp
 | x :: xs, [], _, _ => by rw [Z6b, Z6b, Z1t]; simp
 | x :: xs, y :: ys, ht, hu => by
  rw [Z4z, Bool.and_eq_true] at ht hu
  rw [Z6b, Z6b, Z1t, Bool.and_eq_true, Zgh x y ht.1 hu.1, Z5u xs ys ht.2 hu.2]
  simp
end
section
variable {X : Cx}
def Znr (neg : Bool) (n : Nat) (mk : List Th -> Th) : R2 := fun x y H Q => ∃ ts us, IsTh H x (mk ts) /\ IsTh H y (mk us) /\ Z4z ts = true /\ Z4z us = true /\ dps ts <= n /\ dps us <= n /\ (ts = us -> Q (.bl (!neg)) H) /\ (ts ≠ us -> Q (.bl neg) H)
theorem Zja {n : Nat} {ts us : List Th} {Q : V -> Hp -> Prop} {H : Hp} {b neg : Bool} (p1 : Z4z ts = true) (p2 : Z4z us = true) (q1 : ts = us -> Q (.bl (!neg)) H) (q2 : ts ≠ us -> Q (.bl neg) H) (e : b = if neg then !Z1t (Z6b ts) (Z6b us) else Z1t (Z6b ts) (Z6b us)) : Q (.bl b) H := by
 have hi := Z5u ts us p1 p2
 by_cases z : ts = us
 ·rw [hi.mpr z] at e
  have : b = !neg := by rw [e]; cases neg <;> rfl
  rw [this]
  exact q1 z
 ·have hf : Z1t (Z6b ts) (Z6b us) = false := by
   cases h : Z1t (Z6b ts) (Z6b us) with
   | false => rfl
   | true => exact absurd (hi.mp h) z
  rw [hf] at e
  have : b = neg := by rw [e]; cases neg <;> rfl
  rw [this]
  exact q2 z
theorem Zjb {K : PySem.W.Frag} (hK : X.K = K) (n : Nat) (hu : X.A.units + (n + 1) < cLine) : OpR X (compareOp .NotEq) (Znr true n .tup) := by
 subst hK
 intro pins s σ H x y v u Q I rx ry h
 obtain ⟨ts, us, hx, hy, p1, p2, d1, d2, q1, q2⟩ := h
 obtain ⟨a, vs, rfl, ha, hvs⟩ := Z19 hx
 obtain ⟨b, ws, rfl, hb, hws⟩ := Z19 hy
 exact Zdu n hu pins s σ H _ _ v u Q I rx ry ⟨a, b, vs, ws, _, _, rfl, rfl, SqT.of ha, Zay hvs n p1 d1, SqT.of hb, Zay hws n p2 d2, Zja (n := n) (neg := true) p1 p2 q1 q2 rfl⟩
end
section
variable {X : Cx} {o e f : Expr} {apos cpos : Pos} {td ty tx : TE}
end
section
variable {P : Program} {w : World} {A : Around} {E : Value -> Shared -> Prop} {s : Shared}
end
section
variable {X : Cx}
end
end L2
namespace L2
open PySem PySem.Spec PyProof.Rows PySem.Builtin PySem.AutoSeq1
section
variable {prog : Program} {w : World} {A : Around} {E : Value -> Shared -> Prop} {s : Shared}
end
section
variable {prog : Program} {w : World} {A : Around} {E : Value -> Shared -> Prop} {s : Shared}
end
section
variable {X : Cx} {pins : List (Addr × Obj)} {σ : St}
end
section
variable {X : Cx}
def rIndex : V -> List V -> Hp -> VK -> Prop := fun x vs H Q => ∃ (l : Addr) (ns : List Int) (i : Int) (j : Nat), x = .ref l /\ vs = [.int i] /\ H l = some (.lst (ns.map V.int)) /\ ns[j]? = some i /\ (∀ m, m < j -> ns[m]? ≠ some i) /\ Q (.int (j : Nat)) H
theorem Zgi : MtR X "list.index" rIndex := by
 intro pins s σ H x vs v us Q I rx rv h
 obtain ⟨l, ns, i, j, rfl, rfl, hH, hj, hno, q⟩ := h
 cases rx
 obtain ⟨u, rfl, ru⟩ := rv.one
 obtain ⟨tk, rfl⟩ := ru
 obtain ⟨z, its, n, r, hl, e⟩ := I.lstM hH
 have hI := Z7c r
 have hlen : its.length = ns.length := IntsAre.length hI
 have at' : ∀ (m : Nat) (y : Value), its[m]? = some y -> ∃ k t, ns[m]? = some k /\ y = .int k t := by
  intro m y hy
  have hm : m < ns.length := by
   rw [<- hlen]
   exact (List.getElem?_eq_some_iff.mp hy).1
  obtain ⟨u2, f2, r2⟩ := r.get (i := m) (x := .int ns[m]) (by rw [List.getElem?_map, List.getElem?_eq_getElem hm]; rfl)
  rw [hy] at f2
  cases f2
  obtain ⟨t, rfl⟩ := r2
  exact ⟨_, t, List.getElem?_eq_getElem hm, rfl⟩
 have jl : j < its.length := by
  rw [hlen]
  exact (List.getElem?_eq_some_iff.mp hj).1
 have val : ∀ (m : Nat) (hm : m < its.toArray.size), ∃ k t, ns[m]? = some k /\ its.toArray[m] = .int k t := fun m hm => by
  simp only [List.size_toArray] at hm
  obtain ⟨k, t, a1, a2⟩ := at' m its[m] (List.getElem?_eq_getElem hm)
  exact ⟨k, t, a1, by simpa using a2⟩
 have hsz : sizeLine = 16777216 := sizeLine_eq
 refine call_meets F.slot_list_index ⟨_, e, rfl⟩ F.entry_list_index (F.args_list_index_2 _ _) (SeqAt.list_indexAt l its.toArray n none #[] (.int i tk) (fun y => match y with | .int k _ => k == i | _ => false) j (by simpa using jl) (by
  rw [List.length_map] at z
  omega) ?_ ?_) ⟨e, ?_, ?_⟩
 ·obtain ⟨k, t, a1, a2⟩ := val j (by simpa using jl)
  rw [a2]
  rw [hj] at a1
  cases a1
  exact beq_self_eq_true _
 ·intro m hm hmj
  obtain ⟨k, t, a1, a2⟩ := val m hm
  rw [a2]
  show (k == i) = false
  rw [beq_eq_false_iff_ne]
  intro w
  subst w
  exact hno m hmj a1
 ·intro y hy
  obtain ⟨m, hm, rfl⟩ := Array.mem_iff_getElem.mp hy
  obtain ⟨k, t, a1, a2⟩ := val m hm
  rw [a2]
  exact Z6l (y := .int k) (x := .int i) ⟨t, rfl⟩ ⟨tk, rfl⟩ rfl rfl
 ·exact ⟨.int (j : Nat), H, I.tok _, ⟨_, rfl⟩, q⟩
end
end L2
namespace K15
open PySem L2
abbrev Zch : Stmt := top 18
abbrev Z47 : Stmt := top 19
abbrev Z5v : Stmt := top 20
abbrev Zci : Stmt := top 21
abbrev Ze9 : Stmt := top 33
abbrev Zea : Stmt := top 34
abbrev Z2y : Stmt := top 35
abbrev Z48 : Stmt := top 36
abbrev Zeb : Stmt := top 37
abbrev Z8w : Stmt := top 38
abbrev Z1o : Stmt := top 39
abbrev Zcj : Stmt := top 40
abbrev Z50 : Stmt := top 41
abbrev Z8x : Stmt := top 42
abbrev Zec : Stmt := top 43
abbrev Z9p : Stmt := top 44
abbrev Z6u : Stmt := top 45
abbrev Z4n : Stmt := top 46
abbrev Z5w : Stmt := top 9
abbrev Z4o : Stmt := top 10
abbrev Zaz : Stmt := top 11
abbrev Zgj : Stmt := top 12
abbrev Zb0 : Stmt := top 13
abbrev Z2z : Stmt := top 15
abbrev Zck : Stmt := top 16
abbrev Zed : Stmt := top 17
abbrev Z7d : Stmt := top 23
abbrev Z49 : Stmt := top 25
abbrev Zee : Stmt := top 26
abbrev Z8y : Stmt := top 27
abbrev Z1a : Stmt := top 29
abbrev Z2g : Stmt := top 30
abbrev Z2h : Stmt := top 31
abbrev Z25 : Stmt := top 47
abbrev Z4p : Stmt := top 48
abbrev Zef : Stmt := top 49
abbrev Zky : Stmt := top 50
abbrev Zeg : Stmt := top 51
abbrev Zfo : Stmt := top 52
def Z5x : Th -> Bool
 | .at (.str _) => true
 | _ => false
structure Kits (K : PySem.W.Frag) : Prop extends L2.Kits K where
 str : ∀ {H : Hp} {v : V} {t : Th}, IsTh H v t -> PySem.W.kitOne K (.type (Zlp t)) (.type "str") = some (Z5x t)
structure TxtT (mg : Str -> Option Value) : Prop where
 isi : mg "isinstance" = none
 int : mg "int" = none
 bl : mg "bool" = none
 tup : mg "tuple" = none
 len : mg "len" = none
 str : mg "str" = none
 all : mg "all" = none
def spParts : Sp := fun vs H Q _ => ∃ (H0 : Hp) (v : V) (ts : List Th), vs = [v] /\ Same H0 H /\ IsTh H0 v (.tup ts) /\ ts.length <= 1000000 ∧
 ∀ (p : Addr) (ws : List V) H', Same H H' -> H' p = some (.tup ws) -> IsThs H0 ws (Z0x ts) -> Q (.ref p) H'
def Z1z (t : Th) : Bool := !isTup t
def Z7e (ts : List Th) : List Th := ts.filter Z1z
def spHead : Sp := fun vs H Q _ => ∃ (H0 : Hp) (v : V) (ts : List Th), vs = [v] /\ Same H0 H /\ IsTh H0 v (.tup ts) /\ ts.length <= 1000000 ∧
 ∀ (p : Addr) (ws : List V) H', Same H H' -> H' p = some (.tup ws) -> IsThs H0 ws (Z7e ts) -> Q (.ref p) H'
section
variable {P : Program} {w : World} {K : PySem.W.Frag} {mg : Str -> Option Value} {base : Heap}
theorem Zjc : FnScope ["e"] ["e"] (Z03 Z47) := ⟨rfl, rfl, rfl, by decide +kernel, rfl, by decide +kernel, by decide +kernel⟩
theorem Z7f {f : Addr} {fd : FuncData} (F : Fun K "parts" "parts" Z47 f fd) (T : TxtT mg) (KI : Kits K) : FnOk P w K mg base CX0 1 f fd ["e"] spParts := by
 refine F.ok Zjc (fun vs H Q E h => ?_) (fun cdv A outer s H vs Q E hr h => ?_)
 ·obtain ⟨H0, v, ts, rfl, _⟩ := h
  rfl
 ·obtain ⟨H0, v, ts, rfl, s0, hv, hz, k⟩ := h
  refine ⟨_, Z05 (Z0d (Z1m Z1n (by rfl) T.tup (by decide +kernel) (Z09 (Z1s (N' := ["part"]) (src := [none]) rfl (Z0p (Z03 Z47) rfl ["e"] rfl (by decide +kernel)) (Z6h (pv 0))
   (fun cl C ex s0' H0' => ⟨Z0t (i := 0) (nd1 _) rfl (Or.inl rfl), Z4h (Z1k (Z0c (id := "isinstance") (Z1r (K := K) rfl) (by rfl) T.isi (by decide +kernel) (Z0k (pv 0) (Z0k (Z1j (v := .ty "tuple") (by rfl) T.tup (by decide +kernel) rfl) Z00)))), pv 0⟩)) Z00))), ?_⟩
  obtain ⟨a, xs, rfl, ha0, hts⟩ := Z19 hv
  have ha := s0 _ _ ha0
  have hl := IsThs.len _ hts
  refine ⟨_, rfl, a, rfl, ⟨_, SqT.of ha⟩, Z39 (K := K) (a := a) (xs := xs) (fun i ys σc H' => ∃ o, σc = [o] /\ IsThs H0 ys ((ts.take i).filter isTup) /\ ys.length <= i /\ H' = H) ⟨none, rfl, by rw [List.take_zero]; exact .nil, Nat.le_refl _, rfl⟩ (fun i ys σc H' ⟨_, _, _, _, e⟩ => by rw [e]; exact SqT.of ha) ?_ ?_⟩
  ·rintro i x ys σc H' hx hi ⟨o, rfl, hys, hyl, rfl⟩
   obtain ⟨t, ht, h1⟩ := Z17 _ hts hx
   have hnext : (ts.take (i + 1)).filter isTup = (ts.take i).filter isTup ++ (if isTup t = true then [t] else []) := Z3a _ ht
   refine ⟨by have : sizeLine = 16777216 := sizeLine_eq; omega, ?_⟩
   refine ⟨_, rfl, _, _, _, _, rfl, Z3q (IsTh.kp (Kp.of s0) h1), KI.tup h1, _, rfl, Z16 (fun g => ?_) (fun g => ?_)⟩
   ·refine ⟨_, rfl, nx hi ⟨_, rfl, ?_, by rw [List.length_append]; show ys.length + 1 <= i + 1; omega, rfl⟩⟩
    rw [hnext, if_pos g]
    exact IsThs.app _ hys (.cons h1 .nil)
   ·refine nx hi ⟨_, rfl, ?_, by omega, rfl⟩
    rw [hnext, if_neg g, List.append_nil]
    exact hys
  ·rintro ys σc H' ⟨o, rfl, hys, hyl, rfl⟩ l hl'
   refine ⟨l, _, rfl, .inl ⟨SqL.of Z01, fun p hp => ?_⟩⟩
   rw [List.take_of_length_le (by omega)] at hys
   have s2 := (Z02 (o := .lst ys) hl').trans (Z02 (o := .tup ys) hp)
   exact k p ys _ s2 Z01 hys
theorem Zlw : FnScope ["node"] ["node"] (Z03 Zch) := ⟨rfl, rfl, rfl, by decide +kernel, rfl, by decide +kernel, by decide +kernel⟩
theorem Zjd {f : Addr} {fd : FuncData} (F : Fun K "head" "head" Zch f fd) (T : TxtT mg) (KI : Kits K) : FnOk P w K mg base CX0 1 f fd ["node"] spHead := by
 refine F.ok Zlw (fun vs H Q E h => ?_) (fun cdv A outer s H vs Q E hr h => ?_)
 ·obtain ⟨H0, v, ts, rfl, _⟩ := h
  rfl
 ·obtain ⟨H0, v, ts, rfl, s0, hv, hz, k⟩ := h
  refine ⟨_, Z05 (Z0d (Z1m Z1n (by rfl) T.tup (by decide +kernel) (Z09 (Z1s (N' := ["field"]) (src := [none]) rfl (Z0p (Z03 Zch) rfl ["node"] rfl (by decide +kernel)) (Z6h (pv 0))
   (fun cl C ex s0 H0 => ⟨Z0t (i := 0) (nd1 _) rfl (Or.inl rfl), Z4h (Z1x (Z1k (Z0c (id := "isinstance") (Z1r (K := K) rfl) (by rfl) T.isi (by decide +kernel) (Z0k (pv 0) (Z0k (Z1j (v := .ty "tuple") (by rfl) T.tup (by decide +kernel) rfl) Z00))))), pv 0⟩)) Z00))), ?_⟩
  obtain ⟨a, xs, rfl, ha0, hts⟩ := Z19 hv
  have ha := s0 _ _ ha0
  have hl := IsThs.len _ hts
  refine ⟨_, rfl, a, rfl, ⟨_, SqT.of ha⟩, Z39 (K := K) (a := a) (xs := xs) (fun i ys σc H' => ∃ o, σc = [o] /\ IsThs H0 ys ((ts.take i).filter Z1z) /\ ys.length <= i /\ H' = H) ⟨none, rfl, by rw [List.take_zero]; exact .nil, Nat.le_refl _, rfl⟩ (fun i ys σc H' ⟨_, _, _, _, e⟩ => by rw [e]; exact SqT.of ha) ?_ ?_⟩
  ·rintro i x ys σc H' hx hi ⟨o, rfl, hys, hyl, rfl⟩
   obtain ⟨t, ht, h1⟩ := Z17 _ hts hx
   have hnext : (ts.take (i + 1)).filter Z1z = (ts.take i).filter Z1z ++ (if Z1z t = true then [t] else []) := Z3a _ ht
   refine ⟨by have : sizeLine = 16777216 := sizeLine_eq; omega, ?_⟩
   refine ⟨_, rfl, _, _, _, _, rfl, Z3q (IsTh.kp (Kp.of s0) h1), KI.tup h1, _, rfl, Z16 (fun g => ?_) (fun g => ?_)⟩
   ·refine ⟨_, rfl, nx hi ⟨_, rfl, ?_, by rw [List.length_append]; show ys.length + 1 <= i + 1; omega, rfl⟩⟩
    rw [hnext, if_pos (show Z1z t = true from g)]
    exact IsThs.app _ hys (.cons h1 .nil)
   ·refine nx hi ⟨_, rfl, ?_, by omega, rfl⟩
    rw [hnext, if_neg (show ¬ Z1z t = true from g), List.append_nil]
    exact hys
  ·rintro ys σc H' ⟨o, rfl, hys, hyl, rfl⟩ l hl'
   refine ⟨l, _, rfl, .inl ⟨SqL.of Z01, fun p hp => ?_⟩⟩
   rw [List.take_of_length_le (by omega)] at hys
   have s2 := (Z02 (o := .lst ys) hl').trans (Z02 (o := .tup ys) hp)
   exact k p ys _ s2 Z01 hys
end
def off (a b : Addr) (H : Hp) : Hp := fun c => if c = a ∨ c = b then none else H c
theorem Z7g {a b : Addr} {H : Hp} : Same (off a b H) H := fun c o e => by
 unfold off at e
 split at e
 ·cases e
 ·exact e
theorem Z6v {a b c : Addr} {H : Hp} {o : HO} (h : H c = some o) (h1 : c ≠ a) (h2 : c ≠ b) : off a b H c = some o := by
 unfold off
 rw [if_neg (fun z => z.elim h1 h2)]
 exact h
theorem Zgk {a b : Addr} {H : Hp} {o : HO} : off a b (upd H a o) = off a b H := by
 funext c
 unfold off
 split
 ·rfl
 ·next h => rw [Z0g (fun z => h (.inl z))]
theorem Zb1 {a b : Addr} {H : Hp} {o : HO} : off a b (upd H b o) = off a b H := by
 funext c
 unfold off
 split
 ·rfl
 ·next h => rw [Z0g (fun z => h (.inr z))]
theorem Z22 {a b : Addr} {H H' : Hp} (s : Same H H') : Same (off a b H) (off a b H') := fun c o e => by
 unfold off at e ⊢
 split at e
 ·cases e
 ·next h => rw [if_neg h]; exact s c o e
theorem Zlx {a b : Addr} {H0 H : Hp} (s : Same H0 H) (h1 : H0 a = none) (h2 : H0 b = none) : Same H0 (off a b H) := fun c o e => Z6v (s c o e) (fun z => by rw [z, h1] at e; cases e) (fun z => by rw [z, h2] at e; cases e)
structure TxtD (mg : Str -> Option Value) : Prop where
 node : ∃ tk, mg "NODE" = some (.str "node" tk)
 opened : ∃ tk, mg "OPENED" = some (.str "opened" tk)
 closed : ∃ tk, mg "CLOSED" = some (.str "closed" tk)
def Z9q (N : Nat) : Sp := fun vs H Q _ => ∃ (v : V) (t : Th), vs = [v] /\ IsTh H v t /\ OkT N t /\ Th.sz t <= 100000 ∧
 ∀ (p : Addr) (ws : List V) H', Same H H' -> H p = none -> H' p = some (.lst ws) -> IsThs H' ws ((Z0q t).map pr) -> Q (.ref p) H'
mutual
theorem Z5y : ∀ t : Th, (Z0q t).length <= 3 * Th.sz t
 | .tup xs => by
  rw [Z0q, Th.sz, List.length_cons]
  have := Z5z (Z1y xs) (.tup xs) xs 0
  omega
 | .at _ => by simp [Z0q]
 | .lst _ => by simp [Z0q]
theorem Z5z (l : Bool) (me : Th) : ∀ (xs : List Th) (i : Nat), (Z24 l me i xs).length <= 3 * szs xs + (2 - i)
 | [], i => by simp [Z24, szs]
 | x :: xs, i => by
  rw [Z24, szs]
  have h1 := Z5y x
  have hm : (Z42 l me i).length <= (2 - i) - (2 - (i + 1)) := by
   match i with
   | 0 => cases l <;> simp [Z42]
   | 1 => cases l <;> simp [Z42]
   | _ + 2 => simp [Z42]
  split
  ·have h2 := Z5z l me xs (i + 1)
   rw [List.length_append, List.length_append]
   omega
  ·have h2 := Z5z l me xs i
   omega
end
abbrev prs (l : List (Str × Th)) : List Th := l.map pr
theorem Zgl {H : Hp} {ws : List V} {st : List (Str × Th)} (h : IsThs H ws (prs st)) (hne : ws ≠ []) : ∃ ws' y st' d t a vn, ws = ws' ++ [y] /\ st = st' ++ [(d, t)] /\ IsThs H ws' (prs st') /\ y = .ref a /\ H a = some (.tup [.str d, vn]) /\ IsTh H vn t := by
 obtain ⟨ws', y, us', u, e1, e2, h1, h2⟩ := Zaq ws h hne
 have hn : st ≠ [] := fun z => by
  subst z
  have := congrArg List.length e2
  simp [prs] at this
 obtain ⟨st', x, rfl⟩ : ∃ st' x, st = st' ++ [x] := ⟨st.dropLast, st.getLast hn, (List.dropLast_concat_getLast hn).symm⟩
 have e3 : prs (st' ++ [x]) = prs st' ++ [pr x] := by simp [prs]
 rw [e3] at e2
 have e4 := List.append_inj' e2 rfl
 obtain ⟨e5, e6⟩ := e4
 have e6' : pr x = u := by simpa using e6
 subst e6' e5
 obtain ⟨a, vs, rfl, ha, hvs⟩ := Z19 h2
 cases hvs with
 | cons c1 c2 =>
  cases c2 with
  | cons c3 c4 =>
   cases c4
   obtain ⟨rfl, _⟩ := Z2b c1
   exact ⟨ws', _, st', x.1, x.2, a, _, e1, rfl, h1, rfl, ha, c3⟩
theorem Z2i {d : Str} (h : d = "node" ∨ d = "opened" ∨ d = "closed") : smallV (.str d) = true := by
 rcases h with rfl | rfl | rfl <;> decide +kernel
theorem Z1v (v : V) (vs : List V) : atI (v :: vs) 0 = some v := Z2m (j := 0) rfl
theorem Z30 (u v : V) (vs : List V) : atI (u :: v :: vs) 1 = some v := Z2m (j := 1) rfl
theorem Zeh {n : Nat} {t : Th} (h : OkT n t) : 1 <= (Z0q t).length := by
 cases n with
 | zero => exact h.elim
 | succ n =>
  obtain ⟨w, ts, rfl, _⟩ := h
  rw [Z0q, List.length_cons]
  omega
def Zje (N : Nat) (p : Str × Th) : Prop := (p.1 = "node" ∨ p.1 = "opened" ∨ p.1 = "closed") /\ OkT N p.2 /\ Th.sz p.2 <= 100000
theorem Zb2 {N : Nat} : ∀ (st : List (Str × Th)), (∀ x ∈ st, Zje N x) -> st.length <= (Z1u st).length := by
 intro st
 induction st with
 | nil => intro _; exact Nat.zero_le _
 | cons x st ih =>
  intro h
  have h1 := ih (fun y hy => h y (List.mem_cons_of_mem _ hy))
  have h2 : 1 <= (Z4k x).length := by
   unfold Z4k
   split
   ·exact Zeh (h x (List.mem_cons_self ..)).2.1
   ·exact Nat.le_refl _
  have e : Z1u (x :: st) = Z1u st ++ Z4k x := by unfold Z1u; simp
  rw [e, List.length_append, List.length_cons]
  omega
theorem Z31 (w : Str) (ts : List Th) : Z0x (.at (.str w) :: ts) = Z0x ts := rfl
theorem Z8z {w : Str} {ts : List Th} : Z1y (.at (.str w) :: ts) = decide (w = "let") := rfl
section
variable {P : Program} {w : World} {K : PySem.W.Frag} {mg : Str -> Option Value} {base : Heap}
theorem scSteps : FnScope ["tree", "walk", "waiting", "deed", "node", "inner"] ["tree"] (Z03 Z5v) := ⟨rfl, rfl, rfl, by decide +kernel, rfl, by decide +kernel, by decide +kernel⟩
theorem Zb3 {f fP : Addr} {fd dP : FuncData} (F : Fun K "steps" "steps" Z5v f fd) (T : TxtT mg) (TD : TxtD mg) (KI : Kits K)
  (FP : Fun K "parts" "parts" Z47 fP dP) (bP : Binds K dP ["e"] []) (mP : mg "parts" = some (.ref fP)) (N : Nat) : FnOk P w K mg base CX0 2 f fd ["tree"] (Z9q N) := by
 have GP : FnOk P w K mg base CX0 1 fP dP ["e"] spParts := Z7f FP T KI
 obtain ⟨tn, hNode⟩ := TD.node
 obtain ⟨to, hOpen⟩ := TD.opened
 obtain ⟨tc, hClose⟩ := TD.closed
 refine F.ok scSteps (fun vs H Q E h => ?_) (fun cdv A outer s H vs Q E hr h => ?_)
 ·obtain ⟨v, t, rfl, _⟩ := h
  rfl
 ·obtain ⟨v, t, rfl, ht, hok, hz, k⟩ := h
  have hsz : sizeLine = 16777216 := sizeLine_eq
  have hr1 : Room 1 _ := hr.mono (by decide)
  refine' ⟨?tt, ?body, ?fin⟩
  case body =>
   refine' Z06 ?s1 (Z0h ?s2 (Z06 ?s3 (Z05 ?s4)))
   case s1 => exact Z08 (i := 1) scSteps.nd rfl (Or.inl rfl) (Z1h Z00)
   case s2 => exact Z08 (i := 2) scSteps.nd rfl (Or.inl rfl) (Z1h (Zg1 (Z1g (Z0k (Z1d (v := .str "node") (by rfl) hNode ⟨tn, rfl⟩) (Z0k (pv 0) Z00))) Z00))
   case s3 =>
    refine' Z71 PassesOwn.never ?c (Z06 ?b1 (Z0h ?b2 (Z05 ?b3)))
    case c => exact Zac (pv 2) (fun _ => rfl)
    case b1 => exact Zd3 (Zhs PySem.F.plainAttrs_list PySem.F.slot_list_pop PySem.F.type_list_pop Zht (pv 2)) (Zaa rfl (Z20 (Z0t (i := 3) scSteps.nd rfl (Or.inl rfl)) (Z20 (Z0t (i := 4) scSteps.nd rfl (Or.inl rfl)) Z70)))
    case b2 => exact Z2r (Z8d PySem.F.plainAttrs_list PySem.F.slot_list_append PySem.F.type_list_append Z3x (pv 1) (Zg1 (Z1g (Z0k (pv 3) (Z0k (pv 4) Z00))) Z00))
    case b3 =>
     refine' Z0v ?d (Z0h ?c1 (Z0h ?c2 (Z05 ?c3))) Z0f
     case d => exact Z0b Z1f (pv 3) (Z1d (v := .str "node") (by rfl) hNode ⟨tn, rfl⟩) (Z0l _)
     case c1 =>
      refine' Zc7 (i := 5) (N' := ["part"]) (src := [none]) ?k1 ?k2 ?k3 ?k4 ?k5 ?k6 ?k7
      case k1 => rfl
      case k2 => exact scSteps.nd
      case k3 => rfl
      case k4 => exact Or.inl rfl
      case k5 => exact Z0p (Z03 Z5v) rfl ["tree", "walk", "waiting", "deed", "node", "inner"] rfl (by decide +kernel)
      case k6 => exact Z6h (Z07 GP hr1 (by rfl) mP FP.kp bP .nil Z0e (Z0k (pv 4) Z00))
      case k7 => exact fun cl C ex s0 H0 => ⟨Z0t (i := 0) (nd1 _) rfl (Or.inl rfl), Z2u, Z1g (Z0k (Z1d (v := .str "node") (by rfl) hNode ⟨tn, rfl⟩) (Z0k (pv 0) Z00))⟩
     case c2 =>
      refine' Z0v ?e (Z05 ?g) Z0f
      case e => exact Z0b Z1f (Z10 Z1c (pv 4) Z04 (fun _ _ => rfl)) Z0a (Z0l _)
      case g => exact Z08 (i := 5) scSteps.nd rfl (Or.inl rfl) (Z1h (Z09 (Z10 Z1e (pv 5) Z04 (fun _ _ => rfl)) (Zg1 (Z1g (Z0k (Z1d (v := .str "opened") (by rfl) hOpen ⟨to, rfl⟩) (Z0k (pv 4) Z00))) (Z09 (Z10 Z1e (pv 5) Z04 (fun _ _ => rfl)) (Zg1 (Z1g (Z0k (Z1d (v := .str "closed") (by rfl) hClose ⟨tc, rfl⟩) (Z0k (pv 4) Z00))) Z00)))))
     case c3 => exact Z2r (Z8d PySem.F.plainAttrs_list PySem.F.slot_list_extend PySem.F.type_list_extend Z8f (pv 2) (Z09 (Zlj (pv 5) (Zl9 Zhm Z04)) Z00))
   case s4 => exact Z0d (pv 1)
  case fin =>
   refine ⟨Nat.zero_le _, fun wk hwk => ?_⟩
   refine ⟨fun σ' H' => ∃ wt p0, σ' = [some v, some (.ref wk), some (.ref wt), none, none, none] /\ wk ≠ wt /\ H wt = none /\ Same H H' /\ H' wk = some (.lst []) /\ H' wt = some (.lst [.ref p0]) /\ H' p0 = some (.tup [.str "node", v]), ?_, ?_⟩
   ·refine ⟨_, rfl, (by show 2 <= sizeLine; decide), fun p0 hp0 => ⟨(by show 1 <= sizeLine; decide), fun wt hwt => ?_⟩⟩
    have s1 := Z02 (o := .lst []) hwk
    have s2 := s1.trans (Z02 (o := .tup [.str "node", v]) hp0)
    have e1 : upd (upd H wk (.lst [])) p0 (.tup [.str "node", v]) wk = some (.lst []) := Z02 hp0 _ _ Z01
    have s3 := Z02 (o := .lst [.ref p0]) hwt
    exact ⟨wt, p0, rfl, Z0i e1 hwt, Z2x s2 hwt, s2.trans s3, s3 _ _ e1, Z01, s3 _ _ Z01⟩
   rintro σ0 H1 ⟨wt, p0, rfl, hkt, hwt, s1, L1, W1, P1⟩
   refine Zdx (fun m σ H' => ∃ (ws wl : List V) (st dn : List (Str × Th)) (o3 o4 o5 : Option V), σ = [some v, some (.ref wk), some (.ref wt), o3, o4, o5] /\ Same H H' /\ H' wt = some (.lst ws) /\ H' wk = some (.lst wl) ∧
     IsThs (off wk wt H') ws (prs st) /\ IsThs (off wk wt H') wl (prs dn) /\ dn ++ Z1u st = Z0q t /\ (∀ x ∈ st, Zje N x) /\ m = (Z1u st).length)
    (Z1u [("node", t)]).length ⟨[.ref p0], [], [("node", t)], [], none, none, none, rfl, s1, W1, L1, ?_, .nil, ?_, ?_, rfl⟩ ?_ ?_
   ·refine .cons (.tup (Z6v P1 (Z3i P1 L1 (by intro q; cases q)) (Z3i P1 W1 (by intro q; cases q))) (.cons (.at (Z2i (.inl rfl))) (.cons (IsTh.kp (Kp.of (Zlx s1 hwk hwt)) ht) .nil))) .nil
   ·show Z1u ([] ++ [(("node" : Str), t)]) = _
    rw [Z43, Z3b]
    show Z0q t ++ [] = _
    rw [List.append_nil]
   ·intro x hx
    rw [List.mem_singleton] at hx
    subst hx
    exact ⟨.inl rfl, hok, hz⟩
   ·rintro m σ H2 ⟨ws, wl, st, dn, o3, o4, o5, rfl, s2, W2, L2, hst, hdn, heq, hall, rfl⟩
    have hlt := Z5y t
    have hlen : dn.length + (Z1u st).length = (Z0q t).length := by rw [<- heq, List.length_append]
    have hstl := Zb2 st hall
    refine ⟨_, rfl, _, .inl ⟨ws, SqL.of W2, rfl⟩, ?_⟩
    cases hws : ws.isEmpty with
    | true =>
     have e : ws = [] := List.isEmpty_iff.mp hws
     subst e
     refine Z3z ?_
     have est : st = [] := by
      have := IsThs.len _ hst
      rw [List.length_map] at this
      exact List.eq_nil_of_length_eq_zero this.symm
     subst est
     have ed : dn = Z0q t := by rw [<- heq]; show dn = dn ++ []; rw [List.append_nil]
     subst ed
     exact ⟨_, rfl, k wk wl H2 s2 hwk L2 (IsThs.kp (Kp.of Z7g) hdn)⟩
    | false =>
     have hne : ws ≠ [] := fun z => by rw [z] at hws; cases hws
     obtain ⟨ws', y, st', d, n, a, vn, rfl, rfl, hst', rfl, ha, hvn⟩ := Zgl hst hne
     refine Z4y ?_
     refine ⟨_, rfl, .inl ⟨rfl, _, SqL.of W2⟩, wt, _, .ref a, rfl, rfl, W2, (by rw [List.length_append]; simp), ?_⟩
     rw [List.dropLast_concat]
     have hx := hall (d, n) (List.mem_append_right _ (List.mem_singleton.mpr rfl))
     have hall' : ∀ x ∈ st', Zje N x := fun x hx => hall x (List.mem_append_left _ hx)
     have hat : upd H2 wt (.lst ws') a = some (.tup [.str d, vn]) := by
      have h1 := Z7g _ _ ha
      rw [Z0g (Z3i h1 W2 (by intro q; cases q))]
      exact h1
     refine ⟨a, [.str d, vn], rfl, SqT.of hat, rfl, _, _, rfl, _, _, rfl, rfl, ?_⟩
     refine ⟨fun σ' H' => ∃ (wl' : List V), σ' = [some v, some (.ref wk), some (.ref wt), some (.str d), some vn, o5] /\ Same H H' /\ H' wt = some (.lst ws') /\ H' wk = some (.lst wl') ∧
      IsThs (off wk wt H') ws' (prs st') /\ IsThs (off wk wt H') wl' (prs (dn ++ [(d, n)])) /\ IsTh (off wk wt H') vn n, ?_, ?_⟩
     ·have eo : off wk wt (upd H2 wt (.lst ws')) = off wk wt H2 := Zb1
      have Lx : upd H2 wt (.lst ws') wk = some (.lst wl) := by rw [Z0g hkt]; exact L2
      have Wx : upd H2 wt (.lst ws') wt = some (.lst ws') := Z01
      have sx : Same H (upd H2 wt (.lst ws')) := fun b ob e => by rw [Z0g (Z0i e hwt)]; exact s2 b ob e
      rw [<- eo] at hst' hdn hvn
      generalize upd H2 wt (.lst ws') = H3 at Lx Wx sx hst' hdn hvn ⊢
      refine ⟨_, rfl, .inl ⟨rfl, _, SqL.of Lx⟩, _, rfl, _, rfl, (by show 2 <= sizeLine; decide), fun q hq => ?_⟩
      have sq := Z02 (o := .tup [.str d, vn]) hq
      have hqk : q ≠ wk := fun z => by rw [z, Lx] at hq; cases hq
      have hqt : q ≠ wt := fun z => by rw [z, Wx] at hq; cases hq
      have hll := IsThs.len _ hdn
      rw [List.length_map] at hll
      rw [List.length_append] at hstl
      simp only [List.length_singleton] at hstl
      refine ⟨wk, wl, .ref q, rfl, rfl, sq _ _ Lx, by omega, ?_⟩
      have so := Z22 (a := wk) (b := wt) sq
      have eo2 : off wk wt (upd (upd H3 q (.tup [.str d, vn])) wk (.lst (wl ++ [.ref q]))) = off wk wt (upd H3 q (.tup [.str d, vn])) := Zgk
      refine ⟨wl ++ [.ref q], rfl, ?_, ?_, Z01, ?_, ?_, ?_⟩
      ·intro b ob e
       rw [Z0g (Z0i e hwk)]
       exact sq _ _ (sx _ _ e)
      ·rw [Z0g hkt.symm]
       exact sq _ _ Wx
      ·rw [eo2]; exact IsThs.kp (Kp.of so) hst'
      ·rw [eo2]
       unfold prs
       rw [List.map_append]
       refine IsThs.app _ (IsThs.kp (Kp.of so) hdn) (.cons (.tup (Z6v Z01 hqk hqt) (.cons (.at (Z2i hx.1)) (.cons (IsTh.kp (Kp.of so) hvn) .nil))) .nil)
      ·rw [eo2]; exact IsTh.kp (Kp.of so) hvn
     clear hst hdn ha hvn hat hst' W2 L2 s2
     rintro σ3 H3 ⟨wl', rfl, s3, W3, L3, hst3, hdn3, hvn3⟩
     refine ⟨_, rfl, rfl, _, rfl, Z16 (fun g => ?_) (fun g => ?_)⟩
     ·have hd : d = "node" := by
       have g' := of_decide_eq_true g
       injection g'
      subst hd
      obtain ⟨_, hokn, hzn⟩ := hx
      obtain ⟨N', rfl⟩ : ∃ N', N = N' + 1 := by
       cases N with
       | zero => exact hokn.elim
       | succ N' => exact ⟨N', rfl⟩
      obtain ⟨w0, xs, rfl, hlet, hkid⟩ := hokn
      simp only [] at hzn
      have hxs : Th.sz (.tup (.at (.str w0) :: xs)) = 1 + (1 + szs xs) := by simp only [Th.sz, szs]
      have hxl := Z5p xs
      have hkl : (Z0x xs).length <= 100000 := by
       have h1 := List.length_filter_le isTup xs
       show (xs.filter isTup).length <= _
       omega
      have hkok : ∀ k ∈ Z0x xs, OkT N' k /\ Th.sz k <= 100000 := fun k hk => by
       have hk' : k ∈ xs /\ isTup k = true := List.mem_filter.mp hk
       have := Zlt xs k hk'.1
       exact ⟨hkid k hk'.1 hk'.2, by omega⟩
      refine ⟨fun σ' H' => ∃ (l : Addr) (ys : List V), σ' = [some v, some (.ref wk), some (.ref wt), some (.str "node"), some vn, some (.ref l)] /\ Same H3 H' /\ H' l = some (.lst ys) /\ H3 l = none /\ IsThs (off wk wt H') ys (prs ((Z0x xs).map fun k => (("node" : Str), k))), ?_, ?_⟩
      ·refine ⟨_, rfl, off wk wt H3, vn, .at (.str w0) :: xs, rfl, Z7g, hvn3, by rw [List.length_cons]; omega, fun p ps H4 s4 hp4 hps => ?_⟩
       rw [Z31] at hps
       have hpl := IsThs.len _ hps
       refine ⟨p, rfl, ⟨_, SqT.of hp4⟩, Z39 (K := K) (a := p) (xs := ps) (fun i ys σc H' => ∃ o, σc = [o] /\ Same H4 H' /\ ys.length = i /\ IsThs (off wk wt H') ys (prs (((Z0x xs).take i).map fun k => (("node" : Str), k))))
        ⟨none, rfl, Same.refl _, rfl, by rw [List.take_zero]; exact .nil⟩ (fun i ys σc H' ⟨_, _, e, _⟩ => SqT.of (e _ _ hp4)) ?_ ?_⟩
       ·rintro i x ys σc H' hxi hi ⟨o, rfl, s5, hyl, hys⟩
        obtain ⟨kd, hk, h1⟩ := Z17 _ hps hxi
        refine ⟨by omega, _, rfl, (by show 2 <= sizeLine; decide), fun q hq => ?_⟩
        have sq := Z02 (o := .tup [.str "node", x]) hq
        have so := Z22 (a := wk) (b := wt) sq
        have hqk : q ≠ wk := fun z => by rw [z, s5 _ _ (s4 _ _ L3)] at hq; cases hq
        have hqt : q ≠ wt := fun z => by rw [z, s5 _ _ (s4 _ _ W3)] at hq; cases hq
        refine nx hi ⟨_, rfl, s5.trans sq, by rw [List.length_append, hyl]; rfl, ?_⟩
        have e1 : ((Z0x xs).take (i + 1)) = (Z0x xs).take i ++ [kd] := by rw [List.take_add_one, hk]; rfl
        unfold prs
        rw [e1, List.map_append, List.map_append]
        refine IsThs.app _ (IsThs.kp (Kp.of so) hys) (.cons (.tup (Z6v Z01 hqk hqt) (.cons (.at (Z2i (.inl rfl))) (.cons (IsTh.kp (Kp.of (Z22 ((s4.trans s5).trans sq))) h1) .nil))) .nil)
       ·rintro ys σc H' ⟨o, rfl, s5, hyl, hys⟩ l hl
        rw [List.take_of_length_le (by omega)] at hys
        have sl := Z02 (o := .lst ys) hl
        refine ⟨l, ys, rfl, (s4.trans s5).trans sl, Z01, Z2x (s4.trans s5) hl, IsThs.kp (Kp.of (Z22 sl)) hys⟩
      rintro σ4 H4 ⟨l, ys, rfl, s4, hl4, hl3, hys4⟩
      have hlk : l ≠ wk := fun z => by rw [z, L3] at hl3; cases hl3
      have hlt' : l ≠ wt := fun z => by rw [z, W3] at hl3; cases hl3
      obtain ⟨an, vns, evn, han, hvns⟩ := Z19 hvn3
      cases hvns with
      | @cons vh vr _ _ c1 c2 =>
       obtain ⟨rfl, _⟩ := Z2b c1
       have han3 := Z7g _ _ han
       refine ⟨fun σ' H' => ∃ (l : Addr) (ys : List V) (ps : List (Str × Th)), σ' = [some v, some (.ref wk), some (.ref wt), some (.str "node"), some vn, some (.ref l)] /\ Same H3 H' /\ H' l = some (.lst ys) /\ IsThs (off wk wt H') ys (prs ps) ∧
        Z1u (st' ++ [(("node" : Str), .tup (.at (.str w0) :: xs))]) = (("node" : Str), .tup (.at (.str w0) :: xs)) :: Z1u (st' ++ ps.reverse) /\ ∀ x ∈ ps, Zje (N' + 1) x, ?_, ?_⟩
       ·have hself : Zje (N' + 1) ("opened", .tup (.at (.str w0) :: xs)) /\ Zje (N' + 1) ("closed", .tup (.at (.str w0) :: xs)) :=
         ⟨⟨.inr (.inl rfl), ⟨w0, xs, rfl, hlet, hkid⟩, hzn⟩, ⟨.inr (.inr rfl), ⟨w0, xs, rfl, hlet, hkid⟩, hzn⟩⟩
        refine ⟨_, rfl, an, _, 0, .str w0, evn, rfl, SqT.of (s4 _ _ han3), Z1v _ _, rfl, _, rfl, Z16 (fun g2 => ?_) (fun g2 => ?_)⟩
        ·have hw0 : w0 = "let" := by
          have g' := of_decide_eq_true g2
          injection g'
         have h2 := hlet hw0
         obtain ⟨k1, k2, hk12⟩ : ∃ k1 k2, Z0x xs = [k1, k2] := by
          match hq : Z0x xs, h2 with
          | [k1, k2], _ => exact ⟨k1, k2, rfl⟩
         rw [hk12] at hys4 hkok
         cases hys4 with
         | @cons y1 yr _ _ d1 d2 =>
          cases d2 with
          | @cons y2 yr2 _ _ d3 d4 =>
           cases d4
           refine ⟨_, rfl, l, _, 0, y1, rfl, rfl, SqL.of hl4, Z1v _ _, _, rfl, (by show 2 <= sizeLine; decide), fun q1 hq1 => ?_⟩
           have sq1 := Z02 (o := .tup [.str "opened", vn]) hq1
           refine ⟨_, rfl, l, _, 1, y2, rfl, rfl, SqL.of (sq1 _ _ hl4), Z30 _ _ _, _, rfl, (by show 2 <= sizeLine; decide), fun q2 hq2 => ?_⟩
           have sq2 := Z02 (o := .tup [.str "closed", vn]) hq2
           refine ⟨(by show 4 <= sizeLine; decide), fun l2 hl2 => ?_⟩
           have sq3 := Z02 (o := .lst [y1, .ref q1, y2, .ref q2]) hl2
           have sA := (sq1.trans sq2).trans sq3
           have hq1k : q1 ≠ wk := fun z => by rw [z, s4 _ _ L3] at hq1; cases hq1
           have hq1t : q1 ≠ wt := fun z => by rw [z, s4 _ _ W3] at hq1; cases hq1
           have hq2k : q2 ≠ wk := fun z => by rw [z, sq1 _ _ (s4 _ _ L3)] at hq2; cases hq2
           have hq2t : q2 ≠ wt := fun z => by rw [z, sq1 _ _ (s4 _ _ W3)] at hq2; cases hq2
           have oA := Z22 (a := wk) (b := wt) sA
           have hvA := IsTh.kp (Kp.of (Z22 (a := wk) (b := wt) (s4.trans sA))) hvn3
           refine ⟨l2, _, [("node", k1), ("opened", .tup (.at (.str w0) :: xs)), ("node", k2), ("closed", .tup (.at (.str w0) :: xs))], rfl, s4.trans sA, Z01, ?_, ?_, ?_⟩
           ·exact .cons (IsTh.kp (Kp.of oA) d1) (.cons (.tup (Z6v (sq3 _ _ (sq2 _ _ Z01)) hq1k hq1t) (.cons (.at (Z2i (.inr (.inl rfl)))) (.cons hvA .nil))) (.cons (IsTh.kp (Kp.of oA) d3) (.cons (.tup (Z6v (sq3 _ _ Z01) hq2k hq2t) (.cons (.at (Z2i (.inr (.inr rfl)))) (.cons hvA .nil))) .nil)))
           ·exact Zgb (by rw [Z8z, hw0]; decide +kernel) (by rw [Z31, hk12])
           ·intro x hx
            have o1 := hkok k1 (by simp)
            have o2 := hkok k2 (by simp)
            simp only [List.mem_cons, List.not_mem_nil, or_false] at hx
            rcases hx with rfl | rfl | rfl | rfl
            ·exact ⟨.inl rfl, o1.1.up, o1.2⟩
            ·exact hself.1
            ·exact ⟨.inl rfl, o2.1.up, o2.2⟩
            ·exact hself.2
        ·have hw0 : w0 ≠ "let" := fun z => g2 (by rw [z]; decide +kernel)
         refine ⟨l, ys, (Z0x xs).map fun k => (("node" : Str), k), rfl, s4, hl4, hys4, ?_, ?_⟩
         ·have := Zcc (st := st') (xs := .at (.str w0) :: xs) (by rw [Z8z]; exact decide_eq_false hw0)
          rw [Z31] at this
          exact this
         ·intro x hx
          obtain ⟨kd, hk, rfl⟩ := List.mem_map.mp hx
          exact ⟨.inl rfl, (hkok kd hk).1.up, (hkok kd hk).2⟩
       clear hys4 hl4 s4 hl3 hlk hlt'
       rintro σ5 H5 ⟨l, ys, ps, rfl, s5, hl5, hys5, htodo, hps⟩
       have hyl := IsThs.len _ hys5
       rw [List.length_map] at hyl
       have hnew : ∀ x ∈ st' ++ ps.reverse, Zje (N' + 1) x := fun x hx => by
        rcases List.mem_append.mp hx with z | z
        ·exact hall' x z
        ·exact hps x (List.mem_reverse.mp z)
       have hnl := Zb2 _ hnew
       rw [htodo] at hlen
       rw [List.length_cons] at hlen
       rw [List.length_append, List.length_reverse] at hnl
       have hwl := IsThs.len _ hst3
       rw [List.length_map] at hwl
       refine ⟨_, rfl, .inl ⟨rfl, _, SqL.of (s5 _ _ W3)⟩, _, rfl, _, rfl, rfl, l, ys, rfl, SqL.of hl5, fun p hp => ?_⟩
       have sp5 := Z02 (o := .lst ys.reverse) hp
       refine ⟨wt, p, ws', ys.reverse, rfl, rfl, sp5 _ _ (s5 _ _ W3), Z01, by rw [List.length_reverse]; omega, ?_⟩
       have eo : off wk wt (upd (upd H5 p (.lst ys.reverse)) wt (.lst (ws' ++ ys.reverse))) = off wk wt (upd H5 p (.lst ys.reverse)) := Zb1
       refine ⟨(Z1u (st' ++ ps.reverse)).length, by rw [htodo, List.length_cons]; omega, ws' ++ ys.reverse, wl', st' ++ ps.reverse, dn ++ [(("node" : Str), Th.tup (.at (.str w0) :: xs))], _, _, _, rfl, ?_, Z01, ?_, ?_, ?_, ?_, hnew, rfl⟩
       ·intro b ob e
        rw [Z0g (Z0i e hwt)]
        exact sp5 _ _ (s5 _ _ (s3 _ _ e))
       ·rw [Z0g hkt]
        exact sp5 _ _ (s5 _ _ L3)
       ·rw [eo]
        unfold prs
        rw [List.map_append, List.map_reverse]
        exact IsThs.app _ (IsThs.kp (Kp.of (Z22 (s5.trans sp5))) hst3) (Zj2 _ (IsThs.kp (Kp.of (Z22 sp5)) hys5))
       ·rw [eo]
        exact IsThs.kp (Kp.of (Z22 (s5.trans sp5))) hdn3
       ·rw [<- heq, htodo, List.append_assoc]
        rfl
     ·have hd : d ≠ "node" := fun z => g (by rw [z]; decide +kernel)
      have e1 : Z1u (st' ++ [(d, n)]) = (d, n) :: Z1u st' := by
       rw [Z43]
       unfold Z4k
       rw [if_neg hd]
       rfl
      refine ⟨(Z1u st').length, by rw [e1, List.length_cons]; omega, ws', wl', st', dn ++ [(d, n)], _, _, _, rfl, s3, W3, L3, hst3, hdn3, ?_, hall', rfl⟩
      rw [<- heq, e1, List.append_assoc]
      rfl
   ·rintro σ H1 Q1 Q2 hq ⟨u1, e1, b1, e2, q⟩
    exact ⟨u1, e1, b1, e2, hq _ _ q⟩
end
theorem Z7h {X : Cx} {K : PySem.W.Frag} (hK : X.K = K) : Z3k X (.builtin "len") (fun xs H Q => ∃ p ys, xs = [.ref p] /\ (SqL K H p ys ∨ SqT K H p ys) /\ Q (.int ys.length) H) := by
 subst hK
 exact Z0j
theorem Zb4 {X : Cx} {K : PySem.W.Frag} {x y : Str} {px py pos : Pos} {k i j : Nat} (hK : X.K = K) (hc : X.calm = true) (hN : X.N.Nodup) (hi : X.N[i]? = some x) (hx : Loc X.env.scope x) (hj : X.N[j]? = some y) (hy : Loc X.env.scope y)
  (hf : X.fn x = true ∨ X.env.scope.names.lookup x = some .local) (hg : X.fn y = true ∨ X.env.scope.names.lookup y = some .local) :
  PG X (.Tuple [.Name x px, .Name y py] k pos) (Zoi K 2 (Zim (Z83 i) (Zim (Z83 j) gNil))) := by
 subst hK
 exact Zaa hc (Z20 (Z0t hN hi hx hf) (Z20 (Z0t hN hj hy hg) Z70))
def Zjf : Th -> Th
 | .tup xs => .tup [.tup (Z7e xs), .at (.int ((Z0x xs).length : Nat))]
 | t => t
def Z60 (t : Th) : List Th := (Z14 (Z0q t)).map fun p => Zjf p.2
def Zi0 (N : Nat) : Sp := fun vs H Q _ => ∃ (v : V) (t : Th), vs = [v] /\ IsTh H v t /\ OkT N t /\ Th.sz t <= 100000 ∧
 ∀ (p : Addr) (ws : List V) H', Same H H' -> H p = none -> H' p = some (.lst ws) -> IsThs H' ws (Z60 t) -> Q (.ref p) H'
mutual
theorem Zb5 : ∀ (t : Th) (N : Nat), OkT N t -> Th.sz t <= 100000 -> ∀ x ∈ Z0q t, OkT N x.2 /\ Th.sz x.2 <= 100000
 | .tup xs, N, h, hz, x, hx => by
  rw [Z0q] at hx
  rcases List.mem_cons.mp hx with z | z
  ·subst z; exact ⟨h, hz⟩
  ·cases N with
   | zero => exact h.elim
   | succ N =>
    refine Zb6 (Z1y xs) (.tup xs) xs N 0 ?_ h hz ?_ x z
    ·intro y hy hyt
     obtain ⟨w, ts, e, _, h2⟩ := h
     cases e
     rcases List.mem_cons.mp hy with q | q
     ·subst q; cases hyt
     ·exact h2 y q hyt
    ·rw [Th.sz] at hz; omega
 | .at _, N, h, hz, x, hx => by simp [Z0q] at hx
 | .lst _, N, h, hz, x, hx => by simp [Z0q] at hx
theorem Zb6 (l : Bool) (me : Th) : ∀ (xs : List Th) (N i : Nat), (∀ y ∈ xs, isTup y = true -> OkT N y) -> OkT (N + 1) me -> Th.sz me <= 100000 -> szs xs <= 100000 -> ∀ x ∈ Z24 l me i xs, OkT (N + 1) x.2 /\ Th.sz x.2 <= 100000
 | [], N, i, h, hm, hz, hs, x, hx => by simp [Z24] at hx
 | y :: ys, N, i, h, hm, hz, hs, x, hx => by
  rw [Z24] at hx
  rw [szs] at hs
  have hr := fun j z => Zb6 l me ys N j (fun q hq => h q (List.mem_cons_of_mem _ hq)) hm hz (by omega) x z
  split at hx
  ·rcases List.mem_append.mp hx with z | z
   ·have := Zb5 y N (h y (List.mem_cons_self ..) ‹_›) (by omega) x z
    exact ⟨this.1.up, this.2⟩
   ·rcases List.mem_append.mp z with z | z
    ·have e : x.2 = me := by
      match i with
      | 0 => cases l <;> simp [Z42] at z; rw [z]
      | 1 => cases l <;> simp [Z42] at z; rw [z]
      | _ + 2 => simp [Z42] at z
     rw [e]; exact ⟨hm, hz⟩
    ·exact hr _ z
  ·exact hr _ hx
end
theorem Zei {l : List (Str × Th)} {i : Nat} {p : Str × Th} (h : l[i]? = some p) : (Z14 (l.take (i + 1))).map (fun p => Zjf p.2) = (Z14 (l.take i)).map (fun p => Zjf p.2) ++ (if p.1 = "node" then [Zjf p.2] else []) := by
 unfold Z14
 rw [List.take_add_one, h, List.filter_append, List.map_append]
 by_cases hp : p.1 = "node" <;> simp [hp]
section
variable {P : Program} {w : World} {K : PySem.W.Frag} {mg : Str -> Option Value} {base : Heap}
structure HT (K : PySem.W.Frag) (mg : Str -> Option Value) (fP fH fS : Addr) (dP dH dS : FuncData) : Prop where
 T : TxtT mg
 TD : TxtD mg
 KI : Kits K
 P : Fun K "parts" "parts" Z47 fP dP
 bP : Binds K dP ["e"] []
 mP : mg "parts" = some (.ref fP)
 H : Fun K "head" "head" Zch fH dH
 bH : Binds K dH ["node"] []
 mH : mg "head" = some (.ref fH)
 S : Fun K "steps" "steps" Z5v fS dS
 bS : Binds K dS ["tree"] []
 mS : mg "steps" = some (.ref fS)
theorem nd2 : (["deed", "node"] : List Str).Nodup := by decide +kernel
theorem Zly : FnScope ["tree"] ["tree"] (Z03 Zci) := ⟨rfl, rfl, rfl, by decide +kernel, rfl, by decide +kernel, by decide +kernel⟩
theorem Zjg {f fP fH fS : Addr} {fd dP dH dS : FuncData} (F : Fun K "flat" "flat" Zci f fd) (U : HT K mg fP fH fS dP dH dS) (N : Nat) : FnOk P w K mg base CX0 3 f fd ["tree"] (Zi0 N) := by
 have GP : FnOk P w K mg base CX0 1 fP dP ["e"] spParts := Z7f U.P U.T U.KI
 have GH : FnOk P w K mg base CX0 1 fH dH ["node"] spHead := Zjd U.H U.T U.KI
 have GS : FnOk P w K mg base CX0 2 fS dS ["tree"] (Z9q N) := Zb3 U.S U.T U.TD U.KI U.P U.bP U.mP N
 obtain ⟨tn, hNode⟩ := U.TD.node
 refine F.ok Zly (fun vs H Q E h => ?_) (fun cdv A outer s H vs Q E hr h => ?_)
 ·obtain ⟨v, t, rfl, _⟩ := h
  rfl
 ·obtain ⟨v, t, rfl, ht, hok, hz, k⟩ := h
  have hsz : sizeLine = 16777216 := sizeLine_eq
  have hr1 : Room 1 _ := hr.mono (by decide)
  have hr2 : Room 2 _ := hr.mono (by decide)
  refine' ⟨?tt, ?body, ?fin⟩
  case body =>
   refine' Z05 ?s1
   case s1 =>
    refine' Z0d ?r
    case r =>
     refine' Z1s (N' := ["deed", "node"]) (src := [none, none]) ?k1 ?k5 ?k6 ?k7
     case k1 => rfl
     case k5 => exact Z0p (Z03 Zci) rfl ["tree"] rfl (by decide +kernel)
     case k6 => exact Z2k (Z07 GS hr2 (by rfl) U.mS U.S.kp U.bS .nil Z0e (Z0k (pv 0) Z00))
     case k7 =>
      intro cl C ex s0 H0
      refine' ⟨?g1, ?g2, ?g3⟩
      case g1 => exact Zb4 (K := K) (i := 0) (j := 1) rfl rfl nd2 rfl (Or.inl rfl) rfl (Or.inl rfl) (Or.inr rfl) (Or.inr rfl)
      case g2 => exact Z4h (Z0b Z1f (pv 0) (Z1d (v := .str "node") (by rfl) hNode ⟨tn, rfl⟩) (Z0l _))
      case g3 => exact Z1g (Z40 (Z07 GH hr1 (by rfl) U.mH U.H.kp U.bH .nil Z0e (Z0k (pv 1) Z00)) (Z40 (Z0c (id := "len") (Z7h (K := K) rfl) (by rfl) U.T.len PySem.boot_len (Z40 (Z07 GP hr1 (by rfl) U.mP U.P.kp U.bP .nil Z0e (Z0k (pv 1) Z00)) Z00)) Z00))
  case fin =>
   refine ⟨_, rfl, v, t, rfl, ht, hok, hz, fun p ws H1 s1 hp0 hp hws => ?_⟩
   have hl := IsThs.len _ hws
   rw [List.length_map] at hl
   have hlt := Z5y t
   refine ⟨p, rfl, ⟨_, SqL.of hp⟩, Z2w (K := K) (a := p) (xs := ws) (fun i ys σc H' => ∃ o o', σc = [o, o'] /\ Same H1 H' /\ ys.length <= i /\ IsThs H' ys ((Z14 ((Z0q t).take i)).map fun p => Zjf p.2))
    ⟨none, none, rfl, Same.refl _, Nat.le_refl _, by rw [List.take_zero]; exact .nil⟩ (fun i ys σc H' ⟨_, _, _, e, _⟩ => SqL.of (e _ _ hp)) ?_ ?_⟩
   ·rintro i x ys σc H' hx hi ⟨o, o', rfl, s2, hyl, hys⟩
    obtain ⟨u, hu, h1⟩ := Z17 _ hws hx
    rw [List.getElem?_map] at hu
    obtain ⟨q, hq, rfl⟩ : ∃ q, (Z0q t)[i]? = some q /\ pr q = u := by
     cases e : (Z0q t)[i]? with
     | none => rw [e] at hu; cases hu
     | some q => rw [e] at hu; exact ⟨q, rfl, by simpa using hu⟩
    obtain ⟨hqo, hqz⟩ := Zb5 t N hok hz q (List.mem_of_getElem? hq)
    obtain ⟨a, vs, rfl, ha, hvs⟩ := Z19 h1
    have htd := Zei hq
    cases hvs with
    | cons c1 c2 =>
     cases c2 with
     | @cons vn _ _ _ c3 c4 =>
      cases c4
      obtain ⟨rfl, _⟩ := Z2b c1
      refine ⟨by omega, a, _, rfl, SqT.of (s2 _ _ ha), rfl, _, _, rfl, _, _, rfl, rfl, _, rfl, rfl, _, rfl, Z16 (fun g => ?_) (fun g => ?_)⟩
      ·have hd : q.1 = "node" := by
        have g' := of_decide_eq_true g
        injection g'
       rw [if_pos hd] at htd
       obtain ⟨N', rfl⟩ : ∃ N', N = N' + 1 := by
        cases N with
        | zero => exact hqo.elim
        | succ N' => exact ⟨N', rfl⟩
       obtain ⟨w0, xs, e0, _⟩ := hqo
       rw [e0] at c3 hqz htd
       have hxs : Th.sz (.tup (.at (.str w0) :: xs)) = 1 + (1 + szs xs) := by simp only [Th.sz, szs]
       have hxl := Z5p xs
       have c3' := IsTh.kp (Kp.of s2) c3
       refine ⟨_, rfl, H', vn, _, rfl, Same.refl _, c3', by rw [List.length_cons]; omega, fun p1 ws1 H2 s3 hp1 hw1 => ?_⟩
       refine ⟨_, rfl, H2, vn, _, rfl, Same.refl _, IsTh.kp (Kp.of s3) c3', by rw [List.length_cons]; omega, fun p2 ps H3 s4 hp3 hps => ?_⟩
       refine ⟨p2, ps, rfl, .inr (SqT.of hp3), (by show 2 <= sizeLine; decide), fun q3 hq3 => ?_⟩
       have sA := (s3.trans s4).trans (Z02 (o := .tup [.ref p1, .int (ps.length : Nat)]) hq3)
       refine nx hi ⟨_, _, rfl, s2.trans sA, by rw [List.length_append]; show ys.length + 1 <= i + 1; omega, ?_⟩
       rw [htd]
       refine IsThs.app _ (IsThs.kp (Kp.of sA) hys) (.cons ?_ .nil)
       have hpl := IsThs.len _ hps
       show IsTh _ _ (.tup [.tup (Z7e (.at (.str w0) :: xs)), .at (.int ((Z0x (.at (.str w0) :: xs)).length : Nat))])
       rw [<- hpl]
       refine .tup Z01 (.cons (.tup (Z02 hq3 _ _ (s4 _ _ hp1)) (IsThs.kp (Kp.of sA) hw1)) (.cons (.at rfl) .nil))
      ·have hd : q.1 ≠ "node" := fun z => g (by rw [z]; decide +kernel)
       rw [if_neg hd, List.append_nil] at htd
       exact nx hi ⟨_, _, rfl, s2, by omega, by rw [htd]; exact hys⟩
   ·rintro ys σc H' ⟨o, o', rfl, s2, hyl, hys⟩ q hq
    rw [List.take_of_length_le (by omega)] at hys
    have sq := Z02 (o := .lst ys) hq
    exact k q ys _ ((s1.trans s2).trans sq) (Z2x (s1.trans s2) hq) Z01 (IsThs.kp (Kp.of sq) hys)
end
inductive Wd where
 | num | name | op | pick | lett | sett | say | take | dow | again | call | own | hole
 deriving DecidableEq
def kindOf (w : Str) : Option Wd :=
 if w = "num" then some .num else if w = "name" then some .name else if w = "op" then some .op else if w = "pick" then some .pick else if w = "let" then some .lett
 else if w = "set" then some .sett else if w = "say" then some .say else if w = "take" then some .take else if w = "do" then some .dow else if w = "again" then some .again
 else if w = "call" then some .call else if w = "own" then some .own else if w = "hole" then some .hole else none
section
variable (nm sg : Th -> Bool)
def Z0w (t : Th) (most : Option Int) : Bool := match t with
 | .at (.int i) => decide (0 <= i) && (match most with | none => true | some m => decide (i <= m))
 | _ => false
def rule : Wd -> Option (Th -> Bool) × Nat × Nat
 | .num => (some fun t => Z0w t (some 999999999), 0, 0)
 | .name => (some nm, 0, 0)
 | .op => (some sg, 2, 2)
 | .pick => (none, 3, 3)
 | .lett => (none, 2, 2)
 | .sett => (some nm, 1, 1)
 | .say => (none, 1, 1)
 | .take => (none, 0, 0)
 | .dow => (none, 1, 6)
 | .again => (some fun t => Z0w t (some 5), 1, 1)
 | .call => (some nm, 0, 6)
 | .own => (some fun t => Z0w t none, 0, 0)
 | .hole => (some fun t => Z0w t none, 0, 0)
def Zkz (r : Option (Th -> Bool) × Nat × Nat) (inner : List Th) : Bool := match r with
 | (none, lo, hi) => decide (lo <= inner.length) && decide (inner.length <= hi) && inner.all isTup
 | (some f, lo, hi) => match inner with
  | [] => false
  | x :: rest => f x && (decide (lo <= rest.length) && decide (rest.length <= hi) && rest.all isTup)
def Z6e : Th -> Bool
 | .tup (.at (.str w) :: inner) => match kindOf w with
  | none => false
  | some k => Zkz (rule nm sg k) inner
 | _ => false
mutual
def Z6f : Th -> Bool
 | .at _ => false
 | .lst _ => false
 | .tup xs => Z6e nm sg (.tup xs) && Z90 xs
def Z90 : List Th -> Bool
 | [] => true
 | x :: xs => (if isTup x = true then Z6f x else true) && Z90 xs
end
variable (hnm : ∀ t, nm t = true -> isTup t = false) (hsg : ∀ t, sg t = true -> isTup t = false)
include hnm hsg
end
def Z3g : Th -> Bool
 | .at (.int _) => true
 | _ => false
theorem Zgm (t : Th) : (Zdy t && !Zlq t) = Z3g t := by
 cases t with
 | «at» v => cases v <;> rfl
 | tup xs => rfl
 | lst xs => rfl
def Z32 (p : Th -> Bool) : Sp := fun vs H Q _ => ∃ (v : V) (t : Th), vs = [v] /\ IsTh H v t /\ ∀ H', Same H H' -> Q (.bl (p t)) H'
section
variable {P : Program} {w : World} {K : PySem.W.Frag} {mg : Str -> Option Value} {base : Heap}
theorem Zjh : FnScope ["thing"] ["thing"] (Z03 Z5w) := ⟨rfl, rfl, rfl, by decide +kernel, rfl, by decide +kernel, by decide +kernel⟩
theorem Z7i {f : Addr} {fd : FuncData} (F : Fun K "is_whole" "is_whole" Z5w f fd) (T : TxtT mg) (KI : Kits K) : FnOk P w K mg base CX0 1 f fd ["thing"] (Z32 Z3g) := by
 refine F.ok Zjh (fun vs H Q E h => ?_) (fun cdv A outer s H vs Q E hr h => ?_)
 ·obtain ⟨v, t, rfl, _⟩ := h
  rfl
 ·obtain ⟨v, t, rfl, ht, k⟩ := h
  refine ⟨_, Z05 (Z0d (Z2q (Z0c Z12 (by rfl) T.isi (by decide +kernel) (Z0k (pv 0) (Z0k (Z1j (v := .ty "int") (by rfl) T.int (by decide +kernel) rfl) Z00)))
   (Z3e (Zl5 (Z0c Z12 (by rfl) T.isi (by decide +kernel) (Z0k (pv 0) (Z0k (Z1j (v := .ty "bool") (by rfl) T.bl (by decide +kernel) rfl) Z00))))))), ?_⟩
  have kk := Zgm t
  refine ⟨_, rfl, _, _, _, _, rfl, Z3q ht, KI.int ht, _, rfl, Z16 (fun g => ?_) (fun g => ?_)⟩
  ·refine ⟨_, rfl, _, _, _, _, rfl, Z3q ht, KI.bl ht, _, rfl, ?_⟩
   rw [g, Bool.true_and] at kk
   rw [kk]
   exact k H (Same.refl H)
  ·rw [show Zdy t = false by simpa using g, Bool.false_and] at kk
   rw [kk]
   exact k H (Same.refl H)
end
section
variable {P : Program} {w : World} {K : PySem.W.Frag} {mg : Str -> Option Value} {base : Heap}
theorem Zji : FnScope ["thing"] ["thing"] (Z03 Zaz) := ⟨rfl, rfl, rfl, by decide +kernel, rfl, by decide +kernel, by decide +kernel⟩
theorem Z61 {t : Th} {H : Hp} {v : V} (h : IsTh H v t) (g : Z3g t = true) : ∃ i : Int, v = .int i /\ t = .at (.int i) := by
 cases h with
 | «at» f =>
  cases v with
  | int i => exact ⟨i, rfl, rfl⟩
  | _ => exact absurd (show false = true from g) Bool.false_ne_true
 | tup e r => exact absurd (show false = true from g) Bool.false_ne_true
 | lst e r => exact absurd (show false = true from g) Bool.false_ne_true
theorem Z7j {t : Th} (g : Z3g t = false) (m : Option Int) : Z0w t m = false := by
 cases t with
 | «at» v =>
  cases v with
  | int i => exact absurd (show true = false from g) (by decide)
  | _ => rfl
 | tup xs => rfl
 | lst xs => rfl
theorem Zgn {f fW : Addr} {fd dW : FuncData} {tk : Tok} (F : Fun K "is_value" "is_value" Zaz f fd) (T : TxtT mg) (KI : Kits K) (FW : Fun K "is_whole" "is_whole" Z5w fW dW) (bW : Binds K dW ["thing"] []) (mW : mg "is_whole" = some (.ref fW))
  (hG : mg "GREATEST_VALUE" = some (.int 999999999 tk)) : FnOk P w K mg base CX0 2 f fd ["thing"] (Z32 fun t => Z0w t (some 999999999)) := by
 have GW : FnOk P w K mg base CX0 1 fW dW ["thing"] (Z32 Z3g) := Z7i FW T KI
 refine F.ok Zji (fun vs H Q E h => ?_) (fun cdv A outer s H vs Q E hr h => ?_)
 ·obtain ⟨v, t, rfl, _⟩ := h
  rfl
 ·obtain ⟨v, t, rfl, ht, k⟩ := h
  refine ⟨_, Z05 (Z0d (Z2q (Z07 GW hr (by rfl) mW FW.kp bW .nil Z0e (Z0k (pv 0) Z00)) (Z3e (Z56 Z6c Z6c Z04 (pv 0) (Z1d (v := .int 999999999) (by rfl) hG ⟨tk, rfl⟩))))), ?_⟩
  refine ⟨_, rfl, v, t, rfl, ht, fun H1 s1 => ⟨_, rfl, Z16 (fun g => ?_) (fun g => ?_)⟩⟩
  ·obtain ⟨i, rfl, rfl⟩ := Z61 ht g
   refine ⟨_, rfl, _, _, rfl, rfl, _, rfl, Z16 (fun g1 => ?_) (fun g1 => ?_)⟩
   ·refine ⟨_, _, rfl, rfl, ?_⟩
    have e : Z0w (.at (.int i)) (some 999999999) = decide (i <= 999999999) := by
     show (decide (0 <= i) && decide (i <= 999999999)) = _
     rw [g1, Bool.true_and]
    show Q (.bl (decide (i <= 999999999))) H1
    rw [<- e]
    exact k H1 s1
   ·have e : Z0w (.at (.int i)) (some 999999999) = false := by
     show (decide (0 <= i) && decide (i <= 999999999)) = _
     rw [show decide (0 <= i) = false by simpa using g1, Bool.false_and]
    exact e ▸ k H1 s1
  ·have e := Z7j (show Z3g t = false by simpa using g) (some 999999999)
   exact e ▸ k H1 s1
theorem Zjj : FnScope ["thing"] ["thing"] (Z03 Zb0) := ⟨rfl, rfl, rfl, by decide +kernel, rfl, by decide +kernel, by decide +kernel⟩
theorem Zgo {f fW : Addr} {fd dW : FuncData} {tk : Tok} (F : Fun K "is_times" "is_times" Zb0 f fd) (T : TxtT mg) (KI : Kits K) (FW : Fun K "is_whole" "is_whole" Z5w fW dW) (bW : Binds K dW ["thing"] []) (mW : mg "is_whole" = some (.ref fW))
  (hG : mg "MOST_TIMES" = some (.int 5 tk)) : FnOk P w K mg base CX0 2 f fd ["thing"] (Z32 fun t => Z0w t (some 5)) := by
 have GW : FnOk P w K mg base CX0 1 fW dW ["thing"] (Z32 Z3g) := Z7i FW T KI
 refine F.ok Zjj (fun vs H Q E h => ?_) (fun cdv A outer s H vs Q E hr h => ?_)
 ·obtain ⟨v, t, rfl, _⟩ := h
  rfl
 ·obtain ⟨v, t, rfl, ht, k⟩ := h
  refine ⟨_, Z05 (Z0d (Z2q (Z07 GW hr (by rfl) mW FW.kp bW .nil Z0e (Z0k (pv 0) Z00)) (Z3e (Z56 Z6c Z6c Z04 (pv 0) (Z1d (v := .int 5) (by rfl) hG ⟨tk, rfl⟩))))), ?_⟩
  refine ⟨_, rfl, v, t, rfl, ht, fun H1 s1 => ⟨_, rfl, Z16 (fun g => ?_) (fun g => ?_)⟩⟩
  ·obtain ⟨i, rfl, rfl⟩ := Z61 ht g
   refine ⟨_, rfl, _, _, rfl, rfl, _, rfl, Z16 (fun g1 => ?_) (fun g1 => ?_)⟩
   ·refine ⟨_, _, rfl, rfl, ?_⟩
    have e : Z0w (.at (.int i)) (some 5) = decide (i <= 5) := by
     show (decide (0 <= i) && decide (i <= 5)) = _
     rw [g1, Bool.true_and]
    show Q (.bl (decide (i <= 5))) H1
    rw [<- e]
    exact k H1 s1
   ·have e : Z0w (.at (.int i)) (some 5) = false := by
     show (decide (0 <= i) && decide (i <= 5)) = _
     rw [show decide (0 <= i) = false by simpa using g1, Bool.false_and]
    exact e ▸ k H1 s1
  ·have e := Z7j (show Z3g t = false by simpa using g) (some 5)
   exact e ▸ k H1 s1
theorem Zgp : FnScope ["thing"] ["thing"] (Z03 Z7d) := ⟨rfl, rfl, rfl, by decide +kernel, rfl, by decide +kernel, by decide +kernel⟩
theorem Zej {f fW : Addr} {fd dW : FuncData} (F : Fun K "is_number" "is_number" Z7d f fd) (T : TxtT mg) (KI : Kits K) (FW : Fun K "is_whole" "is_whole" Z5w fW dW) (bW : Binds K dW ["thing"] []) (mW : mg "is_whole" = some (.ref fW)) :
  FnOk P w K mg base CX0 2 f fd ["thing"] (Z32 fun t => Z0w t none) := by
 have GW : FnOk P w K mg base CX0 1 fW dW ["thing"] (Z32 Z3g) := Z7i FW T KI
 refine F.ok Zgp (fun vs H Q E h => ?_) (fun cdv A outer s H vs Q E hr h => ?_)
 ·obtain ⟨v, t, rfl, _⟩ := h
  rfl
 ·obtain ⟨v, t, rfl, ht, k⟩ := h
  refine ⟨_, Z05 (Z0d (Z2q (Z07 GW hr (by rfl) mW FW.kp bW .nil Z0e (Z0k (pv 0) Z00)) (Z3e (Z4e Zin (pv 0) Z04 (Z0l _))))), ?_⟩
  refine ⟨_, rfl, v, t, rfl, ht, fun H1 s1 => ⟨_, rfl, Z16 (fun g => ?_) (fun g => ?_)⟩⟩
  ·obtain ⟨i, rfl, rfl⟩ := Z61 ht g
   refine ⟨_, rfl, _, _, rfl, rfl, ?_⟩
   have e : Z0w (.at (.int i)) none = decide (0 <= i) := by
    show (decide (0 <= i) && true) = _
    rw [Bool.and_true]
   show Q (.bl (decide (0 <= i))) H1
   rw [<- e]
   exact k H1 s1
  ·have e := Z7j (show Z3g t = false by simpa using g) none
   exact e ▸ k H1 s1
def signsL : List Str := ["+", "-", "*", "/", "<", "="]
def signB : Th -> Bool
 | .at (.str x) => inV (.str x) (signsL.map V.str)
 | _ => false
theorem Z33 (ts : List Str) : (ts.map V.str).all Z2e = true := by
 rw [List.all_map]; exact List.all_eq_true.mpr fun _ _ => rfl
theorem Zlz : FnScope ["thing"] ["thing"] (Z03 Zgj) := ⟨rfl, rfl, rfl, by decide +kernel, rfl, by decide +kernel, by decide +kernel⟩
theorem Zek {t : Th} {H : Hp} {v : V} (h : IsTh H v t) (g : Z5x t = true) : ∃ x : Str, v = .str x /\ t = .at (.str x) /\ x.length <= 1000 := by
 cases h with
 | «at» f =>
  cases v with
  | str x => exact ⟨x, rfl, rfl, of_decide_eq_true f⟩
  | _ => exact absurd (show false = true from g) Bool.false_ne_true
 | tup e r => exact absurd (show false = true from g) Bool.false_ne_true
 | lst e r => exact absurd (show false = true from g) Bool.false_ne_true
theorem Zjk {t : Th} (g : Z5x t = false) : signB t = false := by
 cases t with
 | «at» v =>
  cases v with
  | str x => exact absurd (show true = false from g) (by decide)
  | _ => rfl
 | tup xs => rfl
 | lst xs => rfl
theorem Zjl {f aS : Addr} {fd : FuncData} (F : Fun K "is_sign" "is_sign" Zgj f fd) (T : TxtT mg) (KI : Kits K) (mS : mg "SIGNS" = some (.ref aS)) (hS : ∀ H, SqT K H aS (signsL.map V.str)) :
  FnOk P w K mg base CX0 1 f fd ["thing"] (Z32 signB) := by
 refine F.ok Zlz (fun vs H Q E h => ?_) (fun cdv A outer s H vs Q E hr h => ?_)
 ·obtain ⟨v, t, rfl, _⟩ := h
  rfl
 ·obtain ⟨v, t, rfl, ht, k⟩ := h
  refine ⟨_, Z05 (Z0d (Z2q (Z0c Z12 (by rfl) T.isi (by decide +kernel) (Z0k (pv 0) (Z0k (Z1j (v := .ty "str") (by rfl) T.str (by decide +kernel) rfl) Z00)))
   (Z3e (Z4e Z2f (pv 0) (Z1d (v := .ref aS) (by rfl) mS rfl) (by with_unfolding_all rfl))))), ?_⟩
  refine ⟨_, rfl, _, _, _, _, rfl, Z3q ht, KI.str ht, _, rfl, Z16 (fun g => ?_) (fun g => ?_)⟩
  ·obtain ⟨x, rfl, rfl, hx⟩ := Zek ht g
   exact ⟨_, rfl, aS, signsL.map V.str, rfl, .inr (hS H), rfl, Z33 _, k H (Same.refl H)⟩
  ·have e := Zjk (show Z5x t = false by simpa using g)
   exact e ▸ k H (Same.refl H)
end
def wordsV : List V := [.str "num", .str "name", .str "op", .str "pick", .str "let", .str "set", .str "say", .str "take", .str "do", .str "again", .str "call", .str "own", .str "hole"]
def az (c : Nat) : Bool := decide (97 <= c) && decide (c <= 122)
def Z1w (x : Str) : Bool := decide (1 <= x.length) && (decide (x.length <= 8) && (!inV (.str x) wordsV && x.cps.toList.all az))
theorem Zns : ("a" : Str).cps.toList = [97] := by decide +kernel
theorem Znt : ("z" : Str).cps.toList = [122] := by decide +kernel
theorem Zi1 (a b : Nat) : ([a] < [b]) ↔ a < b := by simp [List.cons_lt_cons_iff]
theorem Zop (c : Nat) : decide ((⟨#[c]⟩ : Str).cps.toList < ("a" : Str).cps.toList) = decide (c < 97) := by
 rw [Zns]
 show decide ([c] < [97]) = _
 exact decide_eq_decide.mpr (Zi1 _ _)
theorem Zpk (c : Nat) : decide (("z" : Str).cps.toList < (⟨#[c]⟩ : Str).cps.toList) = decide (122 < c) := by
 rw [Znt]
 show decide ([122] < [c]) = _
 exact decide_eq_decide.mpr (Zi1 _ _)
theorem Z91 {α β : Type} {l : List α} {i : Nat} {c : α} (f : α -> β) (h : l[i]? = some c) : (l.take (i + 1)).map f = (l.take i).map f ++ [f c] := by
 rw [List.take_add_one, h]; simp
theorem Zel : wordsV.all Z2e = true := by decide +kernel
theorem Zb7 (K : PySem.W.Frag) (T : String) : PySem.W.kitOne K (.type T) (.type T) = some true := by
 unfold PySem.W.kitOne
 rw [if_pos (beq_self_eq_true _)]
def Znu (K : PySem.W.Frag) (H : Hp) (v : V) : Prop := ∃ ty, TyOf K H v ty /\ PySem.W.kitOne K ty (.type "str") = some false
def Zm0 (K : PySem.W.Frag) : Sp := fun vs H Q _ => ∃ v, vs = [v] /\ ((∃ x : Str, v = .str x /\ x.length <= 1000 /\ ∀ H', Same H H' -> Q (.bl (Z1w x)) H') ∨ (Znu K H v /\ ∀ H', Same H H' -> Q (.bl false) H'))
structure TxtN (K : PySem.W.Frag) (mg : Str -> Option Value) (aW : Addr) : Prop where
 len : mg "len" = none
 isi : mg "isinstance" = none
 str : mg "str" = none
 all : mg "all" = none
 long : ∃ tk, mg "LONGEST_NAME" = some (.int 8 tk)
 words : mg "WORDS" = some (.ref aW)
 tup : ∀ H, SqT K H aW wordsV
theorem Zem {x : Str} (h : x.length <= 1000) : x.length <= sizeLine := Nat.le_trans h (by decide)
section
variable {P : Program} {w : World} {K : PySem.W.Frag} {mg : Str -> Option Value} {base : Heap}
theorem Zm1 : FnScope ["thing"] ["thing"] (Z03 Z4o) := ⟨rfl, rfl, rfl, by decide +kernel, rfl, by decide +kernel, by decide +kernel⟩
theorem Zjm {f aW : Addr} {fd : FuncData} (F : Fun K "is_name" "is_name" Z4o f fd) (T : TxtN K mg aW) : FnOk P w K mg base CX0 1 f fd ["thing"] (Zm0 K) := by
 refine F.ok Zm1 (fun vs H Q E h => ?_) (fun cdv A outer s H vs Q E hr h => ?_)
 ·obtain ⟨v, rfl, _⟩ := h
  rfl
 ·obtain ⟨v, rfl, h⟩ := h
  obtain ⟨tk, hlong⟩ := T.long
  refine ⟨_, Z06 (Z0v (Z4d (Z1x (Z1k (Z0c Z12 (by rfl) T.isi (by decide +kernel) (Z09 (pv 0) (Z09 (Z1j (v := .ty "str") (by rfl) T.str (by decide +kernel) rfl) Z00)))))
    (Z4d (Z1x (Zab Z6c Z6c Z04 (Z0c Z4x (by rfl) T.len PySem.boot_len (Z09 (pv 0) Z00)) (Z1d (v := .int 8) (by rfl) hlong ⟨tk, rfl⟩)))
    (Z3t (Z0b Z2f (pv 0) (Z1d (v := .ref aW) (by rfl) T.words rfl) (by with_unfolding_all rfl))))).pt (Z05 (Z0d Z29)) Z0f) <|
   Z05 (Z0d (Z0c (Z3o rfl) (by rfl) T.all (by decide +kernel) (Z09 (Z1s (N' := ["sign"]) (src := [none]) rfl (Z0p (Z03 Z4o) rfl ["thing"] rfl (by decide +kernel)) (Zlh (pv 0))
    (fun cl C ex s0 H0 => ⟨Z0t (i := 0) (nd1 _) rfl (Or.inl rfl), Z2u, Z56 Z8j Z8j Z0a (pv 0) Z0a⟩)) Z00))), ?_⟩
  rcases h with ⟨x, rfl, hx, k⟩ | ⟨⟨ty, hty, hk⟩, k⟩
  ·have hl := Zem hx
   refine ⟨_, rfl, _, _, .type "str", true, rfl, .str x, Zb7 _ _, _, rfl, Z3z ?_⟩
   refine ⟨_, rfl, x, rfl, hl, _, _, rfl, rfl, _, rfl, ?_⟩
   refine Z16 (fun h1 => ?_) (fun h1 => ?_)
   ·refine ⟨_, _, rfl, rfl, _, rfl, ?_⟩
    refine Z16 (fun h2 => ?_) (fun h2 => ?_)
    ·refine Z4y ?_
     have e : Z1w x = false := by
      unfold Z1w
      have : decide (x.length <= 8) = false := by
       rw [decide_eq_false_iff_not]
       intro z
       rw [Bool.not_eq_true', decide_eq_false_iff_not] at h2
       exact h2 (by omega)
      rw [this, Bool.false_and, Bool.and_false]
     rw [e] at k
     exact k H (Same.refl H)
    ·refine ⟨_, rfl, aW, wordsV, rfl, .inr (T.tup H), rfl, Zel, _, rfl, ?_⟩
     refine Z16 (fun h3 => ?_) (fun h3 => ?_)
     ·have e : Z1w x = false := by
       unfold Z1w
       have h3' : inV (.str x) wordsV = true := h3
       rw [h3', Bool.not_true, Bool.false_and, Bool.and_false, Bool.and_false]
      rw [e] at k
      exact k H (Same.refl H)
     ·refine ⟨_, rfl, x, rfl, Zg0 (x := x) (fun i ys σc H' => ∃ o, σc = [o] /\ ys = (x.cps.toList.take i).map (fun c => V.bl (az c)) /\ H' = H) ⟨none, rfl, rfl, rfl⟩ ?_ ?_⟩
      ·rintro i c ys σc H' hc hi ⟨o, rfl, rfl, rfl⟩
       have hc' : x.cps.toList[i]? = some c := by simpa using hc
       refine ⟨?_, ?_⟩
       ·rw [List.length_map, List.length_take]
        have h2 : x.cps.toList.length = x.length := by simp [Str.length]
        have h3 : x.cps.size = x.length := rfl
        have : sizeLine = 16777216 := sizeLine_eq
        omega
       ·refine ⟨_, rfl, _, _, rfl, rfl, _, rfl, ?_⟩
        refine Z16 (fun g1 => ?_) (fun g1 => ?_)
        ·refine ⟨_, _, rfl, rfl, nx hi ⟨_, rfl, ?_, rfl⟩⟩
         rw [Z91 _ hc', Zpk]
         rw [Zop, Bool.not_eq_true', decide_eq_false_iff_not] at g1
         congr 2
         unfold az
         rw [decide_eq_true (show 97 <= c by omega), Bool.true_and]
         rw [show (!decide (122 < c)) = decide (c <= 122) by
          by_cases q : 122 < c
          ·rw [decide_eq_true q, decide_eq_false (by omega)]; rfl
          ·rw [decide_eq_false q, decide_eq_true (by omega)]; rfl]
        ·refine nx hi ⟨_, rfl, ?_, rfl⟩
         rw [Z91 _ hc']
         rw [Zop, Bool.not_eq_true', decide_eq_false_iff_not] at g1
         congr 2
         unfold az
         rw [decide_eq_false (show ¬ 97 <= c by omega), Bool.false_and]
      ·rintro ys σc H' ⟨o, rfl, rfl, rfl⟩ l hl'
       refine ⟨l, x.cps.toList.map az, rfl, SqL.of ?_, ?_⟩
       ·rw [Z01, List.take_of_length_le (by simp), List.map_map]; rfl
       ·have e : Z1w x = (x.cps.toList.map az).all id := by
         unfold Z1w
         have h1' : decide (1 <= x.length) = true := by
          rw [decide_eq_true_eq] at h1 ⊢
          omega
         have h2' : decide (x.length <= 8) = true := by
          rw [Bool.not_eq_true', decide_eq_false_iff_not, Classical.not_not] at h2
          rw [decide_eq_true_eq]
          omega
         have h3' : inV (.str x) wordsV = false := by
          cases q : inV (.str x) wordsV with
          | false => rfl
          | true => exact absurd q h3
         rw [h1', h2', h3', List.all_map]
         rfl
        rw [<- e]
        exact k _ (Z02 hl')
   ·refine ⟨_, rfl, Z4y (Z4y ?_)⟩
    have e : Z1w x = false := by
     unfold Z1w
     have : decide (1 <= x.length) = false := by
      rw [decide_eq_true_eq] at h1
      rw [decide_eq_false_iff_not]
      omega
     rw [this, Bool.false_and]
    rw [e] at k
    exact k H (Same.refl H)
  ·refine ⟨_, rfl, _, _, ty, false, rfl, hty, hk, _, rfl, Z4y (Z4y ?_)⟩
   exact k H (Same.refl H)
def nameB : Th -> Bool
 | .at (.str x) => Z1w x
 | _ => false
theorem Zjn {t : Th} (g : Z5x t = false) : nameB t = false := by
 cases t with
 | «at» v =>
  cases v with
  | str x => exact absurd (show true = false from g) (by decide)
  | _ => rfl
 | tup xs => rfl
 | lst xs => rfl
theorem Zgq {f aW : Addr} {fd : FuncData} (F : Fun K "is_name" "is_name" Z4o f fd) (T : TxtN K mg aW) (KI : Kits K) : FnOk P w K mg base CX0 1 f fd ["thing"] (Z32 nameB) :=
 (Zjm F T).imp fun vs H Q E h => by
  obtain ⟨v, t, rfl, ht, k⟩ := h
  refine ⟨v, rfl, ?_⟩
  cases g : Z5x t with
  | true =>
   obtain ⟨x, rfl, rfl, hx⟩ := Zek ht g
   exact .inl ⟨x, rfl, hx, k⟩
  | false =>
   refine .inr ⟨⟨_, Z3q ht, by rw [KI.str ht, g]⟩, fun H' s => ?_⟩
   have e := Zjn g
   exact e ▸ k H' s
end
section
variable {P : Program} {w : World} {K : PySem.W.Frag} {mg : Str -> Option Value} {base : Heap}
def Zb8 (K : PySem.W.Frag) (fits : Addr -> Th -> Bool) (Pf : Addr -> Prop) (v : V) : Option (Option (Th -> Bool) × Nat × Nat) -> Prop
 | none => v = .non
 | some (fo, lo, hi) => ∃ (a : Addr) (fv : V), v = .ref a /\ (∀ H, SqT K H a [fv, .int lo, .int hi]) /\ (match fo with
  | none => fv = .non
  | some p => ∃ f, fv = .ref f /\ Pf f /\ fits f = p)
structure Tables (K : PySem.W.Frag) (w : World) (mg : Str -> Option Value) (fits : Addr -> Th -> Bool) (Pf : Addr -> Prop) (aR aB : Addr) (kvR kvB : List (Str × V)) : Prop where
 mR : mg "RULES" = some (.ref aR)
 mB : mg "BARE_RULES" = some (.ref aB)
 dR : KDict K w aR kvR
 dB : KDict K w aB kvB
 at_ : ∀ x : Str, Zb8 K fits Pf ((Zcx kvB x).getD ((Zcx kvR x).getD .non)) ((kindOf x).map (rule nameB signB))
def Z6w (kvR : List (Str × V)) : Sp := fun vs H Q _ => ∃ x : Str, vs = [.str x] /\ Q ((Zcx kvR x).getD .non) H
def Z4q (K : PySem.W.Frag) (fits : Addr -> Th -> Bool) (Pf : Addr -> Prop) : Sp := fun vs H Q _ => ∃ x : Str, vs = [.str x] /\ ∀ v, Zb8 K fits Pf v ((kindOf x).map (rule nameB signB)) -> Q v H
variable {fits : Addr -> Th -> Bool} {Pf : Addr -> Prop} {aR aB : Addr} {kvR kvB : List (Str × V)}
theorem Zcl : FnScope ["word"] ["word"] (Z03 Z2z) := ⟨rfl, rfl, rfl, by decide +kernel, rfl, by decide +kernel, by decide +kernel⟩
theorem Z9r {f : Addr} {fd : FuncData} (F : Fun K "expression_rule" "expression_rule" Z2z f fd) (TA : Tables K w mg fits Pf aR aB kvR kvB) : FnOk P w K mg base CX0 1 f fd ["word"] (Z6w kvR) := by
 refine F.ok Zcl (fun vs H Q E h => ?_) (fun cdv A outer s H vs Q E hr h => ?_)
 ·obtain ⟨x, rfl, _⟩ := h
  rfl
 ·obtain ⟨x, rfl, k⟩ := h
  refine ⟨_, Z05 (Z0d (Zg7 (Z1d (v := .ref aR) (by rfl) TA.mR rfl) (pv 0) ⟨rfl, rfl, rfl, rfl⟩)), ?_⟩
  exact ⟨aR, kvR, rfl, TA.dR, _, rfl, x, rfl, k⟩
theorem Zcm : FnScope ["word"] ["word"] (Z03 Z49) := ⟨rfl, rfl, rfl, by decide +kernel, rfl, by decide +kernel, by decide +kernel⟩
theorem Z9s {f fE : Addr} {fd dE : FuncData} (F : Fun K "bare_rule" "bare_rule" Z49 f fd) (TA : Tables K w mg fits Pf aR aB kvR kvB) (FE : Fun K "expression_rule" "expression_rule" Z2z fE dE) (bE : Binds K dE ["word"] []) (mE : mg "expression_rule" = some (.ref fE)) :
  FnOk P w K mg base CX0 2 f fd ["word"] (Z4q K fits Pf) := by
 have GE : FnOk P w K mg base CX0 1 fE dE ["word"] (Z6w kvR) := Z9r FE TA
 refine F.ok Zcm (fun vs H Q E h => ?_) (fun cdv A outer s H vs Q E hr h => ?_)
 ·obtain ⟨x, rfl, _⟩ := h
  rfl
 ·obtain ⟨x, rfl, k⟩ := h
  refine ⟨_, Z05 (Z0d (Zg8 (Z1d (v := .ref aB) (by rfl) TA.mB rfl) (pv 0) (Z07 GE hr (by rfl) mE FE.kp bE .nil Z0e (Z0k (pv 0) Z00)) ⟨rfl, rfl, rfl, rfl⟩)), ?_⟩
  exact ⟨aB, kvB, rfl, TA.dB, _, rfl, x, rfl, _, rfl, x, rfl, k _ (TA.at_ x)⟩
end
abbrev Z6g (t : Th) : Bool := Z6e nameB signB t
def Zi2 (fR : Addr) : Sp := fun vs H Q _ => ∃ (v : V) (t : Th), vs = [v, .ref fR] /\ IsTh H v t /\ ∀ H', Same H H' -> Q (.bl (Z6g t)) H'
theorem Zoq (v : V) (vs : List V) : Z8a (v :: vs) (some 1) none = vs := by
 have e1 : HT.sIx (v :: vs).length 0 (some 1) = 1 := by
  show min 1 (vs.length + 1) = 1
  omega
 have e2 : HT.sIx (v :: vs).length (v :: vs).length none = vs.length + 1 := rfl
 unfold Z8a
 rw [e1, e2]
 show List.take (vs.length + 1 - 1) vs = vs
 rw [Nat.add_sub_cancel, List.take_length]
theorem Zb9 (v : V) (vs : List V) (hi : Option Int) : ¬ (HT.sIx (v :: vs).length 0 (some 1) = 0 /\ HT.sIx (v :: vs).length (v :: vs).length hi = (v :: vs).length) := fun z => by
 have e1 : HT.sIx (v :: vs).length 0 (some 1) = 1 := by
  show min 1 (vs.length + 1) = 1
  omega
 rw [e1] at z
 cases z.1
section
variable {P : Program} {w : World} {K : PySem.W.Frag} {mg : Str -> Option Value} {base : Heap}
variable {fits : Addr -> Th -> Bool} {Pf : Addr -> Prop}
theorem scNode : FnScope ["thing", "rule_of", "rule", "fits", "least", "most", "inner"] ["thing", "rule_of"] (Z03 Zck) := ⟨rfl, rfl, rfl, by decide +kernel, rfl, by decide +kernel, by decide +kernel⟩
def Zpl (fR : Addr) (H : Hp) (v : V) (t : Th) : St -> Hp -> Prop := fun σ' H' => σ' = [some v, some (.ref fR), none, none, none, none, none] /\ H' = H ∧
 ∃ (x : Str) (a : Addr) (vs : List V) (ts : List Th), v = .ref a /\ t = .tup (.at (.str x) :: ts) /\ H a = some (.tup (.str x :: vs)) /\ IsThs H vs ts
def Zpm (fR : Addr) (K : PySem.W.Frag) (H : Hp) (v : V) (t : Th) : St -> Hp -> Prop := fun σ' H' => ∃ (o2 o3 : Option V) (lo hi : Nat) (q : Addr) (rest : List V) (restT : List Th), σ' = [some v, some (.ref fR), o2, o3, some (.int lo), some (.int hi), some (.ref q)] /\ hi <= 6 /\ Same H H' ∧
 H' q = some (.tup rest) /\ IsThs H' rest restT /\ Z6g t = (decide (lo <= restT.length) && decide (restT.length <= hi) && restT.all isTup)
theorem Zjo {f fR : Addr} {fd dR : FuncData} (F : Fun K "is_node" "is_node" Zck f fd) (T : TxtT mg) (KI : Kits K)
  (GR : ∀ g, g = fR -> ∃ fd ps, FnOk P w K mg base CX0 2 g fd ps (Z4q K fits Pf) /\ PySem.W.keepIn K (.ref g) = true /\ Binds K fd ps [])
  (GF : ∀ g, Pf g -> ∃ fd ps, FnOk P w K mg base CX0 2 g fd ps (Z32 (fits g)) /\ PySem.W.keepIn K (.ref g) = true /\ Binds K fd ps []) :
  FnOk P w K mg base CX0 3 f fd ["thing", "rule_of"] (Zi2 fR) := by
 refine F.ok scNode (fun vs H Q E h => ?_) (fun cdv A outer s H vs Q E hr h => ?_)
 ·obtain ⟨v, t, rfl, _⟩ := h
  rfl
 ·obtain ⟨v, t, rfl, ht, k⟩ := h
  have hsz : sizeLine = 16777216 := sizeLine_eq
  refine' ⟨?tt, ?body, ?fin⟩
  case body =>
   refine' Z0h ?s1 (Z06 ?s2 (Z06 ?s3 (Z06 ?s4 (Z06 ?s5 (Z0h ?s6 (Z05 ?s7))))))
   case s1 =>
    refine' Z0v ?c (Z05 (Z0d Z29)) Z0f
    case c =>
     exact (Z4d (Z1x (Z1k (Z0c Z12 (by rfl) T.isi (by decide +kernel) (Z0k (pv 0) (Z0k (Z1j (v := .ty "tuple") (by rfl) T.tup (by decide +kernel) rfl) Z00)))))
      (Z4d (Z0b Z1f (Z0c Z0j (by rfl) T.len PySem.boot_len (Z0k (pv 0) Z00)) Z04 (Z0l _))
      (Z3t (Z1x (Z1k (Z0c Z12 (by rfl) T.isi (by decide +kernel) (Z09 (Z10 Z1c (pv 0) Z04 (fun _ _ => rfl)) (Z0k (Z1j (v := .ty "str") (by rfl) T.str (by decide +kernel) rfl) Z00)))))))).pt
   case s2 => exact Z08 (i := 2) scNode.nd rfl (Or.inl rfl) (Zao (Pf := fun g => g = fR) (sp := fun _ => Z4q K fits Pf) GR hr Z0e (pv 1) (Z09 (Z10 Z1c (pv 0) Z04 (fun _ _ => rfl)) Z00))
   case s3 => exact Z0v (Zhj (Zl4 (pv 2))) (Z05 (Z0d Z29)) Z0f
   case s4 => exact Zd3 (pv 2) (Zaa rfl (Z20 (Z0t (i := 3) scNode.nd rfl (Or.inl rfl)) <| Z20 (Z0t (i := 4) scNode.nd rfl (Or.inl rfl)) <| Z20 (Z0t (i := 5) scNode.nd rfl (Or.inl rfl)) Z70))
   case s5 => exact Z08 (i := 6) scNode.nd rfl (Or.inl rfl) (Z2l Zdg (pv 0) (Z3m Z04) Z3l)
   case s6 =>
    refine' Z0v ?c (Z06 ?b1 (Z05 ?b2)) Z0f
    case c => exact Zhj (Zil (pv 3))
    case b1 =>
     refine' Z0v ?d (Z05 (Z0d Z29)) Z0f
     case d => exact (Z4d (Z0b Z1f (Z0c Z0j (by rfl) T.len PySem.boot_len (Z0k (pv 6) Z00)) Z04 (Z0l _))
      (Z3t (Z1x (Z1k (Zao (Pf := Pf) (sp := fun g => Z32 (fits g)) GF hr Z0e (pv 3) (Z09 (Z10 Z1c (pv 6) Z04 (fun _ _ => rfl)) Z00)))))).pt
    case b2 => exact Z08 (i := 6) scNode.nd rfl (Or.inl rfl) (Z2l Zdg (pv 6) (Z3m Z04) Z3l)
   case s7 =>
    refine' Z0d (Z2q ?x (Z3e ?y))
    case x => exact Z56 Z6c Z6c (pv 4) (Z0c Z0j (by rfl) T.len PySem.boot_len (Z0k (pv 6) Z00)) (pv 5)
    case y => exact Z0c (Z3o rfl) (by rfl) T.all (by decide +kernel) (Z09 (Z1s (N' := ["part"]) (src := [none]) rfl (Z0p (Z03 Zck) rfl ["thing", "rule_of", "rule", "fits", "least", "most", "inner"] rfl (by decide +kernel)) (Z6h (pv 6))
     (fun cl C ex s0 H0 => ⟨Z0t (i := 0) (nd1 _) rfl (Or.inl rfl), Z2u, Z0c (id := "isinstance") (Z1r (K := K) rfl) (by rfl) T.isi (by decide +kernel) (Z0k (pv 0) (Z0k (Z1j (v := .ty "tuple") (by rfl) T.tup (by decide +kernel) rfl) Z00))⟩)) Z00)
  case fin =>
   have kf : ∀ H', Same H H' -> Z6g t = false -> Q (.bl false) H' := fun H' sm e => e ▸ k H' sm
   refine ⟨Zpl fR H v t, ?_, ?_⟩
   ·cases ht with
    | «at» f =>
     refine ⟨_, rfl, _, _, _, _, rfl, Z3q (.at f), KI.tup (H := H) (.at f), _, rfl, Z4y (Z4y (kf H (Same.refl H) ?_))⟩
     rfl
    | lst e r =>
     refine ⟨_, rfl, _, _, _, _, rfl, Z3q (.lst e r), KI.tup (H := H) (.lst e r), _, rfl, Z4y (Z4y (kf H (Same.refl H) ?_))⟩
     rfl
    | @tup a vs ts e r =>
     refine ⟨_, rfl, _, _, _, _, rfl, Z3q (.tup e r), KI.tup (H := H) (.tup e r), _, rfl, Z3z ?_⟩
     refine ⟨_, rfl, a, vs, rfl, .inr (SqT.of e), rfl, _, rfl, ?_⟩
     cases r with
     | nil => exact Z16 (fun _ => Z4y (kf H (Same.refl H) rfl)) (fun g => absurd (by decide) g)
     | @cons v0 vs0 t0 ts0 h0 r0 =>
      refine Z16 (fun g => ?_) (fun _ => ?_)
      ·have g' := of_decide_eq_true g
       injection g' with g''
       rw [List.length_cons] at g''
       omega
      ·refine ⟨_, rfl, a, _, 0, v0, rfl, rfl, SqT.of e, Z1v _ _, _, _, _, _, rfl, Z3q h0, KI.str h0, _, rfl, ?_⟩
       cases g : Z5x t0 with
       | false =>
        refine Z4y (kf H (Same.refl H) ?_)
        cases t0 with
        | «at» z =>
         cases z with
         | str x => cases g
         | _ => rfl
        | tup _ => rfl
        | lst _ => rfl
       | true =>
        obtain ⟨x, rfl, rfl, hx⟩ := Zek h0 g
        exact Z3z ⟨rfl, rfl, x, a, vs0, ts0, rfl, rfl, e, r0⟩
   rintro σ1 H1 ⟨rfl, rfl, x, a, vs, ts, rfl, rfl, ha, hts⟩
   refine ⟨_, rfl, fR, rfl, rfl, _, rfl, a, _, 0, .str x, rfl, rfl, SqT.of ha, Z1v _ _, x, rfl, fun rv hrv => ?_⟩
   cases hk : kindOf x with
   | none =>
    rw [hk] at hrv
    have e : rv = .non := hrv
    subst e
    refine ⟨_, rfl, _, rfl, Z4y (kf H1 (Same.refl H1) ?_)⟩
    show (match kindOf x with | none => false | some k => Zkz (rule nameB signB k) ts) = false
    rw [hk]
   | some kk =>
    have hn : Z6g (.tup (.at (.str x) :: ts)) = Zkz (rule nameB signB kk) ts := by
     show (match kindOf x with | none => false | some k => Zkz (rule nameB signB k) ts) = _
     rw [hk]
    rw [hk] at hrv
    obtain ⟨fo, lo, hi, hru⟩ : ∃ fo lo hi, rule nameB signB kk = (fo, lo, hi) := ⟨_, _, _, rfl⟩
    have hi6 : hi <= 6 := by
     have : (rule nameB signB kk).2.2 <= 6 := by cases kk <;> decide
     rw [hru] at this
     exact this
    rw [hru] at hn
    have hrv' : Zb8 K fits Pf rv (some (fo, lo, hi)) := by rw [<- hru]; exact hrv
    obtain ⟨a2, fv, e2, hsq, hfo⟩ := hrv'
    subst e2
    refine ⟨_, rfl, _, rfl, Z16 (fun g => absurd (of_decide_eq_true g) (by intro z; cases z)) (fun _ => ?_)⟩
    refine ⟨_, rfl, a2, _, rfl, hsq H1, rfl, _, _, rfl, _, _, rfl, _, _, rfl, rfl, ?_⟩
    refine ⟨_, rfl, _, rfl, a, _, rfl, SqT.of ha, Zb9 _ _ _, fun p hp => ?_⟩
    rw [Zoq]
    have sp1 := Z02 (o := .tup vs) hp
    have hp1 : upd H1 p (.tup vs) p = some (.tup vs) := Z01
    have hts1 := IsThs.kp (Kp.of sp1) hts
    generalize upd H1 p (.tup vs) = H2 at sp1 hp1 hts1 ⊢
    have hl := IsThs.len _ hts1
    refine ⟨Zpm fR K H1 (.ref a) (.tup (.at (.str x) :: ts)), ?_, ?_⟩
    ·cases fo with
     | none =>
      have e3 : fv = .non := hfo
      subst e3
      refine ⟨_, rfl, _, rfl, Z3z ⟨_, _, lo, hi, p, vs, ts, rfl, hi6, sp1, hp1, hts1, hn⟩⟩
     | some pr =>
      obtain ⟨g, e3, hPf, hfit⟩ := hfo
      subst e3
      refine ⟨_, rfl, _, rfl, Z16 (fun _ => ?_) (fun q => absurd (by rw [decide_eq_false (by intro z; cases z)]; rfl) q)⟩
      refine ⟨_, rfl, p, vs, rfl, .inr (SqT.of hp1), rfl, _, rfl, ?_⟩
      cases hts1 with
      | nil => exact Z16 (fun _ => Z4y (kf H2 sp1 hn)) (fun q => absurd (by decide) q)
      | @cons v1 vs1 t1 ts1 h1 r1 =>
       refine Z16 (fun q => ?_) (fun _ => ?_)
       ·have q' := of_decide_eq_true q
        injection q' with q''
        rw [List.length_cons] at q''
        omega
       ·refine ⟨_, rfl, g, rfl, hPf, _, rfl, p, _, 0, v1, rfl, rfl, SqT.of hp1, Z1v _ _, v1, t1, rfl, h1, fun H3 s3 => ⟨_, rfl, ?_⟩⟩
        have hn' : Z6g (.tup (.at (.str x) :: t1 :: ts1)) = (pr t1 && (decide (lo <= ts1.length) && decide (ts1.length <= hi) && ts1.all isTup)) := hn
        rw [hfit]
        cases hq : pr t1 with
        | false =>
         rw [hq, Bool.false_and] at hn'
         exact Z4y (kf H3 (sp1.trans s3) hn')
        | true =>
         rw [hq, Bool.true_and] at hn'
         refine Z3z ⟨_, rfl, _, rfl, p, _, rfl, SqT.of (s3 _ _ hp1), Zb9 _ _ _, fun p2 hp2 => ?_⟩
         rw [Zoq]
         exact ⟨_, _, lo, hi, p2, vs1, ts1, rfl, hi6, (sp1.trans s3).trans (Z02 hp2), Z01, IsThs.kp (Kp.of (Z02 hp2)) (IsThs.kp (Kp.of s3) r1), hn'⟩
    rintro σ3 H3 ⟨o2, o3, lo3, hi3, q, rest, restT, rfl, h63, s3, hq3, hr3, hn3⟩
    have hl3 := IsThs.len _ hr3
    have kk : ∀ b H', Same H3 H' -> b = (decide (lo3 <= restT.length) && decide (restT.length <= hi3) && restT.all isTup) -> Q (.bl b) H' := fun b H' sm e => by
     rw [e, <- hn3]; exact k H' (s3.trans sm)
    refine ⟨_, rfl, _, rfl, q, rest, rfl, .inr (SqT.of hq3), _, _, rfl, rfl, _, rfl, Z16 (fun g1 => ?_) (fun g1 => ?_)⟩
    ·have g1' : lo3 <= restT.length := by
      have := of_decide_eq_true g1
      omega
     refine ⟨_, rfl, _, _, rfl, rfl, _, rfl, Z16 (fun g2 => ?_) (fun g2 => ?_)⟩
     ·have g2' : restT.length <= hi3 := by
       have := of_decide_eq_true g2
       omega
      refine ⟨_, rfl, q, rfl, ⟨_, SqT.of hq3⟩, Z39 (K := K) (a := q) (xs := rest) (fun i ys σc H' => ∃ o, σc = [o] /\ ys = (restT.take i).map (fun t => V.bl (isTup t)) /\ H' = H3) ⟨none, rfl, rfl, rfl⟩ (fun i ys σc H' ⟨_, _, _, e⟩ => by rw [e]; exact SqT.of hq3) ?_ ?_⟩
      ·rintro i x1 ys σc H' hx hi ⟨o, rfl, rfl, rfl⟩
       obtain ⟨t1, ht1, h1⟩ := Z17 _ hr3 hx
       refine ⟨by rw [List.length_map, List.length_take]; omega, ?_⟩
       refine ⟨_, rfl, _, _, _, _, rfl, Z3q h1, KI.tup h1, nx hi ⟨_, rfl, ?_, rfl⟩⟩
       rw [List.take_add_one, ht1, List.map_append]
       rfl
      ·rintro ys σc H' ⟨o, rfl, rfl, rfl⟩ l hl'
       refine ⟨l, restT.map isTup, rfl, SqL.of ?_, ?_⟩
       ·rw [Z01, hl3, List.take_length, List.map_map]; rfl
       ·refine kk _ _ (Z02 hl') ?_
        rw [decide_eq_true g1', decide_eq_true g2', List.all_map]
        rfl
     ·refine kk _ _ (Same.refl _) ?_
      have g2' : ¬ restT.length <= hi3 := fun z => g2 (decide_eq_true (by omega))
      rw [decide_eq_false g2', Bool.and_false, Bool.false_and]
    ·refine ⟨_, rfl, Z3z (kk _ _ (Same.refl _) ?_)⟩
     have g1' : ¬ lo3 <= restT.length := fun z => g1 (decide_eq_true (by omega))
     rw [decide_eq_false g1', Bool.false_and, Bool.false_and]
end
abbrev treeT (t : Th) : Bool := Z6f nameB signB t
theorem Zen : ∀ ts : List Th, Z90 nameB signB ts = (ts.filter isTup).all treeT := by
 intro ts
 induction ts with
 | nil => simp [Z90]
 | cons t ts ih =>
  rw [Z90, List.filter_cons, ih]
  cases h : isTup t with
  | true => simp
  | false => simp
theorem Z7k {t : Th} (h : Z6g t = false) : treeT t = false := by
 cases t with
 | «at» v => simp [treeT, Z6f]
 | lst xs => simp [treeT, Z6f]
 | tup xs =>
  show Z6f nameB signB (.tup xs) = false
  rw [Z6f, show Z6e nameB signB (.tup xs) = false from h, Bool.false_and]
theorem Z7l {t : Th} (h : Z6g t = true) : ∃ ts, t = .tup ts /\ treeT t = (ts.filter isTup).all treeT := by
 cases t with
 | «at» v => cases h
 | lst xs => cases h
 | tup xs =>
  refine ⟨xs, rfl, ?_⟩
  show Z6f nameB signB (.tup xs) = _
  rw [Z6f, show Z6e nameB signB (.tup xs) = true from h, Bool.true_and, Zen]
def Zi3 (fR : Addr) : Sp := fun vs H Q _ => ∃ (v : V) (t : Th), vs = [v, .ref fR] /\ IsTh H v t /\ Th.sz t <= 1000000 /\ ∀ H', Same H H' -> Q (.bl (treeT t)) H'
section
variable {P : Program} {w : World} {K : PySem.W.Frag} {mg : Str -> Option Value} {base : Heap}
theorem scTree : FnScope ["thing", "rule_of", "waiting", "node"] ["thing", "rule_of"] (Z03 Zed) := ⟨rfl, rfl, rfl, by decide +kernel, rfl, by decide +kernel, by decide +kernel⟩
theorem Zjp {f fN fP fR : Addr} {fd dN dP : FuncData} (F : Fun K "is_tree" "is_tree" Zed f fd) (T : TxtT mg) (KI : Kits K)
  (GN : FnOk P w K mg base CX0 3 fN dN ["thing", "rule_of"] (Zi2 fR)) (FN : Fun K "is_node" "is_node" Zck fN dN) (bN : Binds K dN ["thing", "rule_of"] []) (mN : mg "is_node" = some (.ref fN))
  (FP : Fun K "parts" "parts" Z47 fP dP) (bP : Binds K dP ["e"] []) (mP : mg "parts" = some (.ref fP)) : FnOk P w K mg base CX0 4 f fd ["thing", "rule_of"] (Zi3 fR) := by
 have GP : FnOk P w K mg base CX0 1 fP dP ["e"] spParts := Z7f FP T KI
 refine F.ok scTree (fun vs H Q E h => ?_) (fun cdv A outer s H vs Q E hr h => ?_)
 ·obtain ⟨v, t, rfl, _⟩ := h
  rfl
 ·obtain ⟨v, t, rfl, ht, hz, k⟩ := h
  have hsz : sizeLine = 16777216 := sizeLine_eq
  have hr1 : Room 1 _ := hr.mono (by decide)
  refine' ⟨?tt, ?body, ?fin⟩
  case body =>
   refine' Z0h ?s1 (Z06 ?s2 (Z05 ?s3))
   case s1 => exact Z08 (i := 2) scTree.nd rfl (Or.inl rfl) (Z1h (Z0k (pv 0) Z00))
   case s2 =>
    refine' Z71 PassesOwn.never ?c (Z06 ?b1 (Z06 ?b2 (Z05 ?b3)))
    case c => exact Zac (pv 2) (fun _ => rfl)
    case b1 => exact Z08 (i := 3) scTree.nd rfl (Or.inl rfl) (Zhs PySem.F.plainAttrs_list PySem.F.slot_list_pop PySem.F.type_list_pop Zht (pv 2))
    case b2 => exact Z0v (Z1x (Z1k (Z07 GN hr (by rfl) mN FN.kp bN .nil Z0e (Z0k (pv 3) (Z0k (pv 1) Z00))))) (Z05 (Z0d Z29)) Z0f
    case b3 => exact Z2r (Z8d PySem.F.plainAttrs_list PySem.F.slot_list_extend PySem.F.type_list_extend Zc9 (pv 2) (Z40 (Z07 GP hr1 (by rfl) mP FP.kp bP .nil Z0e (Z0k (pv 3) Z00)) Z00))
   case s3 => exact Z0d Z29
  case fin =>
   refine ⟨fun σ' H' => ∃ wl, H wl = none /\ σ' = [some v, some (.ref fR), some (.ref wl), none] /\ H' = upd H wl (.lst [v]), ⟨_, rfl, (by show 1 <= sizeLine; decide), fun wl hwl => ⟨wl, hwl, rfl, rfl⟩⟩, ?_⟩
   rintro σ0 H0 ⟨wl, hwl, rfl, rfl⟩
   refine Zdx (fun m σ H' => ∃ (ws : List V) (us : List Th) (o : Option V), σ = [some v, some (.ref fR), some (.ref wl), o] /\ Same H H' /\ H' wl = some (.lst ws) /\ IsThs H ws us /\ m = szs us /\ szs us <= 1000000 /\ treeT t = us.all treeT)
    (szs [t]) ⟨[v], [t], none, rfl, Z02 hwl, Z01, .cons ht .nil, rfl, by simp [szs]; exact hz, by simp⟩ ?_ ?_
   ·rintro m σ H1 ⟨ws, us, o, rfl, s1, L1, hth, rfl, hsz1, htree⟩
    refine ⟨_, rfl, _, .inl ⟨ws, SqL.of L1, rfl⟩, ?_⟩
    cases hws : ws.isEmpty with
    | true =>
     have e : ws = [] := List.isEmpty_iff.mp hws
     subst e
     cases hth
     refine Z3z ?_
     have e2 : treeT t = true := by rw [htree]; rfl
     exact e2 ▸ k H1 s1
    | false =>
     have hne : ws ≠ [] := fun z => by rw [z] at hws; cases hws
     obtain ⟨ws', y, us', u, rfl, rfl, hth', hy⟩ := Zaq ws hth hne
     refine Z4y ?_
     refine ⟨_, rfl, .inl ⟨rfl, _, SqL.of L1⟩, wl, _, y, rfl, rfl, L1, (by rw [List.length_append]; simp), ?_⟩
     rw [List.dropLast_concat]
     have s2 : Same H (upd H1 wl (.lst ws')) := fun b ob e => by rw [Z0g (Z0i e hwl)]; exact s1 b ob e
     have L2 : upd H1 wl (.lst ws') wl = some (.lst ws') := Z01
     generalize upd H1 wl (.lst ws') = H2 at s2 L2 ⊢
     refine ⟨_, rfl, _, rfl, y, u, rfl, IsTh.kp (Kp.of s2) hy, fun H3 s3 => ⟨_, rfl, ?_⟩⟩
     rw [Z5o] at hsz1
     have hu1 : szs [u] = Th.sz u := by simp [szs]
     rw [List.all_append] at htree
     cases hn : Z6g u with
     | false =>
      refine Z4y ?_
      have e2 : treeT t = false := by
       rw [htree]
       show (us'.all treeT && (treeT u && true)) = false
       rw [Z7k hn]; simp
      exact e2 ▸ k H3 (s2.trans s3)
     | true =>
      obtain ⟨ts, rfl, htu⟩ := Z7l hn
      cases hy with
      | @tup a xs _ ha hxs =>
       have hl := IsThs.len _ hxs
       have hle := Z5p ts
       have hsu : Th.sz (.tup ts) = 1 + szs ts := by simp [Th.sz]
       have s23 := s2.trans s3
       refine Z3z ⟨_, rfl, .inl ⟨rfl, _, SqL.of (s3 _ _ L2)⟩, _, rfl, H, .ref a, ts, rfl, s23, .tup ha hxs, by omega, fun p ps H4 s4 hp4 hps => ?_⟩
       have hps : IsThs H ps (ts.filter isTup) := hps
       have hf := Zca ts
       have hlp := IsThs.len _ hps
       have hlf := Z5p (ts.filter isTup)
       have hlw := IsThs.len _ hth'
       have hlu := Z5p us'
       refine ⟨wl, p, ws', ps, rfl, rfl, s4 _ _ (s3 _ _ L2), hp4, by omega, ?_⟩
       refine ⟨szs (us' ++ ts.filter isTup), by rw [Z5o, Z5o, hu1]; omega, ws' ++ ps, us' ++ ts.filter isTup, _, rfl, ?_, Z01, ?_, rfl, by rw [Z5o]; omega, ?_⟩
       ·intro b ob e
        rw [Z0g (Z0i e hwl)]
        exact s4 _ _ (s23 _ _ e)
       ·exact IsThs.app _ hth' hps
       ·rw [htree, List.all_append, <- htu]
        show (us'.all treeT && (treeT (.tup ts) && true)) = _
        rw [Bool.and_true]
   ·rintro σ H1 Q1 Q2 hq ⟨u1, e1, b1, e2, q⟩
    exact ⟨u1, e1, b1, e2, hq _ _ q⟩
def spBare : Sp := fun vs H Q _ => ∃ (v : V) (t : Th), vs = [v] /\ IsTh H v t /\ Th.sz t <= 1000000 /\ ∀ H', Same H H' -> Q (.bl (treeT t)) H'
theorem Zm2 : FnScope ["thing"] ["thing"] (Z03 Zee) := ⟨rfl, rfl, rfl, by decide +kernel, rfl, by decide +kernel, by decide +kernel⟩
theorem Zjq {f fT fR : Addr} {fd dT : FuncData} (F : Fun K "is_bare" "is_bare" Zee f fd) (GT : FnOk P w K mg base CX0 4 fT dT ["thing", "rule_of"] (Zi3 fR)) (FT : Fun K "is_tree" "is_tree" Zed fT dT) (bT : Binds K dT ["thing", "rule_of"] []) (mT : mg "is_tree" = some (.ref fT))
  (mR : mg "bare_rule" = some (.ref fR)) : FnOk P w K mg base CX0 5 f fd ["thing"] spBare := by
 refine F.ok Zm2 (fun vs H Q E h => ?_) (fun cdv A outer s H vs Q E hr h => ?_)
 ·obtain ⟨v, t, rfl, _⟩ := h
  rfl
 ·obtain ⟨v, t, rfl, ht, hz, k⟩ := h
  refine ⟨_, Z05 (Z0d (Z07 GT hr (by rfl) mT FT.kp bT .nil Z0e (Z0k (pv 0) (Z0k (Z1d (v := .ref fR) (by rfl) mR rfl) Z00)))), ?_⟩
  exact ⟨_, rfl, v, t, rfl, ht, hz, k⟩
end
def nd (w : Str) (hd : List V) (ks : List Th) : Th := .tup (.at (.str w) :: (hd.map Th.at ++ ks))
def shB (w : Str) (hd : List V) (n : Nat) : Bool := match kindOf w with
 | none => false
 | some k => match rule nameB signB k, hd with
  | (none, lo, hi), [] => decide (lo <= n) && decide (n <= hi)
  | (some f, lo, hi), [v] => f (.at v) && (decide (lo <= n) && decide (n <= hi))
  | _, _ => false
def Wf (w : Str) (hd : List V) (n : Nat) : Prop := shB w hd n = true /\ (w = "own" -> ∃ i : Nat, hd = [.int (i : Nat)] /\ i < 60)
def PfT : Nat -> Th -> Prop
 | 0, _ => False
 | n + 1, t => ∃ (w : Str) (hd : List V) (ks : List Th), t = nd w hd ks /\ hd.length <= 1 /\ (∀ v ∈ hd, plT (.at v) = true) /\ (w = "let" -> hd = [] /\ ks.length = 2) /\ (w = "hole" -> ∃ i : Nat, hd = [.int i] /\ ks = []) /\ (ks.length <= 6 /\ Wf w hd ks.length) /\ ∀ k ∈ ks, PfT n k
theorem PfT.up : ∀ (n : Nat) {t : Th}, PfT n t -> PfT (n + 1) t := by
 intro n
 induction n with
 | zero => intro t h; exact h.elim
 | succ n ih =>
  intro t h
  obtain ⟨w, hd, ks, e, h1, h2, h3, h4, h5, h6⟩ := h
  exact ⟨w, hd, ks, e, h1, h2, h3, h4, h5, fun k hk => ih (h6 k hk)⟩
theorem PfT.le {n m : Nat} {t : Th} (h : PfT n t) (hm : n <= m) : PfT m t := by
 induction hm with
 | refl => exact h
 | step _ ih => exact PfT.up _ ih
theorem PfT.isTup {n : Nat} {t : Th} (h : PfT n t) : isTup t = true := by
 cases n with
 | zero => exact h.elim
 | succ n => obtain ⟨w, hd, ks, rfl, _⟩ := h; rfl
theorem Z7m (hd : List V) : (hd.map Th.at).filter L2.isTup = [] := by
 induction hd with
 | nil => rfl
 | cons v hd ih => rw [List.map_cons, List.filter_cons]; simpa [L2.isTup] using ih
theorem Zba (hd : List V) : (hd.map Th.at).filter Z1z = hd.map Th.at := by
 induction hd with
 | nil => rfl
 | cons v hd ih => rw [List.map_cons, List.filter_cons, if_pos (by rfl), ih]
theorem Z59 : ∀ {ks : List Th}, (∀ k ∈ ks, L2.isTup k = true) -> ks.filter L2.isTup = ks := fun h => List.filter_eq_self.mpr h
theorem Z92 {ks : List Th} (h : ∀ k ∈ ks, L2.isTup k = true) : ks.filter Z1z = [] := by
 rw [List.filter_eq_nil_iff]
 intro k hk
 unfold Z1z
 rw [h k hk]
 decide
theorem Z9t {w : Str} {hd : List V} {ks : List Th} (h : ∀ k ∈ ks, L2.isTup k = true) : Z0x (.at (.str w) :: (hd.map Th.at ++ ks)) = ks := by
 unfold Z0x
 rw [List.filter_cons, if_neg (by simp [L2.isTup]), List.filter_append, Z7m, List.nil_append, Z59 h]
theorem Zjr {w : Str} {hd : List V} {ks : List Th} (h : ∀ k ∈ ks, L2.isTup k = true) : Z7e (.at (.str w) :: (hd.map Th.at ++ ks)) = .at (.str w) :: hd.map Th.at := by
 unfold Z7e
 rw [List.filter_cons, if_pos (by rfl), List.filter_append, Zba, Z92 h, List.append_nil]
theorem PfT.ok : ∀ (n : Nat) {t : Th}, PfT n t -> OkT n t := by
 intro n
 induction n with
 | zero => intro t h; exact h.elim
 | succ n ih =>
  intro t h
  obtain ⟨w, hd, ks, rfl, h1, h2, h3, h4, h5, h6⟩ := h
  refine ⟨w, hd.map Th.at ++ ks, rfl, fun e => ?_, fun x hx ht => ?_⟩
  ·obtain ⟨rfl, h⟩ := h3 e
   show ((([] : List V).map Th.at ++ ks).filter L2.isTup).length = 2
   rw [List.map_nil, List.nil_append, Z59 fun k hk => (h6 k hk).isTup]
   exact h
  ·rcases List.mem_append.mp hx with z | z
   ·obtain ⟨v, _, rfl⟩ := List.mem_map.mp z
    cases ht
   ·exact ih (h6 x z)
theorem Zgr : ∀ a b : List Th, Z4z (a ++ b) = (Z4z a && Z4z b) := by
 intro a
 induction a with
 | nil => intro b; rw [List.nil_append, Z4z, Bool.true_and]
 | cons x a ih => intro b; rw [List.cons_append, Z4z, Z4z, ih, Bool.and_assoc]
theorem Z4a : ∀ {a : List Th}, (∀ x ∈ a, plT x = true) -> Z4z a = true := by
 intro a
 induction a with
 | nil => intro _; rw [Z4z]
 | cons x a ih => intro h; rw [Z4z, h x (List.mem_cons_self ..), ih fun y hy => h y (List.mem_cons_of_mem _ hy)]; rfl
theorem PfT.pl : ∀ (n : Nat) {t : Th}, PfT n t -> plT t = true := by
 intro n
 induction n with
 | zero => intro t h; exact h.elim
 | succ n ih =>
  intro t h
  obtain ⟨w, hd, ks, rfl, h1, h2, h3, h4, h5, h6⟩ := h
  unfold nd
  rw [plT, Z4z, Zgr, Z4a (a := hd.map Th.at) fun x hx => ?_, Z4a (a := ks) fun x hx => ih (h6 x hx), plT]
  ·rfl
  ·obtain ⟨v, hv, rfl⟩ := List.mem_map.mp hx
   exact h2 v hv
theorem Zm3 {n : Nat} : ∀ {a : List Th}, (∀ x ∈ a, dp x <= n) -> dps a <= n := by
 intro a
 induction a with
 | nil => intro _; rw [dps]; exact Nat.zero_le _
 | cons x a ih => intro h; rw [dps]; exact Nat.max_le.mpr ⟨h x (List.mem_cons_self ..), ih fun y hy => h y (List.mem_cons_of_mem _ hy)⟩
theorem Z9u (l : Bool) (me : Th) : ∀ (xs : List Th) (i : Nat), Z14 (Z24 l me i xs) = ((Z0x xs).map fun k => Z14 (Z0q k)).flatten := by
 intro xs
 induction xs with
 | nil => intro i; simp [Z24, Z0x, Z14]
 | cons x xs ih =>
  intro i
  rw [Z24]
  unfold Z0x at ih ⊢
  rw [List.filter_cons]
  split
  ·have h3 := Zcd l me i
   have h2 := ih (i + 1)
   unfold Z14 at *
   rw [List.filter_append, List.filter_append, h3, List.nil_append, List.map_cons, List.flatten_cons, h2]
  ·exact ih i
theorem Zeo (xs : List Th) : Z60 (.tup xs) = Zjf (.tup xs) :: ((Z0x xs).map Z60).flatten := by
 unfold Z60
 rw [Z0q]
 have h := Z9u (Z1y xs) (.tup xs) xs 0
 unfold Z14 at h ⊢
 rw [List.filter_cons, if_pos (by simp), List.map_cons, h, List.map_flatten, List.map_map]
 rfl
def Z93 : Th -> Option Nat
 | .tup [.at (.str w), .at (.int i)] => if w = "hole" then some i.toNat else none
 | _ => none
mutual
def fl (σ : Nat -> Th) : Th -> Th
 | .tup xs => match Z93 (.tup xs) with
  | some i => σ i
  | none => .tup (fls σ xs)
 | .at v => .at v
 | .lst xs => .lst xs
def fls (σ : Nat -> Th) : List Th -> List Th
 | [] => []
 | x :: xs => fl σ x :: fls σ xs
end
mutual
def hs : Th -> List Nat
 | .tup xs => match Z93 (.tup xs) with
  | some i => [i]
  | none => hss xs
 | .at _ => []
 | .lst _ => []
def hss : List Th -> List Nat
 | [] => []
 | x :: xs => hs x ++ hss xs
end
theorem Zjs (σ : Nat -> Th) : ∀ xs : List Th, fls σ xs = xs.map (fl σ) := by
 intro xs
 induction xs with
 | nil => rw [fls]; rfl
 | cons x xs ih => rw [fls, ih]; rfl
theorem Zjt {i : Nat} : ∀ {xs : List Th}, i ∈ hss xs ↔ ∃ x ∈ xs, i ∈ hs x := by
 intro xs
 induction xs with
 | nil => rw [hss]; simp
 | cons x xs ih => rw [hss, List.mem_append, ih]; simp
theorem Zep {i : Nat} : Z93 (nd "hole" [.int (i : Nat)] []) = some i := by
 show (if ("hole" : Str) = "hole" then some ((i : Nat) : Int).toNat else none) = some i
 rw [if_pos rfl]; simp
theorem Zbb {w : Str} {hd : List V} {ks : List Th} (h : w ≠ "hole") : Z93 (nd w hd ks) = none := by
 unfold nd Z93
 split
 ·next w' i e =>
  injection e with e
  injection e with e1 e2
  injection e1 with e1
  injection e1 with e1
  rw [if_neg (by rw [<- e1]; exact h)]
 ·rfl
theorem Z34 {σ : Nat -> Th} {i : Nat} : fl σ (nd "hole" [.int (i : Nat)] []) = σ i := by
 have h := Zep (i := i)
 unfold nd at h ⊢
 rw [fl, h]
theorem Z26 {i : Nat} : hs (nd "hole" [.int (i : Nat)] []) = [i] := by
 have h := Zep (i := i)
 unfold nd at h ⊢
 rw [hs, h]
theorem Zm4 (σ : Nat -> Th) (hd : List V) : (hd.map Th.at).map (fl σ) = hd.map Th.at := by
 rw [List.map_map]
 refine List.map_congr_left fun v _ => ?_
 show fl σ (.at v) = .at v
 rw [fl]
theorem Z94 {σ : Nat -> Th} {w : Str} {hd : List V} {ks : List Th} (h : w ≠ "hole") : fl σ (nd w hd ks) = nd w hd (ks.map (fl σ)) := by
 have h' := Zbb (hd := hd) (ks := ks) h
 unfold nd at h' ⊢
 rw [fl, h']
 dsimp only
 rw [Zjs, List.map_cons, List.map_append, Zm4, fl]
theorem Z35 {w : Str} {hd : List V} {ks : List Th} {i : Nat} (h : w ≠ "hole") : i ∈ hs (nd w hd ks) ↔ ∃ k ∈ ks, i ∈ hs k := by
 have h' := Zbb (hd := hd) (ks := ks) h
 unfold nd at h' ⊢
 rw [hs, h']
 dsimp only
 rw [Zjt]
 constructor
 ·rintro ⟨x, hx, hi⟩
  rcases List.mem_cons.mp hx with rfl | hx
  ·rw [hs] at hi; simp at hi
  ·rcases List.mem_append.mp hx with z | z
   ·obtain ⟨v, _, rfl⟩ := List.mem_map.mp z
    rw [hs] at hi; simp at hi
   ·exact ⟨x, z, hi⟩
 ·rintro ⟨k, hk, hi⟩
  exact ⟨k, List.mem_cons_of_mem _ (List.mem_append_right _ hk), hi⟩
def Tps (σ : Nat -> Th) : Prop := ∀ i, L2.isTup (σ i) = true
theorem Zm5 {σ : Nat -> Th} (hσ : Tps σ) {n : Nat} {t : Th} (h : PfT n t) : L2.isTup (fl σ t) = true := by
 cases n with
 | zero => exact h.elim
 | succ n =>
  obtain ⟨w, hd, ks, rfl, h1, h2, h3, h4, h5, h6⟩ := h
  by_cases e : w = "hole"
  ·subst e
   obtain ⟨i, rfl, rfl⟩ := h4 rfl
   rw [Z34]
   exact hσ i
  ·rw [Z94 e]
   rfl
theorem Znv {H : Hp} {a : Addr} {kvs kvs' : List (Key × V)} (h : H a = some (.dK kvs)) : Kp H (upd H a (.dK kvs')) := fun c o e n => by
 rw [Z0g (fun z => by rw [z, h] at e; cases e; exact n _ rfl)]
 exact e
theorem Zeq {n : Nat} {t : Th} (h : PfT n t) : 1 <= cnt t := by
 cases n with
 | zero => exact h.elim
 | succ n =>
  obtain ⟨w, hd, ks, rfl, _⟩ := h
  unfold nd
  rw [cnt]
  omega
def Z18 (l : Addr) (n : Nat) (z : Int) : List (Key × V) := [(Sum.inr "cells", .ref l), (Sum.inr "at", .int n), (Sum.inr "left", .int z)]
structure Feed (H : Hp) (d l : Addr) (ns : List Int) (n : Nat) : Prop where
 dc : ∃ z, H d = some (.dK (Z18 l n z))
 ls : H l = some (.lst (ns.map V.int))
 sz : ns.length <= 63
def But (d : Addr) (H H' : Hp) : Prop := ∀ b o, H b = some o -> b ≠ d -> H' b = some o
theorem But.refl (d : Addr) (H : Hp) : But d H H := fun _ _ e _ => e
theorem But.trans {d : Addr} {H H1 H2 : Hp} (a : But d H H1) (b : But d H1 H2) : But d H H2 := fun c o e n => b c o (a c o e n) n
theorem But.of {d : Addr} {H H1 : Hp} (a : Same H H1) : But d H H1 := fun c o e _ => a c o e
theorem Zgs (l : Addr) (n : Nat) (z : Int) : Z6a (Z18 l n z) (Sum.inr "cells") = some (.ref l) := by with_unfolding_all rfl
theorem Znw (l : Addr) (n : Nat) (z : Int) : Z6a (Z18 l n z) (Sum.inr "at") = some (.int n) := by with_unfolding_all rfl
theorem Zju (l : Addr) (n : Nat) (z : Int) : Z6a (Z18 l n z) (Sum.inr "left") = some (.int z) := by with_unfolding_all rfl
theorem Zm6 (l : Addr) (n : Nat) (z : Int) : Z7z (Z18 l n z) (Sum.inr "at") (.int ((n : Int) + 1)) = Z18 l (n + 1) z := by with_unfolding_all rfl
theorem Zgt (l : Addr) (n : Nat) (z y : Int) : Z7z (Z18 l n z) (Sum.inr "left") (.int y) = Z18 l n y := by with_unfolding_all rfl
theorem Z62 {H : Hp} {d l : Addr} {n : Nat} {z : Int} (h : H d = some (.dK (Z18 l n z))) : DGet H d (.str "cells") (some (.ref l)) := by
 have := DGet.k (k := Sum.inr "cells") h; rw [Zgs] at this; exact this
theorem Zm7 {H : Hp} {d l : Addr} {n : Nat} {z : Int} (h : H d = some (.dK (Z18 l n z))) : DGet H d (.str "at") (some (.int n)) := by
 have := DGet.k (k := Sum.inr "at") h; rw [Znw] at this; exact this
theorem Z7n {H : Hp} {d l : Addr} {n : Nat} {z : Int} (h : H d = some (.dK (Z18 l n z))) : DGet H d (.str "left") (some (.int z)) := by
 have := DGet.k (k := Sum.inr "left") h; rw [Zju] at this; exact this
theorem Zm8 {H : Hp} {d l : Addr} {n : Nat} {z : Int} (h : H d = some (.dK (Z18 l n z))) : DPut H d (.str "at") (.int ((n : Int) + 1)) (upd H d (.dK (Z18 l (n + 1) z))) := by
 have := DPut.k (k := Sum.inr "at") (v := .int ((n : Int) + 1)) h (by show 3 < sizeLine; decide); rw [Zm6] at this; exact this
theorem Zbc {H : Hp} {d l : Addr} {n : Nat} {z y : Int} (h : H d = some (.dK (Z18 l n z))) : DPut H d (.str "left") (.int y) (upd H d (.dK (Z18 l n y))) := by
 have := DPut.k (k := Sum.inr "left") (v := .int y) h (by show 3 < sizeLine; decide); rw [Zgt] at this; exact this
theorem Feed.ne {H : Hp} {d l : Addr} {ns : List Int} {n : Nat} (F : Feed H d l ns n) : l ≠ d := by
 obtain ⟨⟨z, h⟩, g, _⟩ := F
 exact Z3i g h (by intro q; cases q)
theorem Feed.but {H H' : Hp} {d l : Addr} {ns : List Int} {n m : Nat} {z : Int} (F : Feed H d l ns n) (b : But d H H') (h : H' d = some (.dK (Z18 l m z))) : Feed H' d l ns m := ⟨⟨z, h⟩, b l _ F.ls F.ne, F.sz⟩
theorem But.upd {d : Addr} {H : Hp} {o : HO} : But d H (upd H d o) := fun c u e n => by rw [Z0g n]; exact e
def Zi4 (K : PySem.W.Frag) : Sp := fun vs H Q _ => ∃ (a : Addr) (ns : List Int), vs = [.ref a] /\ SqL K H a (ns.map V.int) /\ ns.length <= 63 /\ ∀ d l H', Feed H' d l ns 0 -> H d = none -> Same H H' -> Q (.ref d) H'
def spDraw : Sp := fun vs H Q _ => ∃ (d l : Addr) (ns : List Int) (n : Nat) (m : Int), vs = [.ref d, .int m] /\ Feed H d l ns n /\ n <= 1000000000000 /\ 0 < m /\ m < 18446744073709551616 ∧
 ∀ r n' H', 0 <= r -> r < m -> n' <= n + 1 -> Feed H' d l ns n' -> But d H H' -> Q (.int r) H'
theorem Znx {ns : List Int} (h : ns.length <= 63) : Z8a (ns.map V.int) none (some 63) = ns.map V.int := by
 have e1 : HT.sIx (ns.map V.int).length 0 none = 0 := rfl
 have e2 : HT.sIx (ns.map V.int).length (ns.map V.int).length (some 63) = min 63 (ns.map V.int).length := rfl
 unfold Z8a
 rw [e1, e2, List.drop_zero, List.take_of_length_le]
 rw [List.length_map]; omega
theorem Zor (x : Int) : -(2 ^ 64) < x % 2147483629 := by omega
theorem Zos (x : Int) : x % 2147483629 < 2 ^ 64 := by omega
theorem Z36 (ns : List Int) : (ns.map V.int).all Z2e = true := by
 rw [List.all_map]; exact List.all_eq_true.mpr fun _ _ => rfl
theorem Feed.same {H H' : Hp} {d l : Addr} {ns : List Int} {n : Nat} (F : Feed H d l ns n) (s : Same H H') : Feed H' d l ns n := let ⟨⟨z, h⟩, g, q⟩ := F; ⟨⟨z, s _ _ h⟩, s _ _ g, q⟩
theorem Z63 {xs : List V} (h : xs.length <= 1000) : xs.length <= sizeLine := Nat.le_trans h (by decide)
structure Txt0 (mg : Str -> Option Value) : Prop where
 len : mg "len" = none
 list : mg "list" = none
 range : mg "range" = none
section
variable {P : Program} {w : World} {K : PySem.W.Frag} {mg : Str -> Option Value} {base : Heap}
theorem Zm9 : FnScope ["_law_script"] ["_law_script"] (Z03 Ze9) := ⟨rfl, rfl, rfl, by decide +kernel, rfl, by decide +kernel, by decide +kernel⟩
theorem Zjv {f : Addr} {fd : FuncData} (F : Fun K "_law_feed" "_law_feed" Ze9 f fd) (T : Txt0 mg) : FnOk P w K mg base CX0 1 f fd ["_law_script"] (Zi4 K) := by
 refine F.ok Zm9 (fun vs H Q E h => ?_) (fun cdv A outer s H vs Q E hr h => ?_)
 ·obtain ⟨a, ns, rfl, _⟩ := h
  rfl
 ·obtain ⟨a, ns, rfl, hS, hl, k⟩ := h
  refine ⟨_, Z05 (Z0d (Zdo (Z2a Z0a (Z1m Z2t (by rfl) T.list (by rfl) (Z09 (Z2l Zir (pv 0) Z3l (Z3m Z04)) Z00)) (Z2a Z0a Z04 (Z2a Z0a Z04 Zdn))) rfl rfl (by intro z; cases z) (by decide))), ?_⟩
  intro d hd
  refine ⟨_, rfl, _, rfl, a, _, rfl, (Z02 hd).seq hS, fun p hp => ?_⟩
  refine ⟨p, _, rfl, .inl (SqL.of Z01), fun l hl' => ?_⟩
  have hdl : d ≠ l := Z0i (H := upd (upd H d (.dK [])) p (.lst (Z8a (ns.map V.int) none (some 63)))) (by rw [Z0g (Z0i Z01 hp)]; exact Z01) hl'
  have hpd : p ≠ d := fun z => by rw [z, Z01] at hp; cases hp
  refine ⟨by rw [Z0g hdl, Z0g hpd.symm]; exact Z01, Z18 l 0 0, rfl, by show 3 <= 15; decide, ?_⟩
  have em : Z5h [] (Z18 l 0 0) = Z18 l 0 0 := by with_unfolding_all rfl
  rw [em]
  refine k d l _ ⟨⟨0, Z01⟩, ?_, hl⟩ hd ?_
  ·rw [Z0g hdl.symm, Z01, Znx hl]
  ·intro b o e
   have hb : (upd H d (.dK [])) b = some o := Z02 hd b o e
   have hb2 := Z02 (o := .lst (Z8a (ns.map V.int) none (some 63))) hp b o hb
   rw [Z0g (Z0i e hd)]
   exact Z02 hl' b o hb2
theorem scDraw : FnScope ["_law_feed_here", "_law_many", "_law_found", "_law_at", "_law_cell", "_law_number"] ["_law_feed_here", "_law_many"] (Z03 Zea) := ⟨rfl, rfl, rfl, by decide +kernel, rfl, by decide +kernel, by decide +kernel⟩
theorem Z4r {f : Addr} {fd : FuncData} (F : Fun K "_law_draw" "_law_draw" Zea f fd) (T : Txt0 mg) : FnOk P w K mg base CX0 1 f fd ["_law_feed_here", "_law_many"] spDraw := by
 refine F.ok scDraw (fun vs H Q E h => ?_) (fun cdv A outer s H vs Q E hr h => ?_)
 ·obtain ⟨d, l, ns, n, m, rfl, _⟩ := h
  rfl
 ·obtain ⟨d, l, ns, n, m, rfl, FD, hn, hm0, hm1, k⟩ := h
  have hu := Znl hr
  have hu0 := hr.units0
  obtain ⟨⟨z, hd⟩, hls, hsz⟩ := id FD
  refine ⟨_, Z06 (Z0v (Z0b Zfv (Z11 hu (pv 0) Z0a (fun _ _ => rfl)) Z04 (Z0l _))
    (Z06 (Z08 (i := 2) scDraw.nd rfl (Or.inl rfl) (Z0o Z2c (Z11 hu (pv 0) Z0a (fun _ _ => rfl)) (pv 1))) <|
     Z06 (Z5g hu (pv 0) Z0a (Z0o Z58 (Z11 hu (pv 0) Z0a (fun _ _ => rfl)) (pv 1)) rfl) <|
     Z05 (Z0d (pv 2))) Z0f) <|
   Z06 (Z08 (i := 3) scDraw.nd rfl (Or.inl rfl) (Z11 hu (pv 0) Z0a (fun _ _ => rfl))) <|
   Z06 (Z5g hu (pv 0) Z0a (Z0o Z1l (pv 3) Z04) rfl) <|
   Z06 (Z08 (i := 4) scDraw.nd rfl (Or.inl rfl) (Z0o Z1l (Z0o Z3f (pv 3) (pv 3)) Z04)) <|
   Z0h (Z0v (Z0b (Z4j hu0) (Z11 hu (pv 0) Z0a (fun _ _ => rfl)) (Z1h Z00) (Z0l _))
    (Z05 (Z08 (i := 4) scDraw.nd rfl (Or.inl rfl) (Z10 Z1e (Z11 hu (pv 0) Z0a (fun _ _ => rfl)) (Z0o Z2c (pv 3) (Z0c Z0j (by rfl) T.len PySem.boot_len (Z09 (Z11 hu (pv 0) Z0a (fun _ _ => rfl)) Z00))) (fun _ _ => rfl)))) Z0f) <|
   Z06 (Z0v (Z0b Zin (pv 4) (Z0o Zhl Z04 Z04) (Z0l _))
    (Z06 (Z5g hu (pv 0) Z0a (Z0o Z58 (pv 4) (pv 1)) rfl) <| Z05 (Z0d (Z0o Z2c (pv 4) (pv 1)))) Z0f) <|
   Z06 (Z08 (i := 5) scDraw.nd rfl (Or.inl rfl) (Z0o Z2c (Z0o Z3f (Z0o Z1l (Z0o Z1l (Z0o Z2c (pv 4) Z04) (Z0o Z3f Z04 (pv 3))) Z04) Z04) Z04)) <|
   Z06 (Z08 (i := 5) scDraw.nd rfl (Or.inl rfl) (Z0o Z2c (Z0o Z1l (Z0o Z1l (Z0o Z3f (pv 5) (pv 5)) (Z0o Z3f Z04 (pv 3))) Z04) Z04)) <|
   Z06 (Z08 (i := 5) scDraw.nd rfl (Or.inl rfl) (Z0o Z2c (Z0o Z1l (Z0o Z3f (pv 5) Z04) (pv 3)) Z04)) <|
   Z05 (Z0d (Z0o Z2c (Z0o Z58 (Z0o Z2c (Z0o Z3f (pv 5) (pv 5)) Z04) Z04) (pv 1))), ?_⟩
  refine ⟨_, rfl, d, .int z, rfl, Z7n hd, _, _, rfl, rfl, _, rfl, ?_⟩
  refine Z16 (fun hz => ?_) (fun hz => ?_)
  ·refine ⟨_, rfl, d, .int z, rfl, Z7n hd, _, rfl, _, _, rfl, rfl, hm0, ?_⟩
   refine ⟨_, rfl, d, .int z, rfl, Z7n hd, _, rfl, _, _, rfl, rfl, ⟨hm0, hm1⟩, _, rfl, d, _, rfl, Zbc hd, _, rfl, ?_⟩
   exact k _ n _ (Int.emod_nonneg _ (by omega)) (Int.emod_lt_of_pos _ hm0) (Nat.le_succ _) (FD.but But.upd Z01) But.upd
  ·refine ⟨_, rfl, d, .int n, rfl, Zm7 hd, ?_⟩
   refine ⟨_, rfl, _, _, rfl, rfl, _, rfl, d, _, rfl, Zm8 hd, ?_⟩
   have hd1 : upd H d (.dK (Z18 l (n + 1) z)) d = some (.dK (Z18 l (n + 1) z)) := Z01
   have F1 : Feed (upd H d (.dK (Z18 l (n + 1) z))) d l ns (n + 1) := FD.but But.upd Z01
   have B1 : But d H (upd H d (.dK (Z18 l (n + 1) z))) := But.upd
   generalize upd H d (.dK (Z18 l (n + 1) z)) = H1 at hd1 F1 B1 ⊢
   have hls1 := F1.ls
   refine ⟨_, rfl, _, rfl, _, _, rfl, rfl, .inl ⟨by omega, by omega⟩, _, _, rfl, rfl, ?_⟩
   refine ⟨fun σ' H' => ∃ c o, σ' = [some (.ref d), some (.int m), o, some (.int n), some (.int c), none] /\ Feed H' d l ns (n + 1) /\ But d H H', ?_, ?_⟩
   ·refine ⟨_, rfl, d, .ref l, rfl, Z62 hd1, Nat.zero_le _, fun e he => ⟨l, e, ns.map V.int, [], rfl, rfl, SqL.of (Z02 he _ _ hls1), SqL.of Z01, Z36 ns, rfl, _, rfl, ?_⟩⟩
    have F2 := F1.same (Z02 (o := .lst []) he)
    have B2 : But d H (upd H1 e (.lst [])) := B1.trans (But.of (Z02 he))
    obtain ⟨⟨z2, hd2⟩, hls2, _⟩ := id F2
    refine Z16 (fun hne => ?_) (fun hne => ?_)
    ·have hpos : 0 < (ns.map V.int).length := by
      cases ns with
      | nil => exact absurd hne (by decide)
      | cons _ _ => exact Nat.succ_pos _
     obtain ⟨v, hv, hat⟩ := Zli hpos (n : Int)
     obtain ⟨c, _, rfl⟩ := List.mem_map.mp hv
     refine ⟨_, rfl, d, .ref l, rfl, Z62 hd2, _, rfl, _, rfl, d, .ref l, rfl, Z62 hd2, l, ns.map V.int, rfl, .inl (SqL.of hls2), _, _, rfl, rfl, (by show (0 : Int) < ((ns.map V.int).length : Int); omega), l, ns.map V.int, _, .int c, rfl, rfl, SqL.of hls2, hat, ?_⟩
     exact ⟨c, none, rfl, F2, B2⟩
    ·exact ⟨_, none, rfl, F2, B2⟩
   ·rintro σ' H2 ⟨c, o, rfl, F2, B2⟩
    obtain ⟨⟨z2, hd2⟩, hls2, _⟩ := id F2
    refine ⟨_, rfl, _, _, rfl, rfl, ⟨by decide, by decide, by decide⟩, _, _, rfl, rfl, _, rfl, ?_⟩
    refine Z16 (fun hge => ?_) (fun hge => ?_)
    ·refine ⟨_, rfl, _, rfl, _, _, rfl, rfl, ⟨hm0, hm1⟩, _, rfl, d, _, rfl, Zbc hd2, _, rfl, _, rfl, _, _, rfl, rfl, hm0, ?_⟩
     exact k _ (n + 1) _ (Int.emod_nonneg _ (by omega)) (Int.emod_lt_of_pos _ hm0) (Nat.le_refl _) (F2.but But.upd Z01) (B2.trans But.upd)
    ·refine ⟨_, rfl, _, _, rfl, rfl, (by show (0 : Int) < 2147483647; decide), _, rfl, _, _, rfl, rfl, .inl ⟨by decide, by decide⟩, _, _, rfl, rfl, _, _, rfl, rfl, _, _, rfl, rfl, .inr ⟨by decide, by decide⟩, _, _, rfl, rfl, (by show (0 : Int) < 2147483629; decide), ?_⟩
     refine ⟨_, rfl, _, rfl, _, _, rfl, rfl, .inl ⟨Zor _, Zos _⟩, _, rfl, _, _, rfl, rfl, .inl ⟨by decide, by decide⟩, _, _, rfl, rfl, _, _, rfl, rfl, _, _, rfl, rfl, (by show (0 : Int) < 2147483647; decide), ?_⟩
     refine ⟨_, rfl, _, _, rfl, rfl, .inr ⟨by decide, by decide⟩, _, rfl, _, _, rfl, rfl, _, _, rfl, rfl, (by show (0 : Int) < 2147483629; decide), ?_⟩
     refine ⟨_, rfl, _, rfl, _, _, rfl, rfl, .inl ⟨Zor _, Zos _⟩, _, _, rfl, rfl, (by show (0 : Int) < 2147483587; decide), _, _, rfl, rfl, ⟨by decide, by decide⟩, _, rfl, _, _, rfl, rfl, hm0, ?_⟩
     exact k _ (n + 1) _ (Int.emod_nonneg _ (by omega)) (Int.emod_lt_of_pos _ hm0) (Nat.le_refl _) F2 B2
def Low (t : Str) : Prop := ∀ c ∈ t.cps.toList, 97 <= c /\ c <= 122
theorem Zjw : Low "" := by
 have e : ("" : Str).cps.toList = [] := by decide +kernel
 intro c hc
 rw [e] at hc
 cases hc
theorem Z64 {x y : Str} (a : Low x) (b : Low y) : Low (x ++ y) := by
 intro c hc
 have e : (x ++ y).cps.toList = x.cps.toList ++ y.cps.toList := by
  show (x.cps ++ y.cps).toList = _
  rw [Array.toList_append]
 rw [e] at hc
 rcases List.mem_append.mp hc with z | z
 ·exact a c z
 ·exact b c z
theorem Z9v {c : Nat} (h : 97 <= c /\ c <= 122) : Low ⟨#[c]⟩ := by
 intro d hd
 have : d = c := by simpa using hd
 subst this
 exact h
def Zer (t : Str) (x m : Int) : Prop := ((t.length : Int) = m /\ Low t) /\ (0 < m -> t.cps.toList[0]? = some (97 + (x % 26).toNat))
def spSpelled : Sp := fun vs H Q _ => ∃ (x m : Int), vs = [.int x, .int m] /\ 0 <= m /\ m <= 10 /\ ∀ t : Str, Zer t x m -> Q (.str t) H
abbrev abc : Str := "abcdefghijklmnopqrstuvwxyz"
theorem Zma : ∀ k : Fin 26, abc.cps.toList[k.val]? = some (97 + k.val) := by decide +kernel
theorem Zmb (y : Int) : atI abc.cps.toList (y % 26) = some (97 + (y % 26).toNat) := by
 have h0 : 0 <= y % 26 := by omega
 have h1 : y % 26 < 26 := by omega
 have e : y % 26 = ((y % 26).toNat : Int) := by omega
 have h := Z2m (Zma ⟨(y % 26).toNat, by omega⟩)
 rw [<- e] at h
 exact h
theorem scSpelled : FnScope ["_law_number", "_law_long", "_law_word", "_law_k"] ["_law_number", "_law_long"] (Z03 Z48) := ⟨rfl, rfl, rfl, by decide +kernel, rfl, by decide +kernel, by decide +kernel⟩
theorem Zcn {f : Addr} {fd : FuncData} (F : Fun K "_law_spelled" "_law_spelled" Z48 f fd) (T : Txt0 mg) : FnOk P w K mg base CX0 1 f fd ["_law_number", "_law_long"] spSpelled := by
 refine F.ok scSpelled (fun vs H Q E h => ?_) (fun cdv A outer s H vs Q E hr h => ?_)
 ·obtain ⟨x, m, rfl, _⟩ := h
  rfl
 ·obtain ⟨x, m, rfl, h0, h1, k⟩ := h
  refine ⟨_, Z06 (Z08 (i := 2) scSpelled.nd rfl (Or.inl rfl) Z0a) <|
   Z06 (Z5c PassesOwn.never rfl (Z2s rfl T.range (Z09 (pv 1) Z00)) (Z0t (i := 3) scSpelled.nd rfl (Or.inl rfl))
    (Z06 (Z08 (i := 2) scSpelled.nd rfl (Or.inl rfl) (Z0o Z2d (pv 2) (Z10 Zaf Z0a (Z0o Z2c (pv 0) Z04) (fun _ _ => rfl)))) <|
     Z05 (Z08 (i := 0) scSpelled.nd rfl (Or.inl rfl) (Z0o Z58 (pv 0) Z04)))) <|
   Z05 (Z0d (pv 2)), ?_⟩
  refine ⟨_, rfl, m, rfl, by omega, by omega, Z3v (n := m.toNat) (fun i σ H' => ∃ y t o, σ = [some (.int y), some (.int m), some (.str t), o] /\ t.length = i /\ Low t /\ (i = 0 -> y = x) /\ (0 < i -> t.cps.toList[0]? = some (97 + (x % 26).toNat)) /\ H' = H) ⟨x, _, none, rfl, rfl, Zjw, fun _ => rfl, fun z => absurd z (Nat.lt_irrefl _), rfl⟩ ?_ ?_⟩
  ·rintro i σ H' hi ⟨y, t, o, rfl, ht, hlow, hy, hf, rfl⟩
   have hat := Zmb y
   refine ⟨_, rfl, _, rfl, _, _, rfl, rfl, (by show (0 : Int) < 26; decide), abc, _, _, rfl, rfl, (by decide +kernel), hat, _, _, rfl, rfl, ?_, _, rfl, _, _, rfl, rfl, ⟨by decide, by decide⟩, ?_⟩
   ·show t.length + 1 <= sizeLine
    have : sizeLine = 16777216 := sizeLine_eq
    omega
   ·refine ⟨_, _, _, rfl, by rw [PySem.Str.length_append, ht]; rfl, Z64 hlow (Z9v (by omega)), fun z => absurd z (Nat.succ_ne_zero _), fun _ => ?_, rfl⟩
    show (t.cps ++ #[97 + (y % 26).toNat]).toList[0]? = _
    by_cases hz : i = 0
    ·have h2 : t.cps.toList = [] := by
      apply List.eq_nil_of_length_eq_zero
      rw [Array.length_toList]
      show t.length = 0
      omega
     rw [Array.toList_append, h2, hy hz]
     rfl
    ·have h2 := hf (by omega)
     rw [Array.toList_append, List.getElem?_append_left (by rw [Array.length_toList]; show 0 < t.length; omega)]
     exact h2
  ·rintro σ H' ⟨y, t, o, rfl, ht, hlow, _, hf, rfl⟩
   exact ⟨_, rfl, k t ⟨⟨by omega, hlow⟩, fun z => hf (by omega)⟩⟩
end
instance (t : Str) : Decidable (Low t) := by unfold Low; exact inferInstance
theorem Z65 {x : Str} {lo hi : Option Int} (h : Low x) : Low (Txt.slice x lo hi) := by
 unfold Txt.slice
 split
 ·exact h
 ·intro c hc
  have hc' := hc
  simp only [List.mem_filterMap] at hc'
  obtain ⟨i, _, e⟩ := hc'
  refine h c ?_
  rw [Array.mem_toList_iff]
  exact Array.mem_of_getElem? e
def words8 : List Str := ["num", "name", "op", "pick", "let", "set", "say", "take"]
def words5 : List Str := ["do", "again", "call", "own", "hole"]
def words13 : List Str := words8 ++ words5
theorem Zco : ∀ t ∈ words13, (1 <= t.length /\ t.length <= 5) /\ Low t := by decide +kernel
theorem Z4b (t : Str) (ts : List Str) : inV (.str t) (ts.map V.str) = true ↔ t ∈ ts := by
 unfold inV
 rw [List.any_map, List.any_eq_true]
 constructor
 ·rintro ⟨y, hy, e⟩
  have e' : (y == t) = true := e
  rw [<- beq_iff_eq.mp e']
  exact hy
 ·intro h
  exact ⟨t, h, beq_self_eq_true t⟩
theorem But.lst {d a : Addr} {H H' : Hp} {kvs : List (Key × V)} {xs : List V} (b : But d H H') (hd : H d = some (.dK kvs)) (h : H a = some (.lst xs)) : H' a = some (.lst xs) := b a _ h (Z3i h hd (by intro q; cases q))
theorem Z4s (x y : Str) : (x ++ y).length = x.length + y.length := PySem.Str.length_append x y
theorem Z4t {x : Str} (h : x.length <= 1000) : x.length <= sizeLine := Nat.le_trans h (by decide)
abbrev Nm (t : Str) : Prop := (1 <= t.length /\ t.length <= 8) /\ Low t
def spLawName : Sp := fun vs H Q _ => ∃ (d l a : Addr) (ns : List Int) (n : Nat) (ts : List Str), vs = [.ref d, .ref a] /\ Feed H d l ns n /\ n <= 900000000000 /\ H a = some (.lst (ts.map V.str)) /\ ts.length <= 40 /\ (∀ t ∈ ts, Nm t) ∧
 ∀ (t : Str) n' H', Nm t -> t ∉ ts -> t ∉ words13 -> n' <= n + 8 -> Feed H' d l ns n' -> But d H H' -> Q (.str t) H'
theorem Zbd {t : Str} (h : 1 <= t.length) : ∃ c, atI t.cps.toList 0 = some c := by
 have hl : t.cps.toList.length = t.length := by simp [Str.length]
 obtain ⟨c, _, e⟩ := Z3p (xs := t.cps.toList) (i := 0) (by decide) (by rw [hl]; omega)
 exact ⟨c, e⟩
theorem Zi5 {t : Str} {i : Int} {c : Nat} (h : Low t) (e : atI t.cps.toList i = some c) : 97 <= c /\ c <= 122 := by
 obtain ⟨j, _, e2, _⟩ := Z73 e
 exact h c (List.mem_of_getElem? e2)
def mi (m : Int) (i : Nat) : Int := (m - 1 + i) % 8 + 1
def Z53 (x m : Int) (u : Str) (j : Nat) : Prop := (u.length : Int) = mi m j /\ u.cps.toList[0]? = some (97 + ((x + j) % 26).toNat)
instance (x m : Int) (u : Str) (j : Nat) : Decidable (Z53 x m u j) := by unfold Z53; exact inferInstance
theorem Zes {x m : Int} {u : Str} {i j : Nat} (hi : i <= 60) (hj : j < i) (a : Z53 x m u i) (b : Z53 x m u j) : False := by
 obtain ⟨a1, a2⟩ := a
 obtain ⟨b1, b2⟩ := b
 unfold mi at a1 b1
 rw [a2] at b2
 have b3 := Option.some.inj b2
 have h1 : 0 <= (x + i) % 26 := by omega
 have h2 : 0 <= (x + j) % 26 := by omega
 omega
structure Left (x m : Int) (ex R : List Str) (i : Nat) : Prop where
 few : R.length + i <= 54
 all : ∀ u ∈ ex, u ∈ R ∨ ∃ j, j < i /\ Z53 x m u j
theorem Left.zero {x m : Int} {ex : List Str} (h : ex.length <= 53) : Left x m ex ex 0 := ⟨by omega, fun u hu => .inl hu⟩
theorem Left.one {x m : Int} {ex R : List Str} (h : ex.length <= 53) : Left x m ex ex 1 := ⟨by omega, fun u hu => .inl hu⟩
theorem Left.next {x m : Int} {ex R : List Str} {i : Nat} {t : Str} (h : Left x m ex R i) (ht : t ∈ ex) (k : Z53 x m t i) : Left x m ex (R.filter fun u => !decide (Z53 x m u i)) (i + 1) := by
 have hR : t ∈ R := by
  rcases h.all t ht with z | ⟨j, hj, kj⟩
  ·exact z
  ·exact (Zes (by have := h.few; omega) hj k kj).elim
 have hlt : (R.filter fun u => !decide (Z53 x m u i)).length < R.length := by
  rw [List.length_filter_lt_length_iff_exists]
  exact ⟨t, hR, by simp [k]⟩
 refine ⟨by have := h.few; omega, fun u hu => ?_⟩
 rcases h.all u hu with z | ⟨j, hj, kj⟩
 ·by_cases q : Z53 x m u i
  ·exact .inr ⟨i, Nat.lt_succ_self _, q⟩
  ·exact .inl (List.mem_filter.mpr ⟨z, by simp [q]⟩)
 ·exact .inr ⟨j, by omega, kj⟩
theorem Zjx {X : Cx} {i : Nat} {x : Str} {e : Expr} {te : TE} {pos pos' : Pos} (hN : X.N.Nodup) (hi : X.N[i]? = some x) (hx : Loc X.env.scope x) (he : PE X e te) (hs : swapsWith e (some (.Name x pos')) pos.line X.env = pure false) (hf : X.fn x = true ∨ X.env.scope.names.lookup x = some .local) :
  PS X (.Assign [.Name x pos'] e pos) (Zkx te (Z83 i)) := Z08 hN hi hx he hs hf
section
variable {P : Program} {w : World} {K : PySem.W.Frag} {mg : Str -> Option Value} {base : Heap}
structure Helpers (K : PySem.W.Frag) (mg : Str -> Option Value) (fD fS : Addr) (dD dS : FuncData) : Prop where
 T : Txt0 mg
 D : Fun K "_law_draw" "_law_draw" Zea fD dD
 bD : Binds K dD ["_law_feed_here", "_law_many"] []
 mD : mg "_law_draw" = some (.ref fD)
 S : Fun K "_law_spelled" "_law_spelled" Z48 fS dS
 bS : Binds K dS ["_law_number", "_law_long"] []
 mS : mg "_law_spelled" = some (.ref fS)
theorem scLName : FnScope ["_law_feed_here", "_law_taken", "_law_words", "_law_way", "_law_long", "_law_number", "_law_name_here", "_law_word", "_law_at"] ["_law_feed_here", "_law_taken"] (Z03 Zeb) := ⟨rfl, rfl, rfl, by decide +kernel, rfl, by decide +kernel, by decide +kernel⟩
def Mid (d l a wd : Addr) (ns : List Int) (n k : Nat) (ts : List Str) (H : Hp) (way m x : Int) : St -> Hp -> Prop := fun σ' H' => ∃ (t : Str) (n' : Nat) (o7 o8 : Option V),
 σ' = [some (.ref d), some (.ref a), some (.ref wd), some (.int way), some (.int m), some (.int x), some (.str t), o7, o8] /\ Nm t /\ n' <= n + k /\ Feed H' d l ns n' /\ H' a = some (.lst (ts.map V.str)) /\ H' wd = some (.lst (words13.map V.str)) /\ But d H H'
theorem Zcp {f fD fS : Addr} {fd dD dS : FuncData} (F : Fun K "_law_name" "_law_name" Zeb f fd) (U : Helpers K mg fD fS dD dS) : FnOk P w K mg base CX0 2 f fd ["_law_feed_here", "_law_taken"] spLawName := by
 have GD : FnOk P w K mg base CX0 1 fD dD ["_law_feed_here", "_law_many"] spDraw := Z4r U.D U.T
 have GS : FnOk P w K mg base CX0 1 fS dS ["_law_number", "_law_long"] spSpelled := Zcn U.S U.T
 refine F.ok scLName (fun vs H Q E h => ?_) (fun cdv A outer s H vs Q E hr h => ?_)
 ·obtain ⟨d, l, a, ns, n, ts, rfl, _⟩ := h
  rfl
 ·obtain ⟨d, l, a, ns, n, ts, rfl, F0, hn, A0, hts, hall, k⟩ := h
  have hu0 := hr.units0
  have hsz : sizeLine = 16777216 := sizeLine_eq
  have hr1 : Room 1 _ := hr.mono (by decide)
  refine' ⟨?tt, ?body, ?fin⟩
  case body =>
   refine' Z06 ?s1 (Z06 ?s2 (Z06 ?s3 (Z06 ?s4 (Z06 ?s5 (Z06 ?s6 (Z0h ?s7 (Z0h ?s9 (Z0h ?s10 (Z06 ?s11 (Z05 ?s12))))))))))
   case s1 => exact Z08 (i := 2) scLName.nd rfl (Or.inl rfl) (Z41 (vs := words8.map V.str) (by decide +kernel))
   case s2 => exact Z08 (i := 2) scLName.nd rfl (Or.inl rfl) (Z0o Zah (pv 2) (Z41 (vs := words5.map V.str) (by decide +kernel)))
   case s3 => exact Z08 (i := 3) scLName.nd rfl (Or.inl rfl) (Z07 GD hr1 (by rfl) U.mD U.D.kp U.bD .nil Z0e (Z0k (pv 0) (Z1i Z04 Z00)))
   case s4 => exact Z08 (i := 4) scLName.nd rfl (Or.inl rfl) (Z0o Z1l Z04 (Z07 GD hr1 (by rfl) U.mD U.D.kp U.bD .nil Z0e (Z0k (pv 0) (Z1i Z04 Z00))))
   case s5 => exact Z08 (i := 5) scLName.nd rfl (Or.inl rfl) (Z0o Z1l (Z0o Z3f (Z07 GD hr1 (by rfl) U.mD U.D.kp U.bD .nil Z0e (Z0k (pv 0) (Z1i Z04 Z00))) Z04) (Z07 GD hr1 (by rfl) U.mD U.D.kp U.bD .nil Z0e (Z0k (pv 0) (Z1i Z04 Z00))))
   case s6 => exact Z08 (i := 6) scLName.nd rfl (Or.inl rfl) (Z07 GS hr1 (by rfl) U.mS U.S.kp U.bS .nil Z0e (Z0k (pv 5) (Z0k (pv 4) Z00)))
   case s7 =>
    refine' Z0v (Z0b Z1f (pv 3) Z04 (Z0l _)) (Z05 ?b) Z0f
    case b =>
     refine' Z08 (i := 6) scLName.nd rfl (Or.inl rfl) (Z0o Z2d ?l ?r)
     case l => exact Z10 Z1e (pv 2) (Z07 GD hr1 (by rfl) U.mD U.D.kp U.bD .nil Z0e (Z0k (pv 0) (Z1i Z04 Z00))) (fun _ _ => rfl)
     case r => exact Z10 Zaf (pv 6) Z04 (fun _ _ => rfl)
   case s9 =>
    refine' Z0v ?c (Z05 ?b) Z0f
    case c => exact (Z5b (Z0b Z1f (pv 3) Z04 (Z0l _)) (Z3j (Z0b (Z4j hu0) (pv 1) (Z1h Z00) (Z0l _)))).pt
    case b =>
     refine' Z08 (i := 6) scLName.nd rfl (Or.inl rfl) (Z2l Zds (Z0o Z2d (Z10 Z1e ?x ?y (fun _ _ => rfl)) ?z) Z3l (Z3m ?u))
     case x => exact pv 1
     case y => exact (Z07 GD hr1 (by rfl) U.mD U.D.kp U.bD .nil Z0e (Z0k (pv 0) (Z40 (Z0c Z0j (by rfl) U.T.len PySem.boot_len (Z0k (pv 1) Z00)) Z00)))
     case z => exact pv 6
     case u => exact Z0o Z1l Z04 (Z0o Z2c (pv 5) Z04)
   case s10 =>
    refine' Z0v ?c (Z06 ?b1 (Z06 ?b2 (Z05 ?b3))) Z0f
    case c => exact (Z5b (Z0b Z1f (pv 3) Z04 (Z0l _)) (Z3j (Z0b (Z4j hu0) (pv 1) (Z1h Z00) (Z0l _)))).pt
    case b1 =>
     refine' Z08 (i := 7) scLName.nd rfl (Or.inl rfl) (Z10 Z1e ?x ?y (fun _ _ => rfl))
     case x => exact pv 1
     case y => exact (Z07 GD hr1 (by rfl) U.mD U.D.kp U.bD .nil Z0e (Z0k (pv 0) (Z40 (Z0c Z0j (by rfl) U.T.len PySem.boot_len (Z0k (pv 1) Z00)) Z00)))
    case b2 => exact Z08 (i := 8) scLName.nd rfl (Or.inl rfl) (Z0o Z2c (pv 5) (Z0c Z4x (by rfl) U.T.len PySem.boot_len (Z0k (pv 7) Z00)))
    case b3 =>
     refine' Z08 (i := 6) scLName.nd rfl (Or.inl rfl) (Z0o Z2d (Z0o Z2d ?x ?y) ?z)
     case x => exact Z2l Zds (pv 7) Z3l (Z3m (pv 8))
     case y => exact Z10 Zaf (pv 6) Z04 (fun _ _ => rfl)
     case z => exact Z2l Zds (pv 7) (Z3m (Z0o Z1l (pv 8) Z04)) Z3l
   case s11 =>
    refine' Z71 PassesOwn.never ?c (Z06 ?b1 (Z06 ?b2 (Z05 ?b3)))
    case c => exact (Z4d (Z0b Z2f (pv 6) (pv 1) (by with_unfolding_all rfl)) (Z3t (Z0b Z2f (pv 6) (pv 2) (by with_unfolding_all rfl)))).pt
    case b1 => exact Z08 (i := 5) scLName.nd rfl (Or.inl rfl) (Z0o Z1l (pv 5) Z04)
    case b2 => exact Z08 (i := 4) scLName.nd rfl (Or.inl rfl) (Z0o Z1l (Z0o Z2c (pv 4) Z04) Z04)
    case b3 => exact Z08 (i := 6) scLName.nd rfl (Or.inl rfl) (Z07 GS hr1 (by rfl) U.mS U.S.kp U.bS .nil Z0e (Z0k (pv 5) (Z0k (pv 4) Z00)))
   case s12 => exact Z0d (pv 6)
  case fin =>
   refine ⟨Z63 (by decide +kernel), fun p hp => ?_⟩
   refine ⟨_, rfl, Z63 (by decide +kernel), fun q hq => ⟨p, q, words8.map V.str, words5.map V.str, rfl, rfl, Z02 hq _ _ Z01, Z01, (by decide +kernel), fun wd hwd => ?_⟩⟩
   have s1 := ((Z02 (o := .lst (words8.map V.str)) hp).trans (Z02 (o := .lst (words5.map V.str)) hq)).trans (Z02 (o := .lst (words8.map V.str ++ words5.map V.str)) hwd)
   have W1 : upd (upd (upd H p (.lst (words8.map V.str))) q (.lst (words5.map V.str))) wd (.lst (words8.map V.str ++ words5.map V.str)) wd = some (.lst (words13.map V.str)) := by
    rw [Z01, words13, List.map_append]
   have F1 := F0.same s1
   have A1 := s1 _ _ A0
   have B1 : But d H _ := But.of s1
   generalize upd (upd (upd H p (.lst (words8.map V.str))) q (.lst (words5.map V.str))) wd (.lst (words8.map V.str ++ words5.map V.str)) = H1 at W1 F1 A1 B1 ⊢
   refine ⟨_, rfl, d, l, ns, n, _, rfl, F1, by omega, by decide, by decide, fun way n2 H2 _ _ hn2 F2 B2 => ?_⟩
   obtain ⟨z1, hd1⟩ := F1.dc
   have A2 := B2.lst hd1 A1
   have W2 := B2.lst hd1 W1
   have B2' := B1.trans B2
   refine ⟨_, rfl, d, l, ns, n2, _, rfl, F2, by omega, by decide, by decide, fun lg n3 H3 lg0 lg1 hn3 F3 B3 => ?_⟩
   obtain ⟨z2, hd2⟩ := F2.dc
   have A3 := B3.lst hd2 A2
   have W3 := B3.lst hd2 W2
   have B3' := B2'.trans B3
   refine ⟨_, _, rfl, rfl, ?_⟩
   refine ⟨_, rfl, d, l, ns, n3, _, rfl, F3, by omega, by decide, by decide, fun r4 n4 H4 r40 r41 hn4 F4 B4 => ?_⟩
   obtain ⟨z3, hd3⟩ := F3.dc
   have A4 := B4.lst hd3 A3
   have W4 := B4.lst hd3 W3
   have B4' := B3'.trans B4
   refine ⟨_, _, rfl, rfl, .inr ⟨by decide, by decide⟩, ?_⟩
   refine ⟨_, rfl, d, l, ns, n4, _, rfl, F4, by omega, by decide, by decide, fun r5 n5 H5 r50 r51 hn5 F5 B5 => ?_⟩
   obtain ⟨z4, hd4⟩ := F4.dc
   have A5 := B5.lst hd4 A4
   have W5 := B5.lst hd4 W4
   have B5' := B4'.trans B5
   refine ⟨_, _, rfl, rfl, ?_⟩
   have hx0 : 0 <= r4 * 456976 + r5 := by omega
   refine ⟨_, rfl, _, rfl, r4 * 456976 + r5, 1 + lg, rfl, by omega, by omega, fun t5 ht5 => ?_⟩
   obtain ⟨⟨hl5, hw5⟩, hf5⟩ := ht5
   have hm0 : 1 <= 1 + lg := by omega
   have hm1 : 1 + lg <= 8 := by omega
   refine ⟨Mid d l a wd ns n 5 ts H way (1 + lg) (r4 * 456976 + r5), ?_, ?_⟩
   ·refine ⟨_, rfl, rfl, _, rfl, Z16 (fun _ => ?_) (fun _ => ?_)⟩
    ·refine ⟨_, rfl, _, rfl, d, l, ns, n5, _, rfl, F5, by omega, by decide, by decide, fun r6 n6 H6 r60 r61 hn6 F6 B6 => ?_⟩
     obtain ⟨z5, hd5⟩ := F5.dc
     have A6 := B6.lst hd5 A5
     have W6 := B6.lst hd5 W5
     obtain ⟨v6, hv6, hat6⟩ := Z3p (xs := words13.map V.str) (i := r6) r60 (Int.lt_of_lt_of_le r61 (by decide +kernel))
     obtain ⟨t6, ht6, rfl⟩ := List.mem_map.mp hv6
     have h6 := Zco t6 ht6
     obtain ⟨c6, hc6⟩ := Zbd (t := t5) (by omega)
     refine ⟨wd, words13.map V.str, r6, .str t6, rfl, rfl, SqL.of W6, hat6, ?_⟩
     refine ⟨_, rfl, t5, 0, c6, rfl, rfl, Z4t (by omega), hc6, ?_⟩
     refine ⟨t6, ⟨#[c6]⟩, rfl, rfl, (by show t6.length + 1 <= sizeLine; omega), ?_⟩
     exact ⟨_, n6, none, none, rfl, ⟨⟨by rw [Z4s]; show 1 <= t6.length + 1; omega, by rw [Z4s]; show t6.length + 1 <= 8; omega⟩, Z64 h6.2 (Z9v (Zi5 hw5 hc6))⟩, by omega, F6, A6, W6, B5'.trans B6⟩
    ·exact ⟨t5, n5, none, none, rfl, ⟨⟨by omega, by omega⟩, hw5⟩, by omega, F5, A5, W5, B5'⟩
   generalize r4 * 456976 + r5 = x at hx0 ⊢
   generalize 1 + lg = m at hm0 hm1 ⊢
   rintro σ7 H7 ⟨t7, n7, o77, o78, rfl, ht7, hn7, F7, A7, W7, B7⟩
   obtain ⟨z7, hd7⟩ := F7.dc
   refine ⟨Mid d l a wd ns n 7 ts H way m x, ?_, ?_⟩
   ·refine ⟨_, rfl, rfl, _, rfl, Z16 (fun _ => ?_) (fun _ => Z3z ⟨t7, n7, o77, o78, rfl, ht7, by omega, F7, A7, W7, B7⟩)⟩
    refine ⟨_, rfl, Nat.zero_le _, fun e he => ⟨a, e, ts.map V.str, [], rfl, rfl, SqL.of (Z02 he _ _ A7), SqL.of Z01, Z33 ts, rfl, _, rfl, ?_⟩⟩
    have se := Z02 (o := .lst []) he
    have F7' := F7.same se
    have A7' := se _ _ A7
    have W7' := se _ _ W7
    have B7' := B7.trans (But.of (d := d) se)
    obtain ⟨z7', hd7'⟩ := F7'.dc
    generalize upd H7 e (.lst []) = H7e at F7' A7' W7' B7' hd7' ⊢
    refine Z16 (fun hne => ?_) (fun _ => ⟨t7, n7, o77, o78, rfl, ht7, by omega, F7', A7', W7', B7'⟩)
    have hpos : 0 < (ts.map V.str).length := by
     cases ts with
     | nil => exact absurd hne (by decide)
     | cons _ _ => exact Nat.succ_pos _
    have hfew : (ts.map V.str).length <= 40 := by rw [List.length_map]; exact hts
    refine ⟨_, rfl, _, rfl, _, rfl, a, ts.map V.str, rfl, .inl (SqL.of A7'), d, l, ns, n7, _, rfl, F7', by omega, (by show (0 : Int) < ((ts.map V.str).length : Int); omega), (by show ((ts.map V.str).length : Int) < 18446744073709551616; omega), fun r8 n8 H8 r80 r81 hn8 F8 B8 => ?_⟩
    have A8 := B8.lst hd7' A7'
    have W8 := B8.lst hd7' W7'
    obtain ⟨v8, hv8, hat8⟩ := Z3p (xs := ts.map V.str) (i := r8) r80 r81
    obtain ⟨t8, ht8, rfl⟩ := List.mem_map.mp hv8
    have h8 := hall t8 ht8
    refine ⟨a, ts.map V.str, r8, .str t8, rfl, rfl, SqL.of A8, hat8, ?_⟩
    refine ⟨_, rfl, t8, t7, rfl, rfl, (by omega), ?_⟩
    have hlen : (t8 ++ t7).length = t8.length + t7.length := Z4s _ _
    refine ⟨_, rfl, _, _, rfl, rfl, (by show (0 : Int) < 8; decide), _, _, rfl, rfl, _, rfl, _, rfl, Z4t (by omega), ?_⟩
    have hj : 1 <= 1 + x % 8 := by omega
    have hj2 : 1 + x % 8 <= 8 := by omega
    have q1 := Ziy (x := t8 ++ t7) (j := 1 + x % 8) (by omega) hj
    have q2 := Zhw (x := t8 ++ t7) (j := 1 + x % 8) (by omega)
    exact ⟨_, n8, o77, o78, rfl, ⟨⟨q1, by omega⟩, Z65 (Z64 h8.2 ht7.2)⟩, by omega, F8, A8, W8, B7'.trans B8⟩
   rintro σ8 H8 ⟨t8, n8, o87, o88, rfl, ht8, hn8, F8, A8, W8, B8⟩
   obtain ⟨z8, hd8⟩ := F8.dc
   refine ⟨Mid d l a wd ns n 8 ts H way m x, ?_, ?_⟩
   ·refine ⟨_, rfl, rfl, _, rfl, Z16 (fun _ => ?_) (fun _ => Z3z ⟨t8, n8, o87, o88, rfl, ht8, by omega, F8, A8, W8, B8⟩)⟩
    refine ⟨_, rfl, Nat.zero_le _, fun e he => ⟨a, e, ts.map V.str, [], rfl, rfl, SqL.of (Z02 he _ _ A8), SqL.of Z01, Z33 ts, rfl, _, rfl, ?_⟩⟩
    have se := Z02 (o := .lst []) he
    have F8' := F8.same se
    have A8' := se _ _ A8
    have W8' := se _ _ W8
    have B8' := B8.trans (But.of (d := d) se)
    obtain ⟨z8', hd8'⟩ := F8'.dc
    generalize upd H8 e (.lst []) = H8e at F8' A8' W8' B8' hd8' ⊢
    refine Z16 (fun hne => ?_) (fun _ => ⟨t8, n8, o87, o88, rfl, ht8, by omega, F8', A8', W8', B8'⟩)
    have hpos : 0 < (ts.map V.str).length := by
     cases ts with
     | nil => exact absurd hne (by decide)
     | cons _ _ => exact Nat.succ_pos _
    have hfew : (ts.map V.str).length <= 40 := by rw [List.length_map]; exact hts
    refine ⟨_, rfl, _, rfl, _, rfl, a, ts.map V.str, rfl, .inl (SqL.of A8'), d, l, ns, n8, _, rfl, F8', by omega, (by show (0 : Int) < ((ts.map V.str).length : Int); omega), (by show ((ts.map V.str).length : Int) < 18446744073709551616; omega), fun r9 n9 H9 r90 r91 hn9 F9 B9 => ?_⟩
    have A9 := B9.lst hd8' A8'
    have W9 := B9.lst hd8' W8'
    obtain ⟨v9, hv9, hat9⟩ := Z3p (xs := ts.map V.str) (i := r9) r90 r91
    obtain ⟨t9, ht9, rfl⟩ := List.mem_map.mp hv9
    have h9 := hall t9 ht9
    refine ⟨a, ts.map V.str, r9, .str t9, rfl, rfl, SqL.of A9, hat9, ?_⟩
    refine ⟨_, rfl, _, rfl, t9, rfl, Z4t (by omega), _, _, rfl, rfl, (by show (0 : Int) < (t9.length : Int); omega), ?_⟩
    have at0 : 0 <= x % (t9.length : Int) := Int.emod_nonneg _ (by omega)
    have at1 : x % (t9.length : Int) < t9.length := Int.emod_lt_of_pos _ (by omega)
    obtain ⟨c9, hc9⟩ := Zbd (t := t8) ht8.1.1
    have q1 := Zhw (x := t9) (j := x % (t9.length : Int)) at0
    have q2 := Zg4 (x := t9) (i := x % (t9.length : Int) + 1) (by omega) (by omega)
    refine ⟨_, rfl, _, rfl, _, rfl, t9, rfl, Z4t (by omega), _, rfl, t8, 0, c9, rfl, rfl, Z4t (by omega), hc9, _, ⟨#[c9]⟩, rfl, rfl, (by show _ + 1 <= sizeLine; omega), ?_⟩
    have hlen : (Txt.slice t9 none (some (x % (t9.length : Int))) ++ (⟨#[c9]⟩ : Str)).length = (Txt.slice t9 none (some (x % (t9.length : Int)))).length + 1 := Z4s _ _
    refine ⟨_, rfl, _, rfl, _, _, rfl, rfl, _, rfl, t9, rfl, Z4t (by omega), _, _, rfl, rfl, (by omega), ?_⟩
    exact ⟨_, n9, _, _, rfl, ⟨⟨by rw [Z4s]; omega, by rw [Z4s]; omega⟩, Z64 (Z64 (Z65 h9.2) (Z9v (Zi5 ht8.2 hc9))) (Z65 h9.2)⟩, by omega, F9, A9, W9, B8'.trans B9⟩
   rintro σ9 H9 ⟨t9, n9, o97, o98, rfl, ht9, hn9, F9, A9, W9, B9⟩
   have hex : (ts ++ words13).length <= 53 := by
    rw [List.length_append]
    have : words13.length = 13 := by decide +kernel
    omega
   refine Zfu (fun σ H' => ∃ (i : Nat) (R : List Str) (t : Str), σ = [some (.ref d), some (.ref a), some (.ref wd), some (.int way), some (.int (mi m i)), some (.int (x + i)), some (.str t), o97, o98] /\ Nm t /\ Left x m (ts ++ words13) R i /\ (0 < i -> Z53 x m t i) /\ H' = H9)
    (fun (σ : St) (_ : Hp) => match σ[5]? with | some (some (V.int z)) => (x + 100 - z).toNat | _ => 0) ⟨0, _, t9, ?_, ht9, Left.zero hex, fun z => absurd z (Nat.lt_irrefl _), rfl⟩ ?_ ?_
   ·have e1 : mi m 0 = m := by unfold mi; omega
    have e2 : x + ((0 : Nat) : Int) = x := by omega
    rw [e1, e2]
   ·rintro σ H' ⟨i, R, t, rfl, ht, hL, hK, rfl⟩
    have hi : i <= 54 := by have := hL.few; omega
    have e1 : mi m i % 8 + 1 = mi m (i + 1) := by unfold mi; omega
    have e2 : x + (i : Int) + 1 = x + ((i + 1 : Nat) : Int) := by omega
    have e3 : 1 <= mi m (i + 1) /\ mi m (i + 1) <= 8 := by unfold mi; omega
    have body : t ∈ ts ++ words13 -> ∀ t' : Str, Zer t' (x + ((i + 1 : Nat) : Int)) (mi m (i + 1)) →
      ∃ R', Nm t' /\ Left x m (ts ++ words13) R' (i + 1) /\ (0 < i + 1 -> Z53 x m t' (i + 1)) := by
     intro hin t' ht'
     have hk : Z53 x m t' (i + 1) := ⟨ht'.1.1, ht'.2 (by omega)⟩
     have hl := ht'.1.1
     by_cases hz : i = 0
     ·subst hz
      exact ⟨_, ⟨⟨by omega, by omega⟩, ht'.1.2⟩, Left.one (R := R) hex, fun _ => hk⟩
     ·exact ⟨_, ⟨⟨by omega, by omega⟩, ht'.1.2⟩, hL.next hin (hK (by omega)), fun _ => hk⟩
    refine ⟨_, rfl, _, rfl, a, ts.map V.str, rfl, .inl (SqL.of A9), rfl, Z33 ts, _, rfl, Z16 (fun g => Z4y ?_) (fun g => ?_)⟩
    ·refine ⟨_, rfl, _, _, rfl, rfl, _, rfl, _, _, rfl, rfl, (by show (0 : Int) < 8; decide), _, _, rfl, rfl, _, rfl, _, rfl, _, _, rfl, (by rw [e1]; omega), (by rw [e1]; omega), fun t' ht' => ?_⟩
     rw [e1, e2] at ht'
     obtain ⟨R', q1, q2, q3⟩ := body (List.mem_append.mpr (.inl ((Z4b t ts).mp g))) t' ht'
     refine ⟨⟨i + 1, R', t', ?_, q1, q2, q3, rfl⟩, ?_⟩
     ·show [some (.ref d), some (.ref a), some (.ref wd), some (.int way), some (.int (mi m i % 8 + 1)), some (.int (x + i + 1)), some (.str t'), o97, o98] = _
      rw [e1, e2]
     ·show (x + 100 - (x + i + 1)).toNat < (x + 100 - (x + i)).toNat
      omega
    ·refine ⟨_, rfl, _, rfl, wd, words13.map V.str, rfl, .inl (SqL.of W9), rfl, Z33 words13, _, rfl, Z16 (fun g2 => ?_) (fun g2 => ?_)⟩
     ·refine ⟨_, rfl, _, _, rfl, rfl, _, rfl, _, _, rfl, rfl, (by show (0 : Int) < 8; decide), _, _, rfl, rfl, _, rfl, _, rfl, _, _, rfl, (by rw [e1]; omega), (by rw [e1]; omega), fun t' ht' => ?_⟩
      rw [e1, e2] at ht'
      obtain ⟨R', q1, q2, q3⟩ := body (List.mem_append.mpr (.inr ((Z4b t words13).mp g2))) t' ht'
      refine ⟨⟨i + 1, R', t', ?_, q1, q2, q3, rfl⟩, ?_⟩
      ·show [some (.ref d), some (.ref a), some (.ref wd), some (.int way), some (.int (mi m i % 8 + 1)), some (.int (x + i + 1)), some (.str t'), o97, o98] = _
       rw [e1, e2]
      ·show (x + 100 - (x + i + 1)).toNat < (x + 100 - (x + i)).toNat
       omega
     ·exact ⟨_, rfl, k t n9 _ ht (fun z => g ((Z4b t ts).mpr z)) (fun z => g2 ((Z4b t words13).mpr z)) hn9 F9 B9⟩
   ·rintro σ H' Q1 Q2 hq ⟨v, f1, w1, f2, p, xs, f3, f4, f5, f6, c, f7, q⟩
    refine ⟨v, f1, w1, f2, p, xs, f3, f4, f5, f6, c, f7, ?_⟩
    cases c with
    | true => exact Z4y (hq _ _ (by simpa using q))
    | false =>
     refine Z3z ?_
     simp only [Bool.false_eq_true, if_false] at q
     obtain ⟨v, f1, w1, f2, p, xs, f3, f4, f5, f6, c, f7, q⟩ := q
     exact ⟨v, f1, w1, f2, p, xs, f3, f4, f5, f6, c, f7, hq _ _ q⟩
end
def NmW (t : Str) : Prop := Nm t /\ t ∉ words13
def spNames : Sp := fun vs H Q _ => ∃ (d l : Addr) (ns : List Int) (n : Nat) (m : Int), vs = [.ref d, .int m] /\ Feed H d l ns n /\ n <= 800000000000 /\ 0 <= m /\ m <= 40 ∧
 ∀ (nm : Addr) (ts : List Str) n' H', H nm = none -> H' nm = some (.lst (ts.map V.str)) -> (ts.length : Int) = m -> (∀ t ∈ ts, NmW t) -> n' <= n + 8 * m.toNat -> Feed H' d l ns n' -> But d H H' -> Q (.ref nm) H'
section
variable {P : Program} {w : World} {K : PySem.W.Frag} {mg : Str -> Option Value} {base : Heap}
theorem scNames : FnScope ["_law_feed_here", "_law_many", "_law_names_here", "_law_k"] ["_law_feed_here", "_law_many"] (Z03 Z8w) := ⟨rfl, rfl, rfl, by decide +kernel, rfl, by decide +kernel, by decide +kernel⟩
theorem Zgu {f fN fD fS : Addr} {fd dN dD dS : FuncData} (F : Fun K "_law_names" "_law_names" Z8w f fd) (U : Helpers K mg fD fS dD dS)
  (FN : Fun K "_law_name" "_law_name" Zeb fN dN) (bN : Binds K dN ["_law_feed_here", "_law_taken"] []) (mN : mg "_law_name" = some (.ref fN)) : FnOk P w K mg base CX0 3 f fd ["_law_feed_here", "_law_many"] spNames := by
 have GN : FnOk P w K mg base CX0 2 fN dN ["_law_feed_here", "_law_taken"] spLawName := Zcp FN U
 refine F.ok scNames (fun vs H Q E h => ?_) (fun cdv A outer s H vs Q E hr h => ?_)
 ·obtain ⟨d, l, ns, n, m, rfl, _⟩ := h
  rfl
 ·obtain ⟨d, l, ns, n, m, rfl, F0, hn, hm0, hm1, k⟩ := h
  have hsz : sizeLine = 16777216 := sizeLine_eq
  refine ⟨_, Z06 (Z08 (i := 2) scNames.nd rfl (Or.inl rfl) (Z1h Z00)) <|
   Z06 (Z5c PassesOwn.never rfl (Z2s (by rfl) U.T.range (Z0k (pv 1) Z00)) (Z0t (i := 3) scNames.nd rfl (Or.inl rfl))
    (Z05 (Z2r (Z8d PySem.F.plainAttrs_list PySem.F.slot_list_append PySem.F.type_list_append Z3x (pv 2) (Z40 (Z07 GN hr (by rfl) mN FN.kp bN .nil Z0e (Z0k (pv 0) (Z0k (pv 2) Z00))) Z00))))) <|
   Z05 (Z0d (pv 2)), ?_⟩
  refine ⟨Nat.zero_le _, fun nm hnm => ?_⟩
  refine ⟨_, rfl, m, rfl, by omega, by omega, Z3v (n := m.toNat) (fun i σ H' => ∃ (ts : List Str) (n' : Nat) (o : Option V), σ = [some (.ref d), some (.int m), some (.ref nm), o] /\ ts.length = i /\ (∀ t ∈ ts, NmW t) /\ n' <= n + 8 * i /\ Feed H' d l ns n' /\ H' nm = some (.lst (ts.map V.str)) /\ But d H H')
   ⟨[], n, none, rfl, rfl, (fun t ht => absurd ht List.not_mem_nil), Nat.le_refl _, F0.same (Z02 hnm), Z01, But.of (Z02 hnm)⟩ ?_ ?_⟩
  ·rintro i σ H' hi ⟨ts, n', o, rfl, hl, hall, hn', F', L', B'⟩
   refine ⟨_, rfl, .inl ⟨rfl, _, SqL.of L'⟩, _, rfl, _, rfl, d, l, nm, ns, n', ts, rfl, F', by omega, L', by omega, (fun t ht => (hall t ht).1), fun t n2 H2 ht _ hw hn2 F2 B2 => ?_⟩
   obtain ⟨z, hd⟩ := F'.dc
   have L2 := B2.lst hd L'
   refine ⟨nm, _, _, rfl, rfl, L2, (by rw [List.length_map]; omega), ?_⟩
   have hne : nm ≠ d := (Z3i L2 (F2.dc.choose_spec) (by intro q; cases q))
   have hne2 : nm ≠ l := fun e => by
    have h0 : H l = some _ := F0.ls
    rw [<- e, hnm] at h0
    cases h0
   refine ⟨ts ++ [t], n2, _, rfl, by rw [List.length_append, hl]; rfl, ?_, by omega, ?_, ?_, ?_⟩
   ·intro u hu
    rcases List.mem_append.mp hu with z | z
    ·exact hall u z
    ·rw [List.mem_singleton.mp z]; exact ⟨ht, hw⟩
   ·obtain ⟨⟨z2, hd2⟩, hls, hz⟩ := F2
    exact ⟨⟨z2, by rw [Z0g (Ne.symm hne)]; exact hd2⟩, by rw [Z0g (Ne.symm hne2)]; exact hls, hz⟩
   ·rw [Z01, List.map_append]; rfl
   ·intro b u e hb
    rw [Z0g (Z0i e hnm)]
    exact B2 b u (B' b u e hb) hb
  ·rintro σ H' ⟨ts, n', o, rfl, hl, hall, hn', F', L', B'⟩
   exact ⟨_, rfl, k nm ts n' H' hnm L' (by omega) hall hn' F' B'⟩
end
theorem But.kp {d l : Addr} {ns : List Int} {n : Nat} {H H' : Hp} (b : But d H H') (F : Feed H d l ns n) : Kp H H' := by
 obtain ⟨⟨z, hd⟩, _, _⟩ := F
 intro a o h hk
 exact b a o h (fun q => by subst q; rw [hd] at h; cases h; exact hk _ rfl)
theorem Feed.lst {d l a : Addr} {ns : List Int} {n : Nat} {H H' : Hp} {xs : List V} (F : Feed H d l ns n) (b : But d H H') (h : H a = some (.lst xs)) : H' a = some (.lst xs) := by
 obtain ⟨⟨z, hd⟩, _, _⟩ := F
 exact b.lst hd h
def spValue : Sp := fun vs H Q _ => ∃ (d l : Addr) (ns : List Int) (n : Nat), vs = [.ref d] /\ Feed H d l ns n /\ n <= 900000000000 ∧
 ∀ (i : Int) n' H', 0 <= i -> i <= 999999999 -> n' <= n + 3 -> Feed H' d l ns n' -> But d H H' -> Q (.int i) H'
def spLawParts : Sp := fun vs H Q _ => ∃ (v : V) (w0 : Str) (ts : List Th), vs = [v] /\ IsTh H v (.tup (.at (.str w0) :: ts)) /\ ts.length <= 1000000 ∧
 ∀ (p : Addr) (ws : List V) H', Same H H' -> H p = none -> H' p = some (.lst ws) -> IsThs H' ws (Z0x ts) -> Q (.ref p) H'
def spWith : Sp := fun vs H Q _ => ∃ (v : V) (la : Addr) (ts ks : List Th) (ws : List V), vs = [v, .ref la] /\ IsTh H v (.tup ts) /\ ts.length <= 1000 /\ H la = some (.lst ws) /\ IsThs H ws ks /\ ks.length <= 1000 ∧
 ∀ (p : Addr) H', Same H H' -> IsTh H' (.ref p) (.tup (Z7e ts ++ ks)) -> Q (.ref p) H'
def Z7o (N : Nat) : Sp := fun vs H Q _ => ∃ (v : V) (t : Th), vs = [v] /\ IsTh H v t /\ PfT N t /\ ∀ H', Same H H' -> Q (.int (cnt t : Nat)) H'
theorem Z4u {hd : List V} {ks : List Th} (h : ∀ k ∈ ks, L2.isTup k = true) : Z0x (hd.map Th.at ++ ks) = ks := by
 unfold Z0x
 rw [List.filter_append, Z7m, List.nil_append, Z59 h]
theorem Z27 {w : Str} {hd : List V} {ks : List Th} (h : ∀ k ∈ ks, L2.isTup k = true) : cnt (nd w hd ks) = 1 + Z21 ks := by
 unfold nd
 rw [cnt, Z8p, Z9t h]
theorem Z37 : ∀ (a : List Th) (x : Th), Z21 (a ++ [x]) = Z21 a + cnt x := by
 intro a
 induction a with
 | nil => intro x; simp [Z21]
 | cons y a ih => intro x; rw [List.cons_append, Z21, Z21, ih]; omega
section
variable {P : Program} {w : World} {K : PySem.W.Frag} {mg : Str -> Option Value} {base : Heap}
theorem scLawValue : FnScope ["_law_feed_here", "_law_way"] ["_law_feed_here"] (Z03 Z2y) := ⟨rfl, rfl, rfl, by decide +kernel, rfl, by decide +kernel, by decide +kernel⟩
theorem Zgv {f fD fS : Addr} {fd dD dS : FuncData} (F : Fun K "_law_value" "_law_value" Z2y f fd) (U : Helpers K mg fD fS dD dS) : FnOk P w K mg base CX0 2 f fd ["_law_feed_here"] spValue := by
 have GD : FnOk P w K mg base CX0 1 fD dD ["_law_feed_here", "_law_many"] spDraw := Z4r U.D U.T
 refine F.ok scLawValue (fun vs H Q E h => ?_) (fun cdv A outer s H vs Q E hr h => ?_)
 ·obtain ⟨d, l, ns, n, rfl, _⟩ := h
  rfl
 ·obtain ⟨d, l, ns, n, rfl, F0, hn, k⟩ := h
  have hr1 : Room 1 _ := hr.mono (by decide)
  refine' ⟨?tt, ?body, ?fin⟩
  case body =>
   refine' Z06 ?s1 (Z06 ?s2 (Z06 ?s3 (Z05 ?s4)))
   case s1 => exact Z08 (i := 1) scLawValue.nd rfl (Or.inl rfl) (Z07 GD hr1 (by rfl) U.mD U.D.kp U.bD .nil Z0e (Z0k (pv 0) (Z1i Z04 Z00)))
   case s2 => exact Z0v (Z0b Z1f (pv 1) Z04 (Z0l _)) (Z05 (Z0d (Z0o Z2n Z04 (Z07 GD hr1 (by rfl) U.mD U.D.kp U.bD .nil Z0e (Z0k (pv 0) (Z1i Z04 Z00)))))) Z0f
   case s3 => exact Z0v (Z0b Z1f (pv 1) Z04 (Z0l _)) (Z05 (Z0d (Z0o Z1l (Z0o Z3f (Z07 GD hr1 (by rfl) U.mD U.D.kp U.bD .nil Z0e (Z0k (pv 0) (Z1i Z04 Z00))) Z04) (Z07 GD hr1 (by rfl) U.mD U.D.kp U.bD .nil Z0e (Z0k (pv 0) (Z1i Z04 Z00)))))) Z0f
   case s4 => exact Z0d (Z07 GD hr1 (by rfl) U.mD U.D.kp U.bD .nil Z0e (Z0k (pv 0) (Z09 (Z0o Z2n (Z0o Z3f Z04 (pv 1)) Z04) Z00)))
  case fin =>
   refine ⟨_, rfl, d, l, ns, n, _, rfl, F0, by omega, by decide, by decide, fun way n1 H1 w0 w1 hn1 F1 b1 => ?_⟩
   refine ⟨_, rfl, rfl, _, rfl, Z16 (fun g => ?_) (fun g => ?_)⟩
   ·refine ⟨_, rfl, d, l, ns, n1, _, rfl, F1, by omega, by decide, by decide, fun i n2 H2 i0 i1 hn2 F2 b2 => ⟨_, _, rfl, rfl, ?_⟩⟩
    exact k _ n2 H2 (by omega) (by omega) (by omega) F2 (b1.trans b2)
   ·refine ⟨_, rfl, rfl, _, rfl, Z16 (fun g2 => ?_) (fun g2 => ?_)⟩
    ·refine ⟨_, rfl, d, l, ns, n1, _, rfl, F1, by omega, by decide, by decide, fun i n2 H2 i0 i1 hn2 F2 b2 => ⟨_, _, rfl, rfl, .inr ⟨by decide, by decide⟩, ?_⟩⟩
     refine ⟨_, rfl, d, l, ns, n2, _, rfl, F2, by omega, by decide, by decide, fun j n3 H3 j0 j1 hn3 F3 b3 => ⟨_, _, rfl, rfl, ?_⟩⟩
     exact k _ n3 H3 (by omega) (by omega) (by omega) F3 ((b1.trans b2).trans b3)
    ·have g' : way ≠ 0 := fun z => g (by rw [z]; decide)
     have g2' : way ≠ 1 := fun z => g2 (by rw [z]; decide)
     refine ⟨_, rfl, _, rfl, _, _, rfl, rfl, .inl ⟨by decide, by decide⟩, _, _, rfl, rfl, d, l, ns, n1, 3 * way - 3, rfl, F1, by omega, by omega, by omega, fun i n2 H2 i0 i1 hn2 F2 b2 => ?_⟩
     exact k i n2 H2 i0 (by omega) (by omega) F2 (b1.trans b2)
theorem Zcq : FnScope ["_law_e"] ["_law_e"] (Z03 Z1o) := ⟨rfl, rfl, rfl, by decide +kernel, rfl, by decide +kernel, by decide +kernel⟩
theorem Z1p {f : Addr} {fd : FuncData} (F : Fun K "_law_parts" "_law_parts" Z1o f fd) (T : TxtT mg) (KI : Kits K) : FnOk P w K mg base CX0 1 f fd ["_law_e"] spLawParts := by
 refine F.ok Zcq (fun vs H Q E h => ?_) (fun cdv A outer s H vs Q E hr h => ?_)
 ·obtain ⟨v, w0, ts, rfl, _⟩ := h
  rfl
 ·obtain ⟨v, w0, ts, rfl, hv, hz, k⟩ := h
  refine ⟨_, Z05 (Z0d (Z1s (N' := ["_law_part"]) (src := [none]) rfl (Z0p (Z03 Z1o) rfl ["_law_e"] rfl (by decide +kernel)) (Z6h (Z2l Zj0 (pv 0) (Z3m Z04) Z3l))
   (fun cl C ex s0 H0 => ⟨Z0t (i := 0) (nd1 _) rfl (Or.inl rfl), Z4h (Z1k (Z0c (id := "isinstance") (Z1r (K := K) rfl) (by rfl) T.isi (by decide +kernel) (Z0k (pv 0) (Z0k (Z1j (v := .ty "tuple") (by rfl) T.tup (by decide +kernel) rfl) Z00)))), pv 0⟩))), ?_⟩
  obtain ⟨a, vs, rfl, a1, a2⟩ := Z19 hv
  cases a2 with
  | @cons x xs _ _ c1 c2 =>
   refine ⟨_, rfl, _, rfl, a, x :: xs, rfl, a1, fun p H1 s1 hp => ?_⟩
   rw [Zno] at hp
   have hl := IsThs.len _ c2
   refine ⟨p, rfl, ⟨_, SqT.of hp⟩, Z39 (K := K) (a := p) (xs := xs) (fun i ys σc H' => ∃ o, σc = [o] /\ IsThs H ys ((ts.take i).filter isTup) /\ ys.length <= i /\ H' = H1) ⟨none, rfl, by rw [List.take_zero]; exact .nil, Nat.le_refl _, rfl⟩ (fun i ys σc H' ⟨_, _, _, _, e⟩ => by rw [e]; exact SqT.of hp) ?_ ?_⟩
   ·rintro i x ys σc H' hx hi ⟨o, rfl, hys, hyl, rfl⟩
    obtain ⟨t, ht, h1⟩ := Z17 _ c2 hx
    have hnext : (ts.take (i + 1)).filter isTup = (ts.take i).filter isTup ++ (if isTup t = true then [t] else []) := Z3a _ ht
    refine ⟨by have : sizeLine = 16777216 := sizeLine_eq; omega, ?_⟩
    refine ⟨_, rfl, _, _, _, _, rfl, Z3q (IsTh.kp (Kp.of s1) h1), KI.tup h1, _, rfl, Z16 (fun g => ?_) (fun g => ?_)⟩
    ·refine ⟨_, rfl, nx hi ⟨_, rfl, ?_, by rw [List.length_append]; show ys.length + 1 <= i + 1; omega, rfl⟩⟩
     rw [hnext, if_pos g]
     exact IsThs.app _ hys (.cons h1 .nil)
    ·refine nx hi ⟨_, rfl, ?_, by omega, rfl⟩
     rw [hnext, if_neg g, List.append_nil]
     exact hys
   ·rintro ys σc H' ⟨o, rfl, hys, hyl, rfl⟩ q hq
    rw [List.take_of_length_le (by omega)] at hys
    have sA := s1.trans (Z02 (o := .lst ys) hq)
    exact k q ys _ sA (Z2x s1 hq) Z01 (IsThs.kp (Kp.of sA) hys)
theorem Zmc : FnScope ["_law_e", "_law_inner"] ["_law_e", "_law_inner"] (Z03 Zcj) := ⟨rfl, rfl, rfl, by decide +kernel, rfl, by decide +kernel, by decide +kernel⟩
theorem Z9w {f : Addr} {fd : FuncData} (F : Fun K "_law_with" "_law_with" Zcj f fd) (T : TxtT mg) (KI : Kits K) : FnOk P w K mg base CX0 1 f fd ["_law_e", "_law_inner"] spWith := by
 refine F.ok Zmc (fun vs H Q E h => ?_) (fun cdv A outer s H vs Q E hr h => ?_)
 ·obtain ⟨v, la, ts, ks, ws, rfl, _⟩ := h
  rfl
 ·obtain ⟨v, la, ts, ks, ws, rfl, hv, hz, hla, hws, hkz, k⟩ := h
  have hsz : sizeLine = 16777216 := sizeLine_eq
  refine' ⟨?tt, ?body, ?fin⟩
  case body =>
   refine' Z05 ?s1
   case s1 =>
    refine' Z0d ?r
    case r =>
     refine' Z1m Z1n (by rfl) T.tup (by decide +kernel) ?a
     case a =>
      refine' Z09 ?c Z00
      case c =>
       refine' Z0o Zah ?x (pv 1)
       case x =>
        refine' Z1s (N' := ["_law_part"]) (src := [none]) ?k1 ?k5 ?k6 ?k7
        case k1 => rfl
        case k5 => exact Z0p (Z03 Zcj) rfl ["_law_e", "_law_inner"] rfl (by decide +kernel)
        case k6 => exact Z6h (pv 0)
        case k7 => exact fun cl C ex s0 H0 => ⟨Z0t (i := 0) (nd1 _) rfl (Or.inl rfl), Z4h (Z1x (Z1k (Z0c (id := "isinstance") (Z1r (K := K) rfl) (by rfl) T.isi (by decide +kernel) (Z0k (pv 0) (Z0k (Z1j (v := .ty "tuple") (by rfl) T.tup (by decide +kernel) rfl) Z00))))), pv 0⟩
  case fin =>
   obtain ⟨a, xs, rfl, ha, hts⟩ := Z19 hv
   have hl := IsThs.len _ hts
   refine ⟨_, rfl, a, rfl, ⟨_, SqT.of ha⟩, Z39 (K := K) (a := a) (xs := xs) (fun i ys σc H' => ∃ o, σc = [o] /\ IsThs H ys ((ts.take i).filter Z1z) /\ ys.length <= i /\ H' = H) ⟨none, rfl, by rw [List.take_zero]; exact .nil, Nat.le_refl _, rfl⟩ (fun i ys σc H' ⟨_, _, _, _, e⟩ => by rw [e]; exact SqT.of ha) ?_ ?_⟩
   ·rintro i x ys σc H' hx hi ⟨o, rfl, hys, hyl, rfl⟩
    obtain ⟨t, ht, h1⟩ := Z17 _ hts hx
    have hnext : (ts.take (i + 1)).filter Z1z = (ts.take i).filter Z1z ++ (if Z1z t = true then [t] else []) := Z3a _ ht
    refine ⟨by omega, ?_⟩
    refine ⟨_, rfl, _, _, _, _, rfl, Z3q h1, KI.tup h1, _, rfl, Z16 (fun g => ?_) (fun g => ?_)⟩
    ·refine ⟨_, rfl, nx hi ⟨_, rfl, ?_, by rw [List.length_append]; show ys.length + 1 <= i + 1; omega, rfl⟩⟩
     rw [hnext, if_pos (show Z1z t = true from g)]
     exact IsThs.app _ hys (.cons h1 .nil)
    ·refine nx hi ⟨_, rfl, ?_, by omega, rfl⟩
     rw [hnext, if_neg (show ¬ Z1z t = true from g), List.append_nil]
     exact hys
   ·rintro ys σc H' ⟨o, rfl, hys, hyl, rfl⟩ l hl'
    rw [List.take_of_length_le (by omega)] at hys
    have s1 := Z02 (o := .lst ys) hl'
    have hwl := IsThs.len _ hws
    refine ⟨_, rfl, l, la, ys, ws, rfl, rfl, Z01, s1 _ _ hla, by omega, fun l2 hl2 => ?_⟩
    have s2 := Z02 (o := .lst (ys ++ ws)) hl2
    refine ⟨l2, _, rfl, .inl ⟨SqL.of Z01, fun p hp => ?_⟩⟩
    have s3 := Z02 (o := .tup (ys ++ ws)) hp
    have sA := (s1.trans s2).trans s3
    exact k p _ sA (.tup Z01 (IsThs.app _ (IsThs.kp (Kp.of sA) hys) (IsThs.kp (Kp.of sA) hws)))
theorem Zet : FnScope ["_law_e"] ["_law_e"] (Z03 Z50) := ⟨rfl, rfl, rfl, by decide +kernel, rfl, by decide +kernel, by decide +kernel⟩
theorem Zbe {f fP : Addr} {fd dP : FuncData} (F : Fun K "_law_nodes" "_law_nodes" Z50 f fd) (b : Binds K fd ["_law_e"] []) (m : mg "_law_nodes" = some (.ref f)) (T : TxtT mg) (KI : Kits K) (hsum : mg "sum" = none)
  (FP : Fun K "_law_parts" "_law_parts" Z1o fP dP) (bP : Binds K dP ["_law_e"] []) (mP : mg "_law_parts" = some (.ref fP)) : ∀ N, FnOk P w K mg base CX0 (N + 2) f fd ["_law_e"] (Z7o N) := by
 have GP : FnOk P w K mg base CX0 1 fP dP ["_law_e"] spLawParts := Z1p FP T KI
 intro N
 induction N with
 | zero =>
  refine F.ok Zet (fun vs H Q E h => ?_) (fun cdv A outer s H vs Q E hr h => ?_)
  ·obtain ⟨v, t, rfl, _⟩ := h
   rfl
  ·obtain ⟨v, t, rfl, _, h, _⟩ := h
   exact h.elim
 | succ N ih =>
  refine F.ok Zet (fun vs H Q E h => ?_) (fun cdv A outer s H vs Q E hr h => ?_)
  ·obtain ⟨v, t, rfl, _⟩ := h
   rfl
  ·obtain ⟨v, t, rfl, hv, hD, k⟩ := h
   have hsz : sizeLine = 16777216 := sizeLine_eq
   have hr1 : Room 1 _ := hr.mono (by omega)
   refine ⟨_, Z05 (Z0d (Z0o Z1l Z04 (Z0c (Zga rfl) (by rfl) hsum (by decide +kernel) (Z09 (Z1s (N' := ["_law_part"]) (src := [none]) rfl (Z0p (Z03 Z50) rfl ["_law_e"] rfl (by decide +kernel)) (Z2k (Z07 GP hr1 (by rfl) mP FP.kp bP .nil Z0e (Z0k (pv 0) Z00)))
    (fun cl C ex s0 H0 => ⟨Z0t (i := 0) (nd1 _) rfl (Or.inl rfl), Z2u, Z07 ih hr (by rfl) m F.kp b .nil Z0e (Z0k (pv 0) Z00)⟩)) Z00)))), ?_⟩
   obtain ⟨w0, hd, ks, rfl, h1, h2, h3, h4, h5, h6⟩ := hD
   have nk : ∀ k ∈ ks, L2.isTup k = true := fun k hk => (h6 k hk).isTup
   refine ⟨_, rfl, v, w0, hd.map Th.at ++ ks, rfl, hv, by rw [List.length_append, List.length_map]; omega, fun p ws H1 s1 hp0 hp hws => ?_⟩
   rw [Z4u nk] at hws
   have hl := IsThs.len _ hws
   refine ⟨p, rfl, ⟨_, SqL.of hp⟩, Z2w (K := K) (a := p) (xs := ws) (fun i ys σc H' => ∃ (o : Option V) (ms : List Int), σc = [o] /\ ys = ms.map V.int /\ ms.length = i /\ ms.sum = (Z21 (ks.take i) : Nat) /\ Same H1 H')
    ⟨none, [], rfl, rfl, rfl, by rw [List.take_zero]; rfl, Same.refl _⟩ (fun i ys σc H' ⟨_, _, _, _, _, _, e⟩ => SqL.of (e _ _ hp)) ?_ ?_⟩
   ·rintro i x ys σc H' hx hi ⟨o, ms, rfl, rfl, hm, hsm, s2⟩
    obtain ⟨t, ht, hxt⟩ := Z17 _ hws hx
    refine ⟨by rw [List.length_map]; omega, ?_⟩
    refine ⟨_, rfl, x, t, rfl, IsTh.kp (Kp.of s2) hxt, h6 t (List.mem_of_getElem? ht), fun H2 s3 => nx hi ⟨_, ms ++ [((cnt t : Nat) : Int)], rfl, by rw [List.map_append]; rfl, by rw [List.length_append, hm]; rfl, ?_, s2.trans s3⟩⟩
    rw [List.take_add_one, ht, List.sum_append, hsm]
    show _ = ((Z21 (ks.take i ++ [t]) : Nat) : Int)
    rw [Z37]
    simp
   ·rintro ys σc H' ⟨o, ms, rfl, rfl, hm, hsm, s2⟩ q hq
    rw [List.take_of_length_le (by omega)] at hsm
    refine ⟨q, ms, rfl, SqL.of Z01, _, _, rfl, rfl, ?_⟩
    have kk := k _ (s1.trans (s2.trans (Z02 (o := .lst (ms.map V.int)) hq)))
    rw [Z27 nk] at kk
    rw [hsm]
    simpa using kk
end
structure HW (K : PySem.W.Frag) (mg : Str -> Option Value) (fP fW : Addr) (dP dW : FuncData) : Prop where
 T : TxtT mg
 KI : Kits K
 P : Fun K "_law_parts" "_law_parts" Z1o fP dP
 bP : Binds K dP ["_law_e"] []
 mP : mg "_law_parts" = some (.ref fP)
 W : Fun K "_law_with" "_law_with" Zcj fW dW
 bW : Binds K dW ["_law_e", "_law_inner"] []
 mW : mg "_law_with" = some (.ref fW)
theorem Z9x {w : Str} {hd : List V} {ks ks' : List Th} (h : ∀ k ∈ ks, L2.isTup k = true) : Th.tup (Z7e (.at (.str w) :: (hd.map Th.at ++ ks)) ++ ks') = nd w hd ks' := by
 rw [Zjr h]
 rfl
theorem Zgw {σ τ : Nat -> Th} : ∀ (n : Nat) {t : Th}, PfT n t -> (∀ i ∈ hs t, σ i = τ i) -> fl σ t = fl τ t := by
 intro n
 induction n with
 | zero => intro t h; exact h.elim
 | succ n ih =>
  intro t h e
  obtain ⟨w, hd, ks, rfl, h1, h2, h3, h4, h5, h6⟩ := h
  by_cases hw : w = "hole"
  ·subst hw
   obtain ⟨i, rfl, rfl⟩ := h4 rfl
   rw [Z34, Z34]
   exact e i (by rw [Z26]; exact List.mem_singleton.mpr rfl)
  ·rw [Z94 hw, Z94 hw]
   refine congrArg (nd w hd) (List.map_congr_left fun k hk => ih (h6 k hk) fun i hi => e i ((Z35 hw).mpr ⟨k, hk, hi⟩))
theorem Zjy {σ : Nat -> Th} {m : Nat} : ∀ (n : Nat) {t : Th}, PfT n t -> (∀ i ∈ hs t, PfT m (σ i)) -> PfT (n + m) (fl σ t) := by
 intro n
 induction n with
 | zero => intro t h; exact h.elim
 | succ n ih =>
  intro t h e
  obtain ⟨w, hd, ks, rfl, h1, h2, h3, h4, h5, h6⟩ := h
  by_cases hw : w = "hole"
  ·subst hw
   obtain ⟨i, rfl, rfl⟩ := h4 rfl
   rw [Z34]
   exact (e i (by rw [Z26]; exact List.mem_singleton.mpr rfl)).le (by omega)
  ·rw [Z94 hw, Nat.add_right_comm]
   refine ⟨w, hd, _, rfl, h1, h2, fun z => ⟨(h3 z).1, by rw [List.length_map]; exact (h3 z).2⟩, fun z => absurd z hw, by rw [List.length_map]; exact h5, fun k hk => ?_⟩
   obtain ⟨y, hy, rfl⟩ := List.mem_map.mp hk
   exact ih (h6 y hy) fun i hi => e i ((Z35 hw).mpr ⟨y, hy, hi⟩)
theorem Zmd {σ : Nat -> Th} {j : Nat} : ∀ (n : Nat) {t : Th}, PfT n t -> (j ∈ hs (fl σ t) ↔ ∃ i ∈ hs t, j ∈ hs (σ i)) := by
 intro n
 induction n with
 | zero => intro t h; exact h.elim
 | succ n ih =>
  intro t h
  obtain ⟨w, hd, ks, rfl, h1, h2, h3, h4, h5, h6⟩ := h
  by_cases hw : w = "hole"
  ·subst hw
   obtain ⟨i, rfl, rfl⟩ := h4 rfl
   rw [Z34, Z26]
   simp
  ·rw [Z94 hw, Z35 hw]
   constructor
   ·rintro ⟨k, hk, hj⟩
    obtain ⟨y, hy, rfl⟩ := List.mem_map.mp hk
    obtain ⟨i, hi, h⟩ := (ih (h6 y hy)).mp hj
    exact ⟨i, (Z35 hw).mpr ⟨y, hy, hi⟩, h⟩
   ·rintro ⟨i, hi, h⟩
    obtain ⟨y, hy, hi⟩ := (Z35 hw).mp hi
    exact ⟨_, List.mem_map.mpr ⟨y, hy, rfl⟩, (ih (h6 y hy)).mpr ⟨i, hi, h⟩⟩
def hol (i : Nat) : Th := nd "hole" [.int (i : Nat)] []
theorem Zjz (i : Nat) : Wf "hole" [.int (i : Nat)] 0 := ⟨by show (decide ((0 : Int) <= (i : Nat)) && true && (decide (0 <= 0) && decide (0 <= 0))) = true; rw [decide_eq_true (by omega)]; rfl, fun z => absurd z (by decide +kernel)⟩
theorem Z66 (i : Nat) : PfT 1 (hol i) := ⟨"hole", [.int (i : Nat)], [], rfl, Nat.le_refl _, fun v hv => by rw [List.mem_singleton] at hv; subst hv; rfl, fun z => absurd z (by decide +kernel), fun _ => ⟨i, rfl, rfl⟩, ⟨Nat.zero_le _, Zjz i⟩, fun k hk => by cases hk⟩
theorem Zeu {H : Hp} {p : Addr} {i : Nat} (h : H p = some (.tup [.str "hole", .int (i : Nat)])) : IsTh H (.ref p) (hol i) := .tup h (.cons (.at (by decide +kernel)) (.cons (.at rfl) .nil))
def Zbf (N : Nat) : Sp := fun vs H Q _ => ∃ (v : V) (m : Nat) (t : Th), vs = [v, .int (m : Nat)] /\ IsTh H v t /\ PfT N t /\ (∀ i ∈ hs t, i < m) ∧
 ∀ (v' : V) H', Same H H' -> IsTh H' v' (fl (fun i => hol (m - 1 - i)) t) -> Q v' H'
theorem Zny : (["_law_many", "_law_one"] : List Str).Nodup := by decide +kernel
section
variable {P : Program} {w : World} {K : PySem.W.Frag} {mg : Str -> Option Value} {base : Heap}
theorem Zbg : FnScope ["_law_b", "_law_many"] ["_law_b", "_law_many"] (Z03 Z4n) := ⟨rfl, rfl, rfl, by decide +kernel, rfl, by decide +kernel, by decide +kernel⟩
theorem Zev {f fP fW : Addr} {fd dP dW : FuncData} (F : Fun K "_law_turned_about" "_law_turned_about" Z4n f fd) (b : Binds K fd ["_law_b", "_law_many"] []) (m : mg "_law_turned_about" = some (.ref f)) (U : HW K mg fP fW dP dW) : ∀ N, FnOk P w K mg base CX0 (N + 2) f fd ["_law_b", "_law_many"] (Zbf N) := by
 have GP : FnOk P w K mg base CX0 1 fP dP ["_law_e"] spLawParts := Z1p U.P U.T U.KI
 have GW : FnOk P w K mg base CX0 1 fW dW ["_law_e", "_law_inner"] spWith := Z9w U.W U.T U.KI
 intro N
 induction N with
 | zero =>
  refine F.ok Zbg (fun vs H Q E h => ?_) (fun cdv A outer s H vs Q E hr h => ?_)
  ·obtain ⟨v, m, t, rfl, _⟩ := h
   rfl
  ·obtain ⟨v, m, t, rfl, _, h, _⟩ := h
   exact h.elim
 | succ N ih =>
  refine F.ok Zbg (fun vs H Q E h => ?_) (fun cdv A outer s H vs Q E hr h => ?_)
  ·obtain ⟨v, m, t, rfl, _⟩ := h
   rfl
  ·obtain ⟨v, mm, t, rfl, hv, hD, hin, k⟩ := h
   have hsz : sizeLine = 16777216 := sizeLine_eq
   have hr1 : Room 1 _ := hr.mono (by omega)
   refine' ⟨?tt, ?body, ?fin⟩
   case body =>
    refine' Z06 ?s1 (Z05 ?s2)
    case s1 =>
     refine' Z0v ?c (Z05 ?b) Z0f
     case c => exact Z0b Z1f (Z10 Z1c (pv 0) Z04 (fun _ _ => rfl)) Z0a (Z0l _)
     case b =>
      refine' Z0d ?r0
      case r0 =>
       refine' Z1g ?a0
       case a0 => exact Z1i Z0a (Z09 (Z0o Z2n (Z0o Z2n (pv 1) Z04) (Z10 Z1c (pv 0) Z04 (fun _ _ => rfl))) Z00)
    case s2 =>
     refine' Z0d ?r
     case r =>
      refine' Z07 GW hr1 (by rfl) U.mW U.W.kp U.bW .nil Z0e ?a
      case a =>
       refine' Z0k (pv 0) ?a2
       case a2 =>
        refine' Z09 ?c Z00
        case c =>
         refine' Z1s (N' := ["_law_many", "_law_one"]) (src := [some 1, none]) ?k1 ?k5 ?k6 ?k7
         case k1 => rfl
         case k5 => exact Z0p (Z03 Z4n) rfl ["_law_b", "_law_many"] rfl (by decide +kernel)
         case k6 => exact Z2k (Z07 GP hr1 (by rfl) U.mP U.P.kp U.bP .nil Z0e (Z0k (pv 0) Z00))
         case k7 => exact fun cl C ex s0 H0 => ⟨Z0t (i := 1) Zny rfl (Or.inl rfl), Z2u, Z07 ih hr (by rfl) m F.kp b .nil Z0e (Z0k (pv 1) (Z0k (pv 0) Z00))⟩
   case fin =>
    obtain ⟨w0, hd, ks, rfl, h1, h2, h3, h4, h5, h6⟩ := hD
    have nk : ∀ k ∈ ks, L2.isTup k = true := fun k hk => (h6 k hk).isTup
    obtain ⟨an, vns, rfl, han, hvns⟩ := Z19 hv
    cases hvns with
    | @cons vh vr _ _ c1 c2 =>
     obtain ⟨rfl, _⟩ := Z2b c1
     refine ⟨_, rfl, an, _, 0, .str w0, rfl, rfl, SqT.of han, Z1v _ _, rfl, _, rfl, Z16 (fun g2 => ?_) (fun g2 => ?_)⟩
     ·have hw0 : w0 = "hole" := by
       have g' := of_decide_eq_true g2
       injection g'
      subst hw0
      obtain ⟨i, rfl, rfl⟩ := h4 rfl
      cases c2 with
      | @cons vi vr2 _ _ c3 c4 =>
       cases c4
       obtain ⟨rfl, _⟩ := Z2b c3
       have hi : i < mm := hin i (by rw [Z26]; exact List.mem_singleton.mpr rfl)
       refine ⟨_, rfl, _, _, rfl, rfl, _, rfl, an, _, 1, .int (i : Nat), rfl, rfl, SqT.of han, Z30 _ _ _, _, _, rfl, rfl, (by show 2 <= sizeLine; decide), fun p hp => ?_⟩
       refine k _ _ (Z02 hp) ?_
       rw [Z34]
       refine Zeu ?_
       rw [Z01]
       show some (HO.tup [.str "hole", .int (((mm : Nat) : Int) - 1 - ((i : Nat) : Int))]) = _
       rw [show ((mm : Nat) : Int) - 1 - ((i : Nat) : Int) = ((mm - 1 - i : Nat) : Int) by omega]
     ·have hw0 : w0 ≠ "hole" := fun z => g2 (by rw [z]; decide +kernel)
      refine ⟨_, rfl, _, rfl, .ref an, w0, hd.map Th.at ++ ks, rfl, hv, by rw [List.length_append, List.length_map]; omega, fun p ps H1 s1 hp0 hp hps => ?_⟩
      rw [Z4u nk] at hps
      have hl := IsThs.len _ hps
      refine ⟨p, rfl, ⟨_, SqL.of hp⟩, Z2w (K := K) (a := p) (xs := ps) (fun i ys σc H' => ∃ (o : Option V), σc = [some (.int (mm : Nat)), o] /\ ys.length = i /\ IsThs H' ys ((ks.take i).map (fl fun i => hol (mm - 1 - i))) /\ Same H1 H')
       ⟨none, rfl, rfl, by rw [List.take_zero]; exact .nil, Same.refl _⟩ (fun i ys σc H' ⟨_, _, _, _, e⟩ => SqL.of (e _ _ hp)) ?_ ?_⟩
      ·rintro i x ys σc H' hx hi ⟨o, rfl, hyl, hys, s2⟩
       obtain ⟨t, ht, hxt⟩ := Z17 _ hps hx
       have htk := List.mem_of_getElem? ht
       refine ⟨by omega, ?_⟩
       refine ⟨_, rfl, _, rfl, x, mm, t, rfl, IsTh.kp (Kp.of s2) hxt, h6 t htk, fun j hj => hin j ((Z35 hw0).mpr ⟨t, htk, hj⟩), fun v' H2 s3 hv' => nx hi ⟨_, rfl, by rw [List.length_append, hyl]; rfl, ?_, s2.trans s3⟩⟩
       rw [List.take_add_one, ht, List.map_append]
       exact IsThs.app _ (IsThs.kp (Kp.of s3) hys) (.cons hv' .nil)
      ·rintro ys σc H' ⟨o, rfl, hyl, hys, s2⟩ q hq
       rw [List.take_of_length_le (by omega)] at hys
       have sq := Z02 (o := .lst ys) hq
       have sA := (s1.trans s2).trans sq
       refine ⟨.ref an, q, _, _, ys, rfl, IsTh.kp (Kp.of sA) hv, by rw [List.length_cons, List.length_append, List.length_map]; omega, Z01, IsThs.kp (Kp.of sq) hys, by rw [List.length_map]; omega, fun r H3 s3 hr3 => ?_⟩
       rw [Z9x nk] at hr3
       refine k _ _ (sA.trans s3) ?_
       rw [Z94 hw0]
       exact hr3
end
theorem few {ks : List Nat} {m : Nat} (nd : ks.Nodup) (h : ∀ i ∈ ks, i < m) : ks.length <= m := by
 have p : ks.Perm ((List.range m).filter fun i => decide (i ∈ ks)) := (List.perm_ext_iff_of_nodup nd (List.nodup_range.filter _)).mpr fun i => by
  rw [List.mem_filter, List.mem_range, decide_eq_true_eq]
  exact ⟨fun z => ⟨h i z, z⟩, fun z => z.2⟩
 rw [p.length_eq]
 have := List.length_filter_le (fun i => decide (i ∈ ks)) (List.range m)
 rw [List.length_range] at this
 exact this
mutual
theorem Zbh {H H' : Hp} {a : Addr} {xs : List V} (h : H a = some (.lst xs)) (b : But a H H') : ∀ {v : V} {t : Th}, IsTh H v t -> plT t = true -> IsTh H' v t
 | _, _, .at f, _ => .at f
 | _, _, .tup e r, p => by
  rw [plT] at p
  exact .tup (b _ _ e (Z3i e h (by intro q; cases q))) (Z7p h b r p)
 | _, _, .lst e r, p => by rw [plT] at p; cases p
theorem Z7p {H H' : Hp} {a : Addr} {xs : List V} (h : H a = some (.lst xs)) (b : But a H H') : ∀ {vs : List V} {ts : List Th}, IsThs H vs ts -> Z4z ts = true -> IsThs H' vs ts
 | _, _, .nil, _ => .nil
 | _, _, .cons e r, p => by
  rw [Z4z, Bool.and_eq_true] at p
  exact .cons (Zbh h b e p.1) (Z7p h b r p.2)
end
abbrev iv (S : List Nat) : List V := S.map fun (i : Nat) => V.int (i : Nat)
theorem Zbi (i : Nat) (S : List Nat) : inV (.int (i : Nat)) (iv S) = true ↔ i ∈ S := by
 unfold inV iv
 rw [List.any_map, List.any_eq_true]
 constructor
 ·rintro ⟨y, hy, e⟩
  have e' : (((y : Nat) : Int) == ((i : Nat) : Int)) = true := e
  have := beq_iff_eq.mp e'
  rw [show i = y by omega]
  exact hy
 ·intro h
  exact ⟨i, h, beq_self_eq_true _⟩
theorem Zew (S : List Nat) : (iv S).all Z2e = true := by
 unfold iv
 rw [List.all_map]
 exact List.all_eq_true.mpr fun _ _ => rfl
theorem Zex (i : Nat) : ∀ (l : List Nat) (m : Nat), m < l.idxOf i -> l[m]? ≠ some i := by
 intro l
 induction l with
 | nil => intro m h; simp at h
 | cons x l ih =>
  intro m h
  rw [List.idxOf_cons] at h
  by_cases e : x = i
  ·subst e
   simp at h
  ·rw [show (x == i) = false by simpa using e] at h
   cases m with
   | zero => simpa using e
   | succ m => rw [List.getElem?_cons_succ]; exact ih m (by simpa using h)
def ix (S : List Nat) (i : Nat) : Th := hol (S.idxOf i)
theorem Zk0 {S R : List Nat} {i : Nat} (h : i ∈ S) : ix (S ++ R) i = ix S i := by
 unfold ix
 rw [List.idxOf_append, if_pos h]
theorem Zk1 (S : List Nat) (i : Nat) : PfT 1 (ix S i) := Z66 _
theorem Znz {σ : Nat -> Th} {n : Nat} {t : Th} (h : PfT n t) (hσ : ∀ i ∈ hs t, PfT 1 (σ i)) : plT (fl σ t) = true := (Zjy n h hσ).pl
def Zey (N : Nat) : Sp := fun vs H Q _ => ∃ (v : V) (sa : Addr) (t : Th) (S : List Nat), vs = [v, .ref sa] /\ IsTh H v t /\ PfT N t /\ H sa = some (.lst (iv S)) /\ S.Nodup /\ (∀ i ∈ S, i < 1000) /\ (∀ i ∈ hs t, i < 1000) ∧
 ∀ (v' : V) (R : List Nat) H', But sa H H' -> H' sa = some (.lst (iv (S ++ R))) -> (S ++ R).Nodup -> (∀ i ∈ hs t, i ∈ S ++ R) -> (∀ i ∈ R, i ∈ hs t) -> IsTh H' v' (fl (ix (S ++ R)) t) -> Q v' H'
theorem Zo0 : (["_law_part", "_law_seen"] : List Str).Nodup := by decide +kernel
section
variable {P : Program} {w : World} {K : PySem.W.Frag} {mg : Str -> Option Value} {base : Heap}
theorem Zez : FnScope ["_law_b", "_law_seen"] ["_law_b", "_law_seen"] (Z03 Z6u) := ⟨rfl, rfl, rfl, by decide +kernel, rfl, by decide +kernel, by decide +kernel⟩
theorem Zgx {f fP fW : Addr} {fd dP dW : FuncData} (F : Fun K "_law_dense" "_law_dense" Z6u f fd) (b : Binds K fd ["_law_b", "_law_seen"] []) (m : mg "_law_dense" = some (.ref f)) (U : HW K mg fP fW dP dW) : ∀ N, FnOk P w K mg base CX0 (N + 2) f fd ["_law_b", "_law_seen"] (Zey N) := by
 have GP : FnOk P w K mg base CX0 1 fP dP ["_law_e"] spLawParts := Z1p U.P U.T U.KI
 have GW : FnOk P w K mg base CX0 1 fW dW ["_law_e", "_law_inner"] spWith := Z9w U.W U.T U.KI
 intro N
 induction N with
 | zero =>
  refine F.ok Zez (fun vs H Q E h => ?_) (fun cdv A outer s H vs Q E hr h => ?_)
  ·obtain ⟨v, sa, t, S, rfl, _⟩ := h
   rfl
  ·obtain ⟨v, sa, t, S, rfl, _, h, _⟩ := h
   exact h.elim
 | succ N ih =>
  refine F.ok Zez (fun vs H Q E h => ?_) (fun cdv A outer s H vs Q E hr h => ?_)
  ·obtain ⟨v, sa, t, S, rfl, _⟩ := h
   rfl
  ·obtain ⟨v, sa, t, S, rfl, hv, hD, hS, hnd, hlt, hlt2, k⟩ := h
   have hsz : sizeLine = 16777216 := sizeLine_eq
   have hr1 : Room 1 _ := hr.mono (by omega)
   have hSl : S.length <= 1000 := few hnd hlt
   refine' ⟨?tt, ?body, ?fin⟩
   case body =>
    refine' Z06 ?s1 (Z05 ?s2)
    case s1 =>
     refine' Z0v ?c (Z0h ?b1 (Z05 ?b2)) Z0f
     case c => exact Z0b Z1f (Z10 Z1c (pv 0) Z04 (fun _ _ => rfl)) Z0a (Z0l _)
     case b1 =>
      refine' Z0v ?c2 (Z05 ?b3) Z0f
      case c2 => exact Z0b Z8c (Z10 Z1c (pv 0) Z04 (fun _ _ => rfl)) (pv 1) (by with_unfolding_all rfl)
      case b3 => exact Z2r (Z8d PySem.F.plainAttrs_list PySem.F.slot_list_append PySem.F.type_list_append Z3x (pv 1) (Z09 (Z10 Z1c (pv 0) Z04 (fun _ _ => rfl)) Z00))
     case b2 =>
      refine' Z0d ?r0
      case r0 =>
       refine' Z1g ?a0
       case a0 => exact Z1i Z0a (Z09 (Z8d PySem.F.plainAttrs_list PySem.F.slot_list_index PySem.F.type_list_index Zgi (pv 1) (Z09 (Z10 Z1c (pv 0) Z04 (fun _ _ => rfl)) Z00)) Z00)
    case s2 =>
     refine' Z0d ?r
     case r =>
      refine' Z07 GW hr1 (by rfl) U.mW U.W.kp U.bW .nil Z0e ?a
      case a =>
       refine' Z0k (pv 0) ?a2
       case a2 =>
        refine' Z09 ?c Z00
        case c =>
         refine' Z1s (N' := ["_law_part", "_law_seen"]) (src := [none, some 1]) ?k1 ?k5 ?k6 ?k7
         case k1 => rfl
         case k5 => exact Z0p (Z03 Z6u) rfl ["_law_b", "_law_seen"] rfl (by decide +kernel)
         case k6 => exact Z2k (Z07 GP hr1 (by rfl) U.mP U.P.kp U.bP .nil Z0e (Z0k (pv 0) Z00))
         case k7 => exact fun cl C ex s0 H0 => ⟨Z0t (i := 0) Zo0 rfl (Or.inl rfl), Z2u, Z07 ih hr (by rfl) m F.kp b .nil Z0e (Z0k (pv 0) (Z0k (pv 1) Z00))⟩
   case fin =>
    obtain ⟨w0, hd, ks, rfl, h1, h2, h3, h4, h5, h6⟩ := hD
    have nk : ∀ k ∈ ks, L2.isTup k = true := fun k hk => (h6 k hk).isTup
    obtain ⟨an, vns, rfl, han, hvns⟩ := Z19 hv
    have hns : an ≠ sa := Z3i han hS (by intro q; cases q)
    cases hvns with
    | @cons vh vr _ _ c1 c2 =>
     obtain ⟨rfl, _⟩ := Z2b c1
     refine ⟨_, rfl, an, _, 0, .str w0, rfl, rfl, SqT.of han, Z1v _ _, rfl, _, rfl, Z16 (fun g2 => ?_) (fun g2 => ?_)⟩
     ·have hw0 : w0 = "hole" := by
       have g' := of_decide_eq_true g2
       injection g'
      subst hw0
      obtain ⟨i, rfl, rfl⟩ := h4 rfl
      cases c2 with
      | @cons vi vr2 _ _ c3 c4 =>
       cases c4
       obtain ⟨rfl, _⟩ := Z2b c3
       refine ⟨fun σ' H' => ∃ R, σ' = [some (.ref an), some (.ref sa)] /\ But sa H H' /\ H' sa = some (.lst (iv (S ++ R))) /\ (S ++ R).Nodup /\ i ∈ S ++ R /\ ∀ j ∈ R, j = i, ?_, ?_⟩
       ·refine ⟨_, rfl, an, _, 1, .int (i : Nat), rfl, rfl, SqT.of han, Z30 _ _ _, _, rfl, sa, iv S, rfl, .inl (SqL.of hS), rfl, Zew S, _, rfl, Z16 (fun g => ?_) (fun g => ?_)⟩
        ·have hno : i ∉ S := fun z => by
          have g' : (!inV (.int (i : Nat)) (iv S)) = true := g
          rw [(Zbi i S).mpr z] at g'
          cases g'
         refine ⟨_, rfl, .inl ⟨rfl, _, SqL.of hS⟩, _, rfl, an, _, 1, .int (i : Nat), rfl, rfl, SqT.of han, Z30 _ _ _, sa, iv S, .int (i : Nat), rfl, rfl, hS, by rw [List.length_map]; omega, [i], rfl, But.upd, ?_, ?_, List.mem_append_right _ (List.mem_singleton.mpr rfl), fun j hj => List.mem_singleton.mp hj⟩
         ·rw [Z01]
          unfold iv
          rw [List.map_append]
          rfl
         ·rw [List.nodup_append]
          refine ⟨hnd, by simp, fun a ha b hb => ?_⟩
          rw [List.mem_singleton] at hb
          subst hb
          exact fun z => hno (z ▸ ha)
        ·have hyes : i ∈ S := by
          refine (Zbi i S).mp ?_
          cases e : inV (.int (i : Nat)) (iv S) with
          | true => rfl
          | false => exact absurd (by rw [e]; rfl) g
         exact ⟨[], rfl, But.refl _ _, by rw [List.append_nil]; exact hS, by rw [List.append_nil]; exact hnd, by rw [List.append_nil]; exact hyes, fun j hj => by cases hj⟩
       ·rintro σ1 H1 ⟨R, rfl, b1, hS1, hnd1, hi1, hR⟩
        have han1 := b1 _ _ han hns
        refine ⟨_, rfl, .inl ⟨rfl, _, SqL.of hS1⟩, _, rfl, an, _, 1, .int (i : Nat), rfl, rfl, SqT.of han1, Z30 _ _ _, sa, (S ++ R).map (fun (i : Nat) => (i : Int)), (i : Nat), (S ++ R).idxOf i, rfl, rfl, ?_, ?_, ?_, (by show 2 <= sizeLine; decide), fun p hp => ?_⟩
        ·rw [hS1, List.map_map]
         rfl
        ·rw [List.getElem?_map, List.getElem?_eq_getElem (List.idxOf_lt_length_iff.mpr hi1), List.getElem_idxOf]
         rfl
        ·intro m hm e
         rw [List.getElem?_map, List.getElem?_eq_getElem (Nat.lt_trans hm (List.idxOf_lt_length_iff.mpr hi1))] at e
         have e' : (((S ++ R)[m]'(Nat.lt_trans hm (List.idxOf_lt_length_iff.mpr hi1)) : Nat) : Int) = ((i : Nat) : Int) := by simpa using e
         have e2 : (S ++ R)[m]'(Nat.lt_trans hm (List.idxOf_lt_length_iff.mpr hi1)) = i := by omega
         exact Zex i (S ++ R) m hm (by rw [List.getElem?_eq_getElem (Nat.lt_trans hm (List.idxOf_lt_length_iff.mpr hi1)), e2])
        ·have sp := Z02 (o := .tup [.str "hole", .int (((S ++ R).idxOf i : Nat) : Int)]) hp
         refine k _ R _ (b1.trans (But.of sp)) (sp _ _ hS1) hnd1 (fun j hj => ?_) (fun j hj => ?_) ?_
         ·rw [Z26, List.mem_singleton] at hj
          rw [hj]
          exact hi1
         ·rw [Z26, hR j hj]
          exact List.mem_singleton.mpr rfl
         ·rw [Z34]
          exact Zeu Z01
     ·have hw0 : w0 ≠ "hole" := fun z => g2 (by rw [z]; decide +kernel)
      refine ⟨_, rfl, _, rfl, .ref an, w0, hd.map Th.at ++ ks, rfl, hv, by rw [List.length_append, List.length_map]; omega, fun p ps H1 s1 hp0 hp hps => ?_⟩
      rw [Z4u nk] at hps
      have hl := IsThs.len _ hps
      have hS1 := s1 _ _ hS
      have hpsa : p ≠ sa := fun z => by rw [z, hS] at hp0; cases hp0
      refine ⟨p, rfl, ⟨_, SqL.of hp⟩, Z2w (K := K) (a := p) (xs := ps) (fun i ys σc H' => ∃ (o : Option V) (R : List Nat), σc = [o, some (.ref sa)] /\ ys.length = i /\ But sa H1 H' /\ H' sa = some (.lst (iv (S ++ R))) /\ (S ++ R).Nodup /\ (∀ t ∈ ks.take i, ∀ j ∈ hs t, j ∈ S ++ R) /\ (∀ j ∈ R, ∃ t ∈ ks, j ∈ hs t) /\ IsThs H' ys ((ks.take i).map (fl (ix (S ++ R)))))
       ⟨none, [], rfl, rfl, But.refl _ _, by rw [List.append_nil]; exact hS1, by rw [List.append_nil]; exact hnd, fun t ht => (by rw [List.take_zero] at ht; cases ht), fun j hj => (by cases hj), by rw [List.take_zero]; exact .nil⟩ (fun i ys σc H' ⟨_, _, _, _, e, _⟩ => SqL.of (e _ _ hp hpsa)) ?_ ?_⟩
      ·rintro i x ys σc H' hx hi ⟨o, R, rfl, hyl, b2, hS2, hnd2, hc1, hc2, hys⟩
       obtain ⟨t, ht, hxt⟩ := Z17 _ hps hx
       have htk := List.mem_of_getElem? ht
       refine ⟨by omega, ?_⟩
       refine ⟨_, rfl, _, rfl, x, sa, t, S ++ R, rfl, Zbh hS1 b2 hxt (h6 t htk).pl, h6 t htk, hS2, hnd2, fun j hj => ?_, fun j hj => hlt2 j ((Z35 hw0).mpr ⟨t, htk, hj⟩), fun v' R2 H2 b3 hS3 hnd3 q1 q2 hv' => ?_⟩
       ·rcases List.mem_append.mp hj with z | z
        ·exact hlt j z
        ·obtain ⟨t2, ht2, hj2⟩ := hc2 j z
         exact hlt2 j ((Z35 hw0).mpr ⟨t2, ht2, hj2⟩)
       ·rw [List.append_assoc] at hS3 hnd3 q1 hv'
        refine nx hi ⟨_, R ++ R2, rfl, by rw [List.length_append, hyl]; rfl, b2.trans b3, hS3, hnd3, ?_, ?_, ?_⟩
        ·intro t' ht' j hj
         rw [List.take_add_one, ht] at ht'
         rcases List.mem_append.mp ht' with z | z
         ·have := hc1 t' z j hj
          rw [<- List.append_assoc]
          exact List.mem_append_left _ this
         ·have z' : t' = t := by simpa using z
          subst z'
          exact q1 j hj
        ·intro j hj
         rcases List.mem_append.mp hj with z | z
         ·exact hc2 j z
         ·exact ⟨t, htk, q2 j z⟩
        ·rw [List.take_add_one, ht, List.map_append]
         refine IsThs.app _ ?_ (.cons hv' .nil)
         have e : (ks.take i).map (fl (ix (S ++ (R ++ R2)))) = (ks.take i).map (fl (ix (S ++ R))) := by
          refine List.map_congr_left fun t' ht' => Zgw N (h6 t' (List.mem_of_mem_take ht')) fun j hj => ?_
          rw [<- List.append_assoc]
          exact Zk0 (hc1 t' ht' j hj)
         rw [e]
         refine Z7p hS2 b3 hys (Z4a fun y hy => ?_)
         obtain ⟨t', ht', rfl⟩ := List.mem_map.mp hy
         exact Znz (h6 t' (List.mem_of_mem_take ht')) fun j _ => Zk1 _ _
      ·rintro ys σc H' ⟨o, R, rfl, hyl, b2, hS2, hnd2, hc1, hc2, hys⟩ q hq
       rw [List.take_of_length_le (by omega)] at hys hc1
       have sq := Z02 (o := .lst ys) hq
       have hv2 := Zbh hS1 b2 (IsTh.kp (Kp.of s1) hv) (PfT.pl (N + 1) ⟨w0, hd, ks, rfl, h1, h2, h3, h4, h5, h6⟩)
       refine ⟨.ref an, q, _, _, ys, rfl, IsTh.kp (Kp.of sq) hv2, by rw [List.length_cons, List.length_append, List.length_map]; omega, Z01, IsThs.kp (Kp.of sq) hys, by rw [List.length_map]; omega, fun r H3 s3 hr3 => ?_⟩
       rw [Z9x nk] at hr3
       refine k _ R _ (((But.of s1).trans b2).trans (But.of (sq.trans s3))) (s3 _ _ (sq _ _ hS2)) hnd2 (fun j hj => ?_) (fun j hj => ?_) ?_
       ·obtain ⟨t, ht, hj2⟩ := (Z35 hw0).mp hj
        exact hc1 t ht j hj2
       ·exact (Z35 hw0).mpr (hc2 j hj)
       ·rw [Z94 hw0]
        exact hr3
end
theorem Zcr {w : Str} {hd : List V} {ks : List Th} : Th.sz (nd w hd ks) = 1 + (1 + (szs (hd.map Th.at) + szs ks)) := by
 unfold nd
 rw [Th.sz, szs, Z5o, Th.sz]
def Z0u (nm : Addr) (r h s : Int) (bg : Addr) : List (Key × V) := [(Sum.inr "names", .ref nm), (Sum.inr "room", .int r), (Sum.inr "holes", .int h), (Sum.inr "astray", .int s), (Sum.inr "bag", .ref bg)]
section
variable {H : Hp} {wd nm bg : Addr} {r h s q : Int}
theorem Z4v (e : H wd = some (.dK (Z0u nm r h s bg))) : DGet H wd (.str "names") (some (.ref nm)) := by
 have z := DGet.k (k := Sum.inr "names") e
 rw [show Z6a (Z0u nm r h s bg) (Sum.inr "names") = some (.ref nm) by with_unfolding_all rfl] at z
 exact z
theorem Z4c (e : H wd = some (.dK (Z0u nm r h s bg))) : DGet H wd (.str "room") (some (.int r)) := by
 have z := DGet.k (k := Sum.inr "room") e
 rw [show Z6a (Z0u nm r h s bg) (Sum.inr "room") = some (.int r) by with_unfolding_all rfl] at z
 exact z
theorem Z6x (e : H wd = some (.dK (Z0u nm r h s bg))) : DGet H wd (.str "holes") (some (.int h)) := by
 have z := DGet.k (k := Sum.inr "holes") e
 rw [show Z6a (Z0u nm r h s bg) (Sum.inr "holes") = some (.int h) by with_unfolding_all rfl] at z
 exact z
theorem Z67 (e : H wd = some (.dK (Z0u nm r h s bg))) : DGet H wd (.str "astray") (some (.int s)) := by
 have z := DGet.k (k := Sum.inr "astray") e
 rw [show Z6a (Z0u nm r h s bg) (Sum.inr "astray") = some (.int s) by with_unfolding_all rfl] at z
 exact z
theorem Z7q (e : H wd = some (.dK (Z0u nm r h s bg))) : DGet H wd (.str "bag") (some (.ref bg)) := by
 have z := DGet.k (k := Sum.inr "bag") e
 rw [show Z6a (Z0u nm r h s bg) (Sum.inr "bag") = some (.ref bg) by with_unfolding_all rfl] at z
 exact z
theorem Z95 (e : H wd = some (.dK (Z0u nm r h s bg))) : DPut H wd (.str "room") (.int q) (upd H wd (.dK (Z0u nm q h s bg))) := by
 have z := DPut.k (k := Sum.inr "room") (v := .int q) e (by show 5 < sizeLine; decide)
 rw [show Z7z (Z0u nm r h s bg) (Sum.inr "room") (.int q) = Z0u nm q h s bg by with_unfolding_all rfl] at z
 exact z
end
theorem Z7r {H : Hp} {d wd l nm bg : Addr} {ns : List Int} {n : Nat} {r h s : Int} (F : Feed H d l ns n) (W : H wd = some (.dK (Z0u nm r h s bg))) : wd ≠ d := by
 obtain ⟨⟨z, hd⟩, _, _⟩ := F
 refine Z3i W hd (fun q => ?_)
 injection q with q
 have h1 := congrArg List.length q
 cases h1
def spWorld : Sp := fun vs H Q _ => ∃ (nm : Addr) (r h s : Int), vs = [.ref nm, .int r, .int h, .int s] /\ ∀ (wd bg : Addr) H', Same H H' -> H wd = none -> H bg = none -> H' wd = some (.dK (Z0u nm r h s bg)) -> H' bg = some (.lst []) -> Q (.ref wd) H'
structure Nms (H : Hp) (nm : Addr) (T : List Str) : Prop where
 a : H nm = some (.lst (T.map V.str))
 l1 : 1 <= T.length
 l2 : T.length <= 40
 nm : ∀ t ∈ T, NmW t
theorem Z6y {w : Str} {k : Wd} {f : Th -> Bool} {lo hi n : Nat} {v : V} (hk : kindOf w = some k) (hr : rule nameB signB k = (some f, lo, hi)) (hf : f (.at v) = true) (h1 : lo <= n) (h2 : n <= hi) : shB w [v] n = true := by
 unfold shB
 rw [hk]
 dsimp only
 rw [hr]
 dsimp only
 rw [hf, decide_eq_true h1, decide_eq_true h2]
 rfl
theorem Zi6 {i m : Int} (h0 : 0 <= i) (h1 : i <= m) : Z0w (.at (.int i)) (some m) = true := by
 show (decide (0 <= i) && decide (i <= m)) = true
 rw [decide_eq_true h0, decide_eq_true h1]
 rfl
theorem Z9y {t : Str} (h : NmW t) : Z1w t = true := by
 obtain ⟨⟨⟨t1, t2⟩, t3⟩, hw⟩ := h
 have e1 : inV (.str t) wordsV = false := by
  cases z : inV (.str t) wordsV with
  | false => rfl
  | true =>
   have ew : wordsV = words13.map V.str := by decide +kernel
   rw [ew] at z
   exact absurd ((Z4b t words13).mp z) hw
 have e2 : t.cps.toList.all az = true := by
  rw [List.all_eq_true]
  intro c hc
  have := t3 c hc
  unfold az
  rw [Bool.and_eq_true, decide_eq_true_iff, decide_eq_true_iff]
  exact this
 unfold Z1w
 rw [e1, e2, decide_eq_true t1, decide_eq_true t2]
 rfl
theorem Zme {i : Int} (h0 : 0 <= i) (h1 : i < 60) : Wf "own" [.int i] 0 := by
 refine ⟨Z6y (k := .own) (by decide +kernel) rfl ?_ (Nat.le_refl _) (Nat.le_refl _), fun _ => ⟨i.toNat, by rw [Int.toNat_of_nonneg h0], by omega⟩⟩
 show (decide (0 <= i) && true) = true
 rw [decide_eq_true h0]
 rfl
theorem Zmf {i : Int} (h0 : 0 <= i) (h1 : i <= 999999999) : Wf "num" [.int i] 0 := ⟨Z6y (k := .num) (by decide +kernel) rfl (Zi6 h0 h1) (Nat.le_refl _) (Nat.le_refl _), fun z => absurd z (by decide +kernel)⟩
theorem Zk2 {t : Str} (h : NmW t) : Wf "name" [.str t] 0 := ⟨Z6y (k := .name) (by decide +kernel) rfl (Z9y h) (Nat.le_refl _) (Nat.le_refl _), fun z => absurd z (by decide +kernel)⟩
def Zf0 (h : Int) (t : Th) : Prop := PfT 1 t /\ cnt t = 1 /\ Th.sz t <= 3 /\ ∀ i ∈ hs t, ((i : Nat) : Int) < h
def spLeaf : Sp := fun vs H Q _ => ∃ (d l wd nm bg : Addr) (ns : List Int) (n : Nat) (r h s lt : Int) (T : List Str), vs = [.ref d, .ref wd, .int lt] /\ Feed H d l ns n /\ n <= 800000000000 /\ H wd = some (.dK (Z0u nm r h s bg)) /\ Nms H nm T /\ h <= 1000 /\ lt + s <= 60 ∧
 ∀ (v : V) (t : Th) n' H', IsTh H' v t -> Zf0 h t -> n' <= n + 5 -> Feed H' d l ns n' -> But d H H' -> Q v H'
theorem Zo1 {w : Str} {h : Int} (h1 : w ≠ "let") (h2 : w ≠ "hole") (hf : Wf w [] 0) : Zf0 h (nd w [] []) := by
 refine ⟨⟨w, [], [], rfl, Nat.zero_le _, fun v hv => (by cases hv), fun z => absurd z h1, fun z => absurd z h2, ⟨Nat.zero_le _, hf⟩, fun k hk => (by cases hk)⟩, ?_, ?_, fun i hi => ?_⟩
 ·rw [Z27 (fun k hk => by cases hk)]; simp [Z21]
 ·rw [Zcr]; simp [szs]
 ·obtain ⟨k, hk, _⟩ := (Z35 h2).mp hi
  cases hk
theorem Zk3 {w : Str} {v : V} {h : Int} (hv : plT (.at v) = true) (h1 : w ≠ "let") (h2 : w ≠ "hole") (hf : Wf w [v] 0) : Zf0 h (nd w [v] []) := by
 refine ⟨⟨w, [v], [], rfl, Nat.le_refl _, fun u hu => (by rw [List.mem_singleton] at hu; rw [hu]; exact hv), fun z => absurd z h1, fun z => absurd z h2, ⟨Nat.zero_le _, hf⟩, fun k hk => (by cases hk)⟩, ?_, ?_, fun i hi => ?_⟩
 ·rw [Z27 (fun k hk => by cases hk)]; simp [Z21]
 ·rw [Zcr]; simp [szs, Th.sz]
 ·obtain ⟨k, hk, _⟩ := (Z35 h2).mp hi
  cases hk
theorem Zo2 {i : Nat} {h : Int} (hi : ((i : Nat) : Int) < h) : Zf0 h (hol i) := by
 refine ⟨Z66 i, ?_, ?_, fun j hj => ?_⟩
 ·unfold hol; rw [Z27 (fun k hk => by cases hk)]; simp [Z21]
 ·unfold hol; rw [Zcr]; simp [szs, Th.sz]
 ·unfold hol at hj
  rw [Z26, List.mem_singleton] at hj
  rw [hj]
  exact hi
section
variable {P : Program} {w : World} {K : PySem.W.Frag} {mg : Str -> Option Value} {base : Heap}
theorem Zk4 : FnScope ["_law_names_here", "_law_room", "_law_holes", "_law_astray"] ["_law_names_here", "_law_room", "_law_holes", "_law_astray"] (Z03 Z8x) := ⟨rfl, rfl, rfl, by decide +kernel, rfl, by decide +kernel, by decide +kernel⟩
theorem Zgy {f : Addr} {fd : FuncData} (F : Fun K "_law_world" "_law_world" Z8x f fd) : FnOk P w K mg base CX0 1 f fd ["_law_names_here", "_law_room", "_law_holes", "_law_astray"] spWorld := by
 refine F.ok Zk4 (fun vs H Q E h => ?_) (fun cdv A outer s H vs Q E hr h => ?_)
 ·obtain ⟨nm, r, h, s, rfl, _⟩ := h
  rfl
 ·obtain ⟨nm, r, h, s, rfl, k⟩ := h
  refine ⟨_, Z05 (Z0d (Zdo (Z2a Z0a (pv 0) (Z2a Z0a (pv 1) (Z2a Z0a (pv 2) (Z2a Z0a (pv 3) (Z2a Z0a (Z1h Z00) Zdn))))) rfl rfl (by intro z; cases z) (by decide))), ?_⟩
  intro wd hwd
  have sw := Z02 (o := .dK []) hwd
  refine ⟨_, rfl, _, rfl, _, rfl, _, rfl, Nat.zero_le _, fun bg hbg => ?_⟩
  have hbn : bg ≠ wd := fun z => by rw [z, Z01] at hbg; cases hbg
  have sb := Z02 (o := .lst []) hbg
  refine ⟨sb _ _ Z01, Z0u nm r h s bg, rfl, by show 5 <= 15; decide, ?_⟩
  have em : Z5h [] (Z0u nm r h s bg) = Z0u nm r h s bg := by with_unfolding_all rfl
  rw [em]
  refine k wd bg _ (fun b ob e => ?_) hwd (Z2x sw hbg) Z01 ?_
  ·rw [Z0g (Z0i e hwd)]
   exact sb _ _ (sw _ _ e)
  ·rw [Z0g hbn]
   exact Z01
theorem scLeaf : FnScope ["_law_feed_here", "_law_world_here", "_law_lets", "_law_way"] ["_law_feed_here", "_law_world_here", "_law_lets"] (Z03 Zec) := ⟨rfl, rfl, rfl, by decide +kernel, rfl, by decide +kernel, by decide +kernel⟩
theorem Zk5 {f fV fD fS : Addr} {fd dV dD dS : FuncData} (F : Fun K "_law_leaf" "_law_leaf" Zec f fd) (U : Helpers K mg fD fS dD dS) (FV : Fun K "_law_value" "_law_value" Z2y fV dV) (bV : Binds K dV ["_law_feed_here"] []) (mV : mg "_law_value" = some (.ref fV)) :
  FnOk P w K mg base CX0 3 f fd ["_law_feed_here", "_law_world_here", "_law_lets"] spLeaf := by
 have GD : FnOk P w K mg base CX0 1 fD dD ["_law_feed_here", "_law_many"] spDraw := Z4r U.D U.T
 have GV : FnOk P w K mg base CX0 2 fV dV ["_law_feed_here"] spValue := Zgv FV U
 refine F.ok scLeaf (fun vs H Q E h => ?_) (fun cdv A outer s H vs Q E hr h => ?_)
 ·obtain ⟨d, l, wd, nm, bg, ns, n, r, h, s, lt, T, rfl, _⟩ := h
  rfl
 ·obtain ⟨d, l, wd, nm, bg, ns, n, r, h, sa, lt, T, rfl, F0, hn, W0, N0, hh, hls, k⟩ := h
  have hsz : sizeLine = 16777216 := sizeLine_eq
  have hu : (_ : Around).units + 1 < cLine := Nat.lt_of_le_of_lt (Nat.add_le_add_left (by decide) _) hr.units
  have hr1 : Room 1 _ := hr.mono (by decide)
  have hr2 : Room 2 _ := hr.mono (by decide)
  refine' ⟨?tt, ?body, ?fin⟩
  case body =>
   refine' Z06 ?s1 ?r1
   case s1 => exact Z08 (i := 3) scLeaf.nd rfl (Or.inl rfl) (Z07 GD hr1 (by rfl) U.mD U.D.kp U.bD .nil Z0e (Z0k (pv 0) (Z1i Z04 Z00)))
   case r1 =>
    refine' Z0h ?s2 ?r2
    case s2 =>
     refine' Z0v ?c (Z05 ?b) Z0f
     case c => exact (Z5b (Z0b Zda (pv 3) Z04 (Z0l _)) (Z3j (Z0b Zfv (Z11 hu (pv 1) Z0a (fun _ _ => rfl)) Z04 (Z0l _)))).pt
     case b => exact Z0d (Z1g (Z1i Z0a (Z40 (Z07 GD hr1 (by rfl) U.mD U.D.kp U.bD .nil Z0e (Z0k (pv 0) (Z09 (Z11 hu (pv 1) Z0a (fun _ _ => rfl)) Z00))) Z00)))
    case r2 =>
     refine' Z0h ?s3 ?r3
     case s3 =>
      refine' Z0v ?c (Z05 ?b) Z0f
      case c => exact (Z5b (Z0b Z2f (pv 3) (Z1g (Z1i Z04 (Z1i Z04 Z00))) (by with_unfolding_all rfl)) (Z3j (Z0b Zfv (Z0o Z1l (pv 2) (Z11 hu (pv 1) Z0a (fun _ _ => rfl))) Z04 (Z0l _)))).pt
      case b => exact Z0d (Z1g (Z1i Z0a (Z40 (Z07 GD hr1 (by rfl) U.mD U.D.kp U.bD .nil Z0e (Z0k (pv 0) (Z09 (Z0o Z1l (pv 2) (Z11 hu (pv 1) Z0a (fun _ _ => rfl))) Z00))) Z00)))
     case r3 =>
      refine' Z06 ?s4 ?r4
      case s4 => exact Z0v (Z0b Z1f (pv 3) Z04 (Z0l _)) (Z05 (Z0d (Z1g (Z1i Z0a Z00)))) Z0f
      case r4 =>
       refine' Z06 ?s5 ?r5
       case s5 => exact Z0v (Z0b Z1f (pv 3) Z04 (Z0l _)) (Z05 (Z0d (Z1g (Z1i Z0a (Z40 (Z07 GV hr2 (by rfl) mV FV.kp bV .nil Z0e (Z0k (pv 0) Z00)) Z00))))) Z0f
       case r5 =>
        refine' Z05 ?s6
        case s6 =>
         refine' Z0d ?r
         case r =>
          refine' Z1g ?a
          case a =>
           refine' Z1i Z0a (Z09 ?x Z00)
           case x => exact Z10 Z1e (Z11 hu (pv 1) Z0a (fun _ _ => rfl)) (Z07 GD hr1 (by rfl) U.mD U.D.kp U.bD .nil Z0e (Z0k (pv 0) (Z40 (Z0c Z0j (by rfl) U.T.len PySem.boot_len (Z09 (Z11 hu (pv 1) Z0a (fun _ _ => rfl)) Z00)) Z00))) (fun _ _ => rfl)
  case fin =>
   have hne := Z7r F0 W0
   refine ⟨_, rfl, d, l, ns, n, _, rfl, F0, by omega, by decide, by decide, fun way n1 H1 w0 w1 hn1 F1 b1 => ?_⟩
   have W1 := b1 wd _ W0 hne
   have N1 := F0.lst b1 N0.a
   refine ⟨fun σ' H' => σ' = [some (.ref d), some (.ref wd), some (.int lt), some (.int way)] /\ H' = H1, ?_, ?_⟩
   ·refine ⟨_, rfl, _, _, rfl, rfl, _, rfl, Z16 (fun g => ?_) (fun g => Z3z ⟨rfl, rfl⟩)⟩
    refine ⟨_, rfl, wd, .int h, rfl, Z6x W1, _, _, rfl, rfl, _, rfl, Z16 (fun g2 => ?_) (fun g2 => ⟨rfl, rfl⟩)⟩
    have hpos : 0 < h := by simpa using g2
    refine ⟨_, rfl, _, rfl, wd, .int h, rfl, Z6x W1, d, l, ns, n1, h, rfl, F1, by omega, hpos, by omega, fun i n2 H2 i0 i1 hn2 F2 b2 => ⟨(by show 2 <= sizeLine; decide), fun p hp => ?_⟩⟩
    obtain ⟨j, rfl⟩ : ∃ j : Nat, i = (j : Nat) := ⟨i.toNat, by omega⟩
    exact k (.ref p) (hol j) n2 _ (Zeu Z01) (Zo2 i1) (by omega) (F2.same (Z02 hp)) ((b1.trans b2).trans (But.of (Z02 hp)))
   rintro σ2 H2 ⟨rfl, rfl⟩
   refine ⟨fun σ' H' => σ' = [some (.ref d), some (.ref wd), some (.int lt), some (.int way)] /\ Same H2 H', ?_, ?_⟩
   ·refine ⟨_, rfl, (by show 2 <= sizeLine; decide), fun e he => ?_⟩
    have se := Z02 (o := .tup [.int 2, .int 3]) he
    have W2 := se _ _ W1
    refine ⟨e, [.int 2, .int 3], rfl, .inr (SqT.of Z01), rfl, rfl, _, rfl, Z16 (fun g => ?_) (fun g => Z3z ⟨rfl, se⟩)⟩
    refine ⟨_, rfl, _, rfl, wd, .int sa, rfl, Z67 W2, _, _, rfl, rfl, _, _, rfl, rfl, _, rfl, Z16 (fun g2 => ?_) (fun g2 => ⟨rfl, se⟩)⟩
    have hpos : 0 < lt + sa := by simpa using g2
    refine ⟨_, rfl, _, rfl, _, rfl, wd, .int sa, rfl, Z67 W2, _, _, rfl, rfl, d, l, ns, n1, lt + sa, rfl, F1.same se, by omega, hpos, by omega, fun i n3 H3 i0 i1 hn3 F3 b3 => ⟨(by show 2 <= sizeLine; decide), fun p hp => ?_⟩⟩
    exact k (.ref p) (nd "own" [.int i] []) n3 _ (.tup Z01 (.cons (.at (by decide +kernel)) (.cons (.at rfl) .nil))) (Zk3 rfl (by decide +kernel) (by decide +kernel) (Zme i0 (by omega))) (by omega) (F3.same (Z02 hp)) (((b1.trans (But.of se)).trans b3).trans (But.of (Z02 hp)))
   rintro σ3 H3 ⟨rfl, s3⟩
   have W3 := s3 _ _ W1
   have N3 := s3 _ _ N1
   have F3 := F1.same s3
   have b3 := b1.trans (But.of (d := d) s3)
   refine ⟨_, rfl, rfl, _, rfl, Z16 (fun _ => ?_) (fun _ => ?_)⟩
   ·refine ⟨(by show 1 <= sizeLine; decide), fun p hp => ?_⟩
    exact k (.ref p) (nd "take" [] []) n1 _ (.tup Z01 (.cons (.at (by decide +kernel)) .nil)) (Zo1 (by decide +kernel) (by decide +kernel) ⟨by decide +kernel, fun z => absurd z (by decide +kernel)⟩) (by omega) (F3.same (Z02 hp)) (b3.trans (But.of (Z02 hp)))
   ·refine ⟨_, rfl, rfl, _, rfl, Z16 (fun _ => ?_) (fun _ => ?_)⟩
    ·refine ⟨_, rfl, d, l, ns, n1, rfl, F3, by omega, fun i n4 H4 i0 i1 hn4 F4 b4 => ⟨(by show 2 <= sizeLine; decide), fun p hp => ?_⟩⟩
     exact k (.ref p) (nd "num" [.int i] []) n4 _ (.tup Z01 (.cons (.at (by decide +kernel)) (.cons (.at rfl) .nil))) (Zk3 rfl (by decide +kernel) (by decide +kernel) (Zmf i0 i1)) (by omega) (F4.same (Z02 hp)) ((b3.trans b4).trans (But.of (Z02 hp)))
    ·have l1 := N0.l1
     have l2 := N0.l2
     have hl : ((T.map V.str).length : Int) = (T.length : Int) := by rw [List.length_map]
     refine ⟨_, rfl, wd, .ref nm, rfl, Z4v W3, _, rfl, _, rfl, wd, .ref nm, rfl, Z4v W3, nm, T.map V.str, rfl, .inl (SqL.of N3), d, l, ns, n1, _, rfl, F3, by omega, by show (0 : Int) < ((T.map V.str).length : Int); omega, by show ((T.map V.str).length : Int) < 18446744073709551616; omega, fun i n4 H4 i0 i1 hn4 F4 b4 => ?_⟩
     obtain ⟨v4, hv4, hat4⟩ := Z3p (xs := T.map V.str) (i := i) i0 i1
     obtain ⟨t4, ht4, rfl⟩ := List.mem_map.mp hv4
     have hN := N0.nm t4 ht4
     refine ⟨nm, T.map V.str, i, .str t4, rfl, rfl, SqL.of (F3.lst b4 N3), hat4, (by show 2 <= sizeLine; decide), fun p hp => ?_⟩
     exact k (.ref p) (nd "name" [.str t4] []) n4 _ (.tup Z01 (.cons (.at (by decide +kernel)) (.cons (.at (decide_eq_true (Nat.le_trans hN.1.1.2 (by decide)))) .nil))) (Zk3 rfl (by decide +kernel) (by decide +kernel) (Zk2 hN)) (by omega) (F4.same (Z02 hp)) ((b3.trans b4).trans (But.of (Z02 hp)))
end
theorem Zk6 (hd : List V) : szs (hd.map Th.at) = hd.length := by
 induction hd with
 | nil => simp [szs]
 | cons v hd ih => rw [List.map_cons, szs, ih, Th.sz, List.length_cons]; omega
theorem Zgz {n : Nat} (ih : ∀ {t : Th}, PfT n t -> Th.sz t <= 3 * cnt t) : ∀ {ks : List Th}, (∀ k ∈ ks, PfT n k) -> szs ks <= 3 * Z21 ks := by
 intro ks
 induction ks with
 | nil => intro _; simp [szs]
 | cons k ks h2 =>
  intro h
  have a := ih (h k (List.mem_cons_self ..))
  have b := h2 fun x hx => h x (List.mem_cons_of_mem _ hx)
  rw [szs, Z21]
  omega
theorem Zf1 : ∀ (n : Nat) {t : Th}, PfT n t -> Th.sz t <= 3 * cnt t := by
 intro n
 induction n with
 | zero => intro t h; exact h.elim
 | succ n ih =>
  intro t h
  obtain ⟨w, hd, ks, rfl, h1, h2, h3, h4, h5, h6⟩ := h
  have a := Zgz ih h6
  rw [Zcr, Zk6, Z27 fun k hk => (h6 k hk).isTup]
  omega
theorem Zk7 {σ : Nat -> Th} {n : Nat} (ih : ∀ {t : Th}, PfT n t -> (∀ i ∈ hs t, cnt (σ i) = 1) -> cnt (fl σ t) = cnt t) : ∀ {ks : List Th}, (∀ k ∈ ks, PfT n k) -> (∀ k ∈ ks, ∀ i ∈ hs k, cnt (σ i) = 1) -> Z21 (ks.map (fl σ)) = Z21 ks := by
 intro ks
 induction ks with
 | nil => intro _ _; rfl
 | cons k ks h2 =>
  intro h e
  rw [List.map_cons, Z21, Z21, ih (h k (List.mem_cons_self ..)) (e k (List.mem_cons_self ..)), h2 (fun x hx => h x (List.mem_cons_of_mem _ hx)) fun x hx => e x (List.mem_cons_of_mem _ hx)]
theorem Zi7 {σ : Nat -> Th} (hσ : Tps σ) : ∀ (n : Nat) {t : Th}, PfT n t -> (∀ i ∈ hs t, cnt (σ i) = 1) -> cnt (fl σ t) = cnt t := by
 intro n
 induction n with
 | zero => intro t h; exact h.elim
 | succ n ih =>
  intro t h e
  obtain ⟨w, hd, ks, rfl, h1, h2, h3, h4, h5, h6⟩ := h
  by_cases hw : w = "hole"
  ·subst hw
   obtain ⟨i, rfl, rfl⟩ := h4 rfl
   rw [Z34, e i (by rw [Z26]; exact List.mem_singleton.mpr rfl), Z27 (fun k hk => by cases hk)]
   simp [Z21]
  ·rw [Z94 hw, Z27 fun k hk => (h6 k hk).isTup, Z27 fun k hk => ?_, Zk7 ih h6 fun k hk i hi => e i ((Z35 hw).mpr ⟨k, hk, hi⟩)]
   obtain ⟨y, hy, rfl⟩ := List.mem_map.mp hk
   exact Zm5 hσ (h6 y hy)
theorem Z68 (i j : Nat) : j ∈ hs (hol i) ↔ j = i := by
 unfold hol
 rw [Z26, List.mem_singleton]
theorem Z9z {n : Nat} {t : Th} {S : List Nat} (h : PfT n t) (nd : S.Nodup) (h1 : ∀ i ∈ hs t, i ∈ S) (h2 : ∀ i ∈ S, i ∈ hs t) (j : Nat) : j ∈ hs (fl (ix S) t) ↔ j < S.length := by
 rw [Zmd n h]
 unfold ix
 constructor
 ·rintro ⟨i, hi, hj⟩
  rw [(Z68 _ _).mp hj]
  exact List.idxOf_lt_length_iff.mpr (h1 i hi)
 ·intro hj
  refine ⟨S[j], h2 _ (List.getElem_mem hj), (Z68 _ _).mpr ?_⟩
  have e1 : S.idxOf S[j] < S.length := List.idxOf_lt_length_iff.mpr (List.getElem_mem hj)
  have e2 : S[S.idxOf S[j]] = S[j] := List.getElem_idxOf e1
  exact ((List.getElem_inj nd).mp e2).symm
theorem Z96 {n m : Nat} {t : Th} (h : PfT n t) (hh : ∀ i, i ∈ hs t ↔ i < m) (j : Nat) : j ∈ hs (fl (fun i => hol (m - 1 - i)) t) ↔ j < m := by
 rw [Zmd n h]
 constructor
 ·rintro ⟨i, hi, hj⟩
  have h1 := (hh i).mp hi
  have h2 := (Z68 _ _).mp hj
  omega
 ·intro hj
  exact ⟨m - 1 - j, (hh _).mpr (by omega), (Z68 _ _).mpr (by omega)⟩
def But2 (d e : Addr) (H H' : Hp) : Prop := ∀ b o, H b = some o -> b ≠ d -> b ≠ e -> H' b = some o
theorem But2.refl (d e : Addr) (H : Hp) : But2 d e H H := fun _ _ h _ _ => h
theorem But2.trans {d e : Addr} {H H1 H2 : Hp} (a : But2 d e H H1) (b : But2 d e H1 H2) : But2 d e H H2 := fun c o h n m => b c o (a c o h n m) n m
theorem But2.of {d e : Addr} {H H1 : Hp} (a : But d H H1) : But2 d e H H1 := fun c o h n _ => a c o h n
theorem But2.same {d e : Addr} {H H1 : Hp} (a : Same H H1) : But2 d e H H1 := fun c o h _ _ => a c o h
theorem But2.upd {d e : Addr} {H : Hp} {o : HO} : But2 d e H (upd H e o) := fun c u h _ n => by rw [Z0g n]; exact h
structure Bag (H : Hp) (bg : Addr) (B : Nat) (ts : List Th) : Prop where
 l : ∃ ws, H bg = some (.lst ws) /\ IsThs H ws ts
 few : ts.length <= 100
 ok : ∀ t ∈ ts, PfT B t /\ cnt t <= 1000
structure Cf (H H' : Hp) (d l wd nm bg : Addr) (ns : List Int) (n : Nat) (r h s : Int) (T : List Str) (B : Nat) (ts : List Th) : Prop where
 F : Feed H' d l ns n
 W : H' wd = some (.dK (Z0u nm r h s bg))
 N : Nms H' nm T
 G : Bag H' bg B ts
 b2 : But2 d wd H H'
section
variable {H H1 H2 : Hp} {d l wd nm bg : Addr} {ns : List Int} {n n2 : Nat} {r r2 h s : Int} {T : List Str} {B : Nat} {ts : List Th}
theorem Cf.kp (C : Cf H H1 d l wd nm bg ns n r h s T B ts) (b : But2 d wd H1 H2) : Kp H1 H2 := by
 obtain ⟨⟨⟨z, hd⟩, _, _⟩, W, _⟩ := C
 intro a o h hk
 exact b a o h (fun q => by subst q; rw [hd] at h; cases h; exact hk _ rfl) (fun q => by subst q; rw [W] at h; cases h; exact hk _ rfl)
theorem Nms.kp (N : Nms H1 nm T) (k : Kp H1 H2) : Nms H2 nm T := ⟨k _ _ N.a (by intro kvs q; cases q), N.l1, N.l2, N.nm⟩
theorem Bag.kp (G : Bag H1 bg B ts) (k : Kp H1 H2) : Bag H2 bg B ts := by
 obtain ⟨⟨ws, a, b⟩, c, d⟩ := G
 exact ⟨⟨ws, k _ _ a (by intro kvs q; cases q), IsThs.kp k b⟩, c, d⟩
theorem Cf.go (C : Cf H H1 d l wd nm bg ns n r h s T B ts) (b : But2 d wd H1 H2) (F2 : Feed H2 d l ns n2) (W2 : H2 wd = some (.dK (Z0u nm r2 h s bg))) : Cf H H2 d l wd nm bg ns n2 r2 h s T B ts :=
 ⟨F2, W2, C.N.kp (C.kp b), C.G.kp (C.kp b), C.b2.trans b⟩
theorem Cf.draw (C : Cf H H1 d l wd nm bg ns n r h s T B ts) (b : But d H1 H2) (F2 : Feed H2 d l ns n2) : Cf H H2 d l wd nm bg ns n2 r h s T B ts := C.go (But2.of b) F2 (b wd _ C.W (Z7r C.F C.W))
theorem Cf.same (C : Cf H H1 d l wd nm bg ns n r h s T B ts) (e : Same H1 H2) : Cf H H2 d l wd nm bg ns n r h s T B ts := C.go (But2.same e) (C.F.same e) (e _ _ C.W)
theorem Cf.room (C : Cf H H1 d l wd nm bg ns n r h s T B ts) : Cf H (upd H1 wd (.dK (Z0u nm r2 h s bg))) d l wd nm bg ns n r2 h s T B ts := by
 have hne := Z7r C.F C.W
 refine C.go But2.upd ?_ Z01
 obtain ⟨⟨z, hd⟩, hl, hs⟩ := C.F
 refine ⟨⟨z, by rw [Z0g hne.symm]; exact hd⟩, ?_, hs⟩
 rw [Z0g (Z3i hl C.W (by intro q; cases q))]
 exact hl
end
def cD : Nat -> Nat
 | 0 => 0
 | N + 1 => 30 + 6 * cD N
def Rm (N : Nat) (r r' : Int) (c : Nat) : Prop := (c : Int) + r' <= r /\ (r <= 1 -> r - 1 <= r') /\ (2 <= r -> 1 - 6 * (N : Int) <= r')
def Zi8 (B N : Nat) : Sp := fun vs H Q _ => ∃ (d l wd nm bg : Addr) (ns : List Int) (n : Nat) (r h s lt bb : Int) (T : List Str) (ts : List Th), vs = [.ref d, .ref wd, .int lt, .int bb] /\ Cf H H d l wd nm bg ns n r h s T B ts /\ n + cD N <= 700000000000 /\ h <= 1000 /\ 0 <= lt /\ 0 <= s /\ lt + s + N <= 60 /\ 1 <= bb /\ bb <= N /\ N <= 10 ∧
 ∀ (v : V) (t : Th) n' r' H', IsTh H' v t -> PfT (N + B) t -> Rm N r r' (cnt t) -> (ts = [] -> ∀ i ∈ hs t, ((i : Nat) : Int) < h) -> n' <= n + cD N -> Cf H H' d l wd nm bg ns n' r' h s T B ts -> Q v H'
def kinds12 : List Str := ["op", "do", "let", "call", "pick", "set", "again", "say", "op", "let", "leaf", "bag"]
theorem Zk8 : (["_law_below", "_law_feed_here", "_law_k", "_law_lets", "_law_world_here"] : List Str).Nodup := by decide +kernel
section
variable {P : Program} {w : World} {K : PySem.W.Frag} {mg : Str -> Option Value} {base : Heap}
theorem scForm : FnScope ["_law_feed_here", "_law_world_here", "_law_lets", "_law_below", "_law_kinds", "_law_kind", "_law_found", "_law_names_here", "_law_first", "_law_head", "_law_many"] ["_law_feed_here", "_law_world_here", "_law_lets", "_law_below"] (Z03 Z9p) := ⟨rfl, rfl, rfl, by decide +kernel, rfl, by decide +kernel, by decide +kernel⟩
end
end K15
namespace L2
open PySem PySem.Spec PyProof.Rows
theorem Zf2 {X : Cx} (hu : X.A.units < cLine) : OpR X (compareOp .NotEq) (fun x y H Q => ∃ a b xs, x = .ref a /\ y = .ref b /\ SqL X.K H a xs /\ SqL X.K H b [] /\ Q (.bl (!xs.isEmpty)) H) := by
 intro pins s σ H x y v u Q I rx ry h
 obtain ⟨a, b, xs, rfl, rfl, hx, hy, q⟩ := h
 cases rx
 cases ry
 obtain ⟨its, r, pl, hz⟩ := I.list hx
 obtain ⟨its2, r2, pl2, hz2⟩ := I.list hy
 have hl := r.length
 have hl2 := r2.length
 cases xs with
 | nil =>
  refine SeqAt.RcNeAt.lists (e := fun _ => true) pl.isList pl2.isList (by simp only [List.size_toArray]; simp at hl hl2; omega) hu (fun j h1 h2 => ?_) X.prog X.w _ _ ?_
  ·simp only [List.size_toArray] at h1
   simp at hl
   omega
  ·refine Z0s I q ?_
   rw [List.size_toArray, <- hl]
   rfl
 | cons z zs =>
  refine SeqAt.RcNeAt.lists_lengths pl.isList pl2.isList (by simp only [List.size_toArray, bne_iff_ne]; simp at hl hl2; omega) hu X.prog X.w _ _ ?_
  exact Z0s I q rfl
end L2
namespace K15
open PySem L2
section
variable {P : Program} {w : World} {K : PySem.W.Frag} {mg : Str -> Option Value} {base : Heap}
abbrev Ws0 : List Str := ["say"]
abbrev Ws1 : List Str := "op" :: Ws0
abbrev Ws2 : List Str := "pick" :: Ws1
abbrev Ws3 : List Str := "do" :: Ws2
abbrev Ws4 : List Str := "call" :: Ws3
abbrev Ws5 : List Str := "set" :: Ws4
abbrev Ws6 : List Str := "again" :: Ws5
def HL (L : List Str) (kd : Str) (hd : List V) (mn : Int) : Prop := hd.length <= 1 /\ (kd ∈ L -> shB kd hd mn.toNat = true) /\ (kd ∉ L -> hd = [] /\ mn = 1)
theorem HL.no {L : List Str} {kd x : Str} {hd : List V} {mn : Int} (h : HL L kd hd mn) (g : ¬ decide (V.str kd = V.str x) = true) : HL (x :: L) kd hd mn :=
 ⟨h.1, fun z => h.2.1 ((List.mem_cons.mp z).resolve_left fun q => g (by rw [q]; exact decide_eq_true rfl)), fun z => h.2.2 fun q => z (List.mem_cons_of_mem _ q)⟩
theorem HL.yes {L : List Str} {kd : Str} {hd : List V} {mn : Int} (h1 : hd.length <= 1) (h2 : shB kd hd mn.toNat = true) : HL (kd :: L) kd hd mn := ⟨h1, fun _ => h2, fun z => absurd (List.mem_cons_self ..) z⟩
theorem HL.init (kd : Str) : HL Ws0 kd [] 1 := ⟨Nat.zero_le _, fun z => by rw [List.mem_singleton.mp z]; decide +kernel, fun _ => ⟨rfl, rfl⟩⟩
theorem HL.only {L : List Str} {kd x : Str} {hd : List V} {mn mn' : Int} (h : HL L kd hd mn) (g : decide (V.str kd = V.str x) = true) (hx : x ∉ L) (hs : shB x [] mn'.toNat = true) : HL (x :: L) kd hd mn' := by
 have e := of_decide_eq_true g
 injection e with e
 subst e
 have e2 := (h.2.2 hx).1
 exact HL.yes h.1 (by rw [e2]; exact hs)
theorem Zo3 : ∀ c ∈ ("+-*/<=" : Str).cps.toList, shB "op" [.str ⟨#[c]⟩] (2 : Int).toNat = true := by decide +kernel
theorem Zk9 {t : Str} {z : Int} (h : NmW t) (hz : z <= 6) : shB "call" [.str t] z.toNat = true := Z6y (k := .call) (by decide +kernel) rfl (Z9y h) (Nat.zero_le _) (by omega)
theorem Zmg {t : Str} (h : NmW t) : shB "set" [.str t] (1 : Int).toNat = true := Z6y (k := .sett) (by decide +kernel) rfl (Z9y h) (Nat.le_refl _) (Nat.le_refl _)
theorem Zh0 {i : Int} (h0 : 0 <= i) (h1 : i <= 5) : shB "again" [.int i] (1 : Int).toNat = true := Z6y (k := .again) (by decide +kernel) rfl (Zi6 h0 h1) (Nat.le_refl _) (Nat.le_refl _)
theorem Zo4 {kd : Str} (g : ¬ inV (.str kd) [.str "leaf", .str "bag"] = true) : kd ≠ "leaf" /\ kd ≠ "bag" := ⟨fun z => g (by rw [z]; decide +kernel), fun z => g (by rw [z]; decide +kernel)⟩
theorem Zo5 {kd : Str} (h : kd ∈ kinds12) (h1 : kd ≠ "let") (h2 : kd ≠ "leaf" /\ kd ≠ "bag") : kd ∈ Ws6 := by
 rcases (by decide +kernel : ∀ t ∈ kinds12, t = "let" ∨ t = "leaf" ∨ t = "bag" ∨ t ∈ Ws6) kd h with z | z | z | z
 ·exact absurd z h1
 ·exact absurd z h2.1
 ·exact absurd z h2.2
 ·exact z
def MC (H : Hp) (d l wd nm bg e : Addr) (ns : List Int) (n : Nat) (r h sa lt bb : Int) (T : List Str) (B : Nat) (ts : List Th) (kd : Str) (o6 : Option V) (j : Nat) (L : List Str) : St -> Hp -> Prop := fun σ' H' => ∃ (ha : Addr) (hd : List V) (mn : Int) (n' : Nat),
 σ' = [some (.ref d), some (.ref wd), some (.int lt), some (.int bb), some (.ref e), some (.str kd), o6, some (.ref nm), none, some (.ref ha), some (.int mn)] /\ H' ha = some (.lst (.str kd :: hd)) /\ HL L kd hd mn /\ (∀ v ∈ hd, plT (.at v) = true /\ smallV v = true) /\ 0 <= mn /\ mn <= 6 /\ n' <= n + j /\ Cf H H' d l wd nm bg ns n' r h sa T B ts
theorem Zka {f fD fS fL fN : Addr} {fd dD dS dL dN : FuncData} (F : Fun K "_law_form" "_law_form" Z9p f fd) (b : Binds K fd ["_law_feed_here", "_law_world_here", "_law_lets", "_law_below"] []) (m : mg "_law_form" = some (.ref f)) (U : Helpers K mg fD fS dD dS) (T0 : TxtT mg)
  (GL : FnOk P w K mg base CX0 3 fL dL ["_law_feed_here", "_law_world_here", "_law_lets"] spLeaf) (FL : Fun K "_law_leaf" "_law_leaf" Zec fL dL) (bL : Binds K dL ["_law_feed_here", "_law_world_here", "_law_lets"] []) (mL : mg "_law_leaf" = some (.ref fL))
  (GN : ∀ N, FnOk P w K mg base CX0 (N + 2) fN dN ["_law_e"] (Z7o N)) (FN : Fun K "_law_nodes" "_law_nodes" Z50 fN dN) (bN : Binds K dN ["_law_e"] []) (mN : mg "_law_nodes" = some (.ref fN)) (B : Nat) : ∀ N, FnOk P w K mg base CX0 (N + B + 4) f fd ["_law_feed_here", "_law_world_here", "_law_lets", "_law_below"] (Zi8 B N) := by
 have GD : FnOk P w K mg base CX0 1 fD dD ["_law_feed_here", "_law_many"] spDraw := Z4r U.D U.T
 intro N
 induction N with
 | zero =>
  refine F.ok scForm (fun vs H Q E h => ?_) (fun cdv A outer s H vs Q E hr h => ?_)
  ·obtain ⟨d, l, wd, nm, bg, ns, n, r, h, s, lt, bb, T, ts, rfl, _⟩ := h
   rfl
  ·obtain ⟨d, l, wd, nm, bg, ns, n, r, h, s, lt, bb, T, ts, rfl, _, _, _, _, _, _, h1, h2, _⟩ := h
   exact absurd h2 (by omega)
 | succ N ih =>
  refine F.ok scForm (fun vs H Q E h => ?_) (fun cdv A outer s H vs Q E hr h => ?_)
  ·obtain ⟨d, l, wd, nm, bg, ns, n, r, h, s, lt, bb, T, ts, rfl, _⟩ := h
   rfl
  ·obtain ⟨d, l, wd, nm, bg, ns, n, r, h, sa, lt, bb, T, ts, rfl, C0, hn, hh, hlt0, hs0, hls, hb1, hbN, hN10, k⟩ := h
   have hsz : sizeLine = 16777216 := sizeLine_eq
   have hu : (_ : Around).units + 1 < cLine := Nat.lt_of_le_of_lt (Nat.add_le_add_left (by decide) _) hr.units
   have hu0 := hr.units0
   have hr1 : Room 1 _ := hr.mono (by omega)
   have hr3 : Room 3 _ := hr.mono (by omega)
   have hrB : Room (B + 2) _ := hr.mono (by omega)
   have hrN : Room (N + B + 4) _ := hr.mono (by omega)
   refine' ⟨?tt, ?body, ?fin⟩
   case body =>
    refine' Z06 ?s1 ?r1
    case s1 => exact Z5g hu (pv 1) Z0a (Z0o Z2n (Z11 hu (pv 1) Z0a (fun _ _ => rfl)) Z04) rfl
    case r1 =>
     refine' Z06 ?s2 ?r2
     case s2 =>
      refine' Zjx (i := 4) ?ha ?hb ?hc ?hd ?he ?hf
      case ha => exact scForm.nd
      case hb => exact rfl
      case hc => exact (Or.inl rfl)
      case he => exact rfl
      case hf => exact (.inr rfl)
      case hd =>
       refine' @Z41 ((Zip CX0 P w K mg base ["_law_feed_here", "_law_world_here", "_law_lets", "_law_below", "_law_kinds", "_law_kind", "_law_found", "_law_names_here", "_law_first", "_law_head", "_law_many"] "_law_form" (Z03 Z9p) f cdv A outer s H E).nox) _ (kinds12.map V.str) ?q
       case q => decide +kernel
     case r2 =>
      refine' Z0h ?s3 ?r3
      case s3 => exact Z08 (i := 5) scForm.nd rfl (Or.inl rfl) (Z10 Z1e (pv 4) (Z07 GD hr1 (by rfl) U.mD U.D.kp U.bD .nil Z0e (Z0k (pv 0) (Z1i Z04 Z00))) (fun _ _ => rfl))
      case r3 =>
       refine' Z0h ?s4 ?r4
       case s4 =>
        refine' Z0v ?c (Z06 ?e1 (Z05 ?e2)) Z0f
        case c => exact (Z5b (Z0b Z1f (pv 5) Z0a (Z0l _)) (Z3j (Z0b (Zf2 hu0) (Z11 hu (pv 1) Z0a (fun _ _ => rfl)) (Z1h Z00) (Z0l _)))).pt
        case e1 => exact Z08 (i := 6) scForm.nd rfl (Or.inl rfl) (Z10 Z1e (Z11 hu (pv 1) Z0a (fun _ _ => rfl)) (Z07 GD hr1 (by rfl) U.mD U.D.kp U.bD .nil Z0e (Z0k (pv 0) (Z40 (Z0c Z0j (by rfl) U.T.len PySem.boot_len (Z09 (Z11 hu (pv 1) Z0a (fun _ _ => rfl)) Z00)) Z00))) (fun _ _ => rfl))
        case e2 =>
         refine' Z0v ?c2 (Z06 ?e3 (Z05 ?e4)) Z0f
         case c2 => exact (Z5b (Z0b Zfv (pv 3) Z04 (Z0l _)) (Z3j (Z0b Z6c (Z07 (GN B) hrB (by rfl) mN FN.kp bN .nil Z0e (Z0k (pv 6) Z00)) (Z11 hu (pv 1) Z0a (fun _ _ => rfl)) (Z0l _)))).pt
         case e3 => exact Z5g hu (pv 1) Z0a (Z0o Z2n (Z11 hu (pv 1) Z0a (fun _ _ => rfl)) (Z07 (GN B) hrB (by rfl) mN FN.kp bN .nil Z0e (Z0k (pv 6) Z00))) rfl
         case e4 => exact Z0d (pv 6)
       case r4 =>
        refine' Z0h ?s5 ?r5
        case s5 =>
         refine' Z0v ?c (Z05 ?e) Z0f
         case c => exact (Z4d (Z0b Zda (pv 3) Z04 (Z0l _)) (Z4d (Z0b Zda (Z11 hu (pv 1) Z0a (fun _ _ => rfl)) Z04 (Z0l _)) (Z3t (Z0b Z2f (pv 5) (Z1g (Z1i Z0a (Z1i Z0a Z00))) (by with_unfolding_all rfl))))).pt
         case e => exact Z0d (Z07 GL hr3 (by rfl) mL FL.kp bL .nil Z0e (Z0k (pv 0) (Z0k (pv 1) (Z0k (pv 2) Z00))))
        case r5 =>
         refine' Z06 ?s6 ?r6
         case s6 => exact Z08 (i := 7) scForm.nd rfl (Or.inl rfl) (Z11 hu (pv 1) Z0a (fun _ _ => rfl))
         case r6 =>
          refine' Z06 ?s7 ?r7
          case s7 =>
           refine' Z0v ?c (Z06 ?e1 (Z05 ?e2)) Z0f
           case c => exact Z0b Z1f (pv 5) Z0a (Z0l _)
           case e1 => exact Z08 (i := 8) scForm.nd rfl (Or.inl rfl) (Z07 ih hrN (by rfl) m F.kp b .nil Z0e (Z0k (pv 0) (Z0k (pv 1) (Z0k (pv 2) (Z09 (Z0o Z2n (pv 3) Z04) Z00)))))
           case e2 => exact Z0d (Z1g (Z1i Z0a (Z0k (pv 8) (Z40 (Z07 ih hrN (by rfl) m F.kp b .nil Z0e (Z0k (pv 0) (Z0k (pv 1) (Z09 (Z0o Z1l (pv 2) Z04) (Z09 (Z0o Z2n (pv 3) Z04) Z00))))) Z00))))
          case r7 =>
           refine' Z06 ?s8 ?r8
           case s8 => exact Z08 (i := 9) scForm.nd rfl (Or.inl rfl) (Z1h (Z0k (pv 5) Z00))
           case r8 =>
            refine' Z0h ?s9 ?r9
            case s9 => exact Z08 (i := 10) scForm.nd rfl (Or.inl rfl) Z04
            case r9 =>
             refine' Z0h ?s10 ?r10
             case s10 =>
              refine' Z0v ?c (Z06 ?e1 (Z05 ?e2)) Z0f
              case c => exact Z0b Z1f (pv 5) Z0a (Z0l _)
              case e1 => exact Z08 (i := 9) scForm.nd rfl (Or.inl rfl) (Z1h (Z1i Z0a (Z09 (Z10 Zaf Z0a (Z07 GD hr1 (by rfl) U.mD U.D.kp U.bD .nil Z0e (Z0k (pv 0) (Z1i Z04 Z00))) (fun _ _ => rfl)) Z00)))
              case e2 => exact Z08 (i := 10) scForm.nd rfl (Or.inl rfl) Z04
             case r10 =>
              refine' Z0h ?s11 ?r11
              case s11 => exact Z0v (Z0b Z1f (pv 5) Z0a (Z0l _)) (Z05 (Z08 (i := 10) scForm.nd rfl (Or.inl rfl) Z04)) Z0f
              case r11 =>
               refine' Z0h ?s12 ?r12
               case s12 =>
                refine' Z0v ?c (Z05 ?e) Z0f
                case c => exact Z0b Z1f (pv 5) Z0a (Z0l _)
                case e => exact Z5m (i := 10) (vs := [.int 2, .int 1, .int 3, .int 2, .int 6, .int 4]) scForm.nd rfl (Or.inl rfl) ⟨_, _, _, _, _, rfl, by decide +kernel⟩ (Z07 GD hr1 (by rfl) U.mD U.D.kp U.bD .nil Z0e (Z0k (pv 0) (Z1i Z04 Z00))) (fun _ _ => rfl) (.inr rfl)
               case r12 =>
                refine' Z0h ?s13 ?r13
                case s13 =>
                 refine' Z0v ?c (Z06 ?e1 (Z05 ?e2)) Z0f
                 case c => exact Z0b Z1f (pv 5) Z0a (Z0l _)
                 case e1 => exact Z08 (i := 9) scForm.nd rfl (Or.inl rfl) (Z1h (Z1i Z0a (Z09 (Z10 Z1e (pv 7) (Z07 GD hr1 (by rfl) U.mD U.D.kp U.bD .nil Z0e (Z0k (pv 0) (Z40 (Z0c Z0j (by rfl) U.T.len PySem.boot_len (Z0k (pv 7) Z00)) Z00))) (fun _ _ => rfl)) Z00)))
                 case e2 => exact Z5m (i := 10) (vs := [.int 1, .int 0, .int 2, .int 3, .int 6, .int 1]) scForm.nd rfl (Or.inl rfl) ⟨_, _, _, _, _, rfl, by decide +kernel⟩ (Z07 GD hr1 (by rfl) U.mD U.D.kp U.bD .nil Z0e (Z0k (pv 0) (Z1i Z04 Z00))) (fun _ _ => rfl) (.inr rfl)
                case r13 =>
                 refine' Z0h ?s14 ?r14
                 case s14 =>
                  refine' Z0v ?c (Z05 ?e) Z0f
                  case c => exact Z0b Z1f (pv 5) Z0a (Z0l _)
                  case e => exact Z08 (i := 9) scForm.nd rfl (Or.inl rfl) (Z1h (Z1i Z0a (Z09 (Z10 Z1e (pv 7) (Z07 GD hr1 (by rfl) U.mD U.D.kp U.bD .nil Z0e (Z0k (pv 0) (Z40 (Z0c Z0j (by rfl) U.T.len PySem.boot_len (Z0k (pv 7) Z00)) Z00))) (fun _ _ => rfl)) Z00)))
                 case r14 =>
                  refine' Z0h ?s15 ?r15
                  case s15 =>
                   refine' Z0v ?c (Z05 ?e) Z0f
                   case c => exact Z0b Z1f (pv 5) Z0a (Z0l _)
                   case e => exact Z08 (i := 9) scForm.nd rfl (Or.inl rfl) (Z1h (Z1i Z0a (Z40 (Z07 GD hr1 (by rfl) U.mD U.D.kp U.bD .nil Z0e (Z0k (pv 0) (Z1i Z04 Z00))) Z00)))
                  case r15 =>
                   refine' Z05 ?s16
                   case s16 =>
                    refine' Z0d ?r
                    case r =>
                     refine' Z1m Z1n (by rfl) T0.tup (by decide +kernel) ?a
                     case a =>
                      refine' Z09 ?x Z00
                      case x =>
                       refine' Z0o Zah (pv 9) ?y
                       case y =>
                        refine' Z1s (N' := ["_law_below", "_law_feed_here", "_law_k", "_law_lets", "_law_world_here"]) (src := [some 3, some 0, none, some 2, some 1]) ?k1 ?k5 ?k6 ?k7
                        case k1 => rfl
                        case k5 => exact Z0p (Z03 Z9p) rfl ["_law_feed_here", "_law_world_here", "_law_lets", "_law_below", "_law_kinds", "_law_kind", "_law_found", "_law_names_here", "_law_first", "_law_head", "_law_many"] rfl (by decide +kernel)
                        case k6 => exact Z2s (by rfl) U.T.range (Z0k (pv 10) Z00)
                        case k7 => exact fun cl C ex s0 H0 => ⟨Z0t (i := 2) Zk8 rfl (Or.inl rfl), Z2u, Z07 ih hrN (by rfl) m F.kp b .nil Z0e (Z0k (pv 1) (Z0k (pv 4) (Z0k (pv 3) (Z09 (Z0o Z2n (pv 0) Z04) Z00))))⟩
   case fin =>
    have ec : cD (N + 1) = 30 + 6 * cD N := rfl
    refine ⟨_, rfl, wd, .int r, rfl, Z4c C0.W, _, _, rfl, rfl, _, rfl, wd, _, rfl, Z95 C0.W, ?_⟩
    have C1 := C0.room (r2 := r - 1)
    refine ⟨Z63 (by decide +kernel), fun e he => ?_⟩
    have C2 := C1.same (Z02 (o := .lst (kinds12.map V.str)) he)
    have E2 : upd (upd H wd (.dK (Z0u nm (r - 1) h sa bg))) e (.lst (kinds12.map V.str)) e = some (.lst (kinds12.map V.str)) := Z01
    generalize upd (upd H wd (.dK (Z0u nm (r - 1) h sa bg))) e (.lst (kinds12.map V.str)) = H2 at C2 E2 ⊢
    refine ⟨fun σ' H' => ∃ (kd : Str) (n' : Nat), σ' = [some (.ref d), some (.ref wd), some (.int lt), some (.int bb), some (.ref e), some (.str kd), none, none, none, none, none] /\ kd ∈ kinds12 /\ n' <= n + 1 /\ Cf H H' d l wd nm bg ns n' (r - 1) h sa T B ts, ?_, ?_⟩
    ·refine ⟨_, rfl, _, rfl, d, l, ns, n, _, rfl, C2.F, by omega, by decide, by decide, fun i n1 H3 i0 i1 hn1 F3 b3 => ?_⟩
     obtain ⟨v3, hv3, hat3⟩ := Z3p (xs := kinds12.map V.str) (i := i) i0 (Int.lt_of_lt_of_le i1 (by decide +kernel))
     obtain ⟨kd, hk, rfl⟩ := List.mem_map.mp hv3
     exact ⟨e, kinds12.map V.str, i, .str kd, rfl, rfl, SqL.of (C2.F.lst b3 E2), hat3, kd, n1, rfl, hk, by omega, C2.draw b3 F3⟩
    rintro σ3 H3 ⟨kd, n3, rfl, hkd, hn3, C3⟩
    refine ⟨fun σ' H' => ∃ (o6 : Option V) (n' : Nat) (r' : Int), σ' = [some (.ref d), some (.ref wd), some (.int lt), some (.int bb), some (.ref e), some (.str kd), o6, none, none, none, none] /\ n' <= n + 2 /\ r' = r - 1 /\ Cf H H' d l wd nm bg ns n' r' h sa T B ts, ?_, ?_⟩
    ·refine ⟨_, rfl, rfl, _, rfl, Z16 (fun g => ?_) (fun g => Z3z ⟨none, n3, _, rfl, by omega, rfl, C3⟩)⟩
     obtain ⟨⟨ws, hbg, hws⟩, hfew, hok⟩ := C3.G
     refine ⟨_, rfl, wd, .ref bg, rfl, Z7q C3.W, Nat.zero_le _, fun q hq => ?_⟩
     have sq := Z02 (o := .lst []) hq
     have C4 := C3.same sq
     have hbg4 := sq _ _ hbg
     have hws4 := IsThs.kp (Kp.of sq) hws
     refine ⟨bg, q, ws, rfl, rfl, SqL.of hbg4, SqL.of Z01, _, rfl, Z16 (fun g2 => ?_) (fun g2 => ⟨none, n3, _, rfl, by omega, rfl, C4⟩)⟩
     have hwl := IsThs.len _ hws
     have hpos : 0 < ws.length := by
      cases ws with
      | nil => exact absurd g2 (by decide)
      | cons _ _ => exact Nat.succ_pos _
     refine ⟨_, rfl, wd, .ref bg, rfl, Z7q C4.W, _, rfl, _, rfl, wd, .ref bg, rfl, Z7q C4.W, bg, ws, rfl, .inl (SqL.of hbg4), d, l, ns, n3, _, rfl, C4.F, by omega, by show (0 : Int) < (ws.length : Int); omega, by show (ws.length : Int) < 18446744073709551616; omega, fun i n5 H5 i0 i1 hn5 F5 b5 => ?_⟩
     have C5 := C4.draw b5 F5
     have hbg5 := C4.F.lst b5 hbg4
     have hws5 := IsThs.kp (C4.kp (But2.of b5)) hws4
     obtain ⟨x, hx, hat5⟩ := Z3p (xs := ws) (i := i) i0 i1
     obtain ⟨j, hj⟩ := List.getElem?_of_mem hx
     obtain ⟨t, htj, hxt⟩ := Z17 _ hws5 hj
     obtain ⟨tp, tc⟩ := hok t (List.mem_of_getElem? htj)
     refine ⟨bg, ws, i, x, rfl, rfl, SqL.of hbg5, hat5, ?_⟩
     refine ⟨_, rfl, _, _, rfl, rfl, _, rfl, Z16 (fun g3 => ?_) (fun g3 => Z3z ⟨some x, n5, _, rfl, by omega, rfl, C5⟩)⟩
     refine ⟨_, rfl, x, t, rfl, hxt, tp, fun H6 s6 => ?_⟩
     have C6 := C5.same s6
     refine ⟨_, rfl, wd, .int _, rfl, Z4c C6.W, _, _, rfl, rfl, _, rfl, Z16 (fun g4 => ?_) (fun g4 => ⟨some x, n5, _, rfl, by omega, rfl, C6⟩)⟩
     refine ⟨_, rfl, wd, .int _, rfl, Z4c C6.W, _, rfl, x, t, rfl, IsTh.kp (Kp.of s6) hxt, tp, fun H7 s7 => ?_⟩
     have C7 := C6.same s7
     refine ⟨_, _, rfl, rfl, _, rfl, wd, _, rfl, Z95 C7.W, _, rfl, ?_⟩
     have g5 : (cnt t : Int) <= r - 1 := by simpa using g4
     have c1 := Zeq tp
     refine k x t n5 _ _ (IsTh.kp (Znv C7.W) (IsTh.kp (Kp.of (s6.trans s7)) hxt)) (tp.le (by omega)) ⟨by omega, by omega, by omega⟩ (fun z => by rw [z] at htj; simp at htj) (by omega) C7.room
    rintro σ4 H4 ⟨o6, n4, r4, rfl, hn4, hr4, C4⟩
    have fin5 : ∀ H5, Cf H H5 d l wd nm bg ns n4 r4 h sa T B ts -> ∀ (v : V) (t : Th) n' H', IsTh H' v t -> Zf0 h t -> n' <= n4 + 5 -> Feed H' d l ns n' -> But d H5 H' -> Q v H' := by
     intro H5 C5 v t n' H' hv ht hn' F' b'
     exact k v t n' r4 H' hv (ht.1.le (by omega)) ⟨by rw [ht.2.1]; omega, by omega, by omega⟩ (fun _ => ht.2.2.2) (by omega) (C5.draw b' F')
    refine ⟨fun σ' H' => σ' = [some (.ref d), some (.ref wd), some (.int lt), some (.int bb), some (.ref e), some (.str kd), o6, none, none, none, none] /\ 2 <= bb /\ (kd ≠ "leaf" /\ kd ≠ "bag") /\ 1 <= r4 /\ Cf H H' d l wd nm bg ns n4 r4 h sa T B ts, ?_, ?_⟩
    ·refine ⟨_, rfl, _, _, rfl, rfl, _, rfl, Z16 (fun g => Z4y ?_) (fun g => ?_)⟩
     ·exact ⟨_, rfl, _, rfl, _, rfl, d, l, wd, nm, bg, ns, n4, r4, h, sa, lt, T, rfl, C4.F, by omega, C4.W, C4.N, hh, by omega, fin5 _ C4⟩
     have hb2 : 2 <= bb := by
      have : ¬ bb < 2 := fun z => g (by simpa using z)
      omega
     refine ⟨_, rfl, wd, .int r4, rfl, Z4c C4.W, _, _, rfl, rfl, _, rfl, Z16 (fun g2 => Z4y ?_) (fun g2 => ?_)⟩
     ·exact ⟨_, rfl, _, rfl, _, rfl, d, l, wd, nm, bg, ns, n4, r4, h, sa, lt, T, rfl, C4.F, by omega, C4.W, C4.N, hh, by omega, fin5 _ C4⟩
     have h41 : 1 <= r4 := by
      have : ¬ r4 < 6 := fun z => g2 (by simpa using z)
      omega
     refine ⟨_, rfl, (by show 2 <= sizeLine; decide), fun q hq => ?_⟩
     have C5 := C4.same (Z02 (o := .tup [.str "leaf", .str "bag"]) hq)
     refine ⟨q, [.str "leaf", .str "bag"], rfl, .inr (SqT.of Z01), rfl, rfl, _, rfl, Z16 (fun g3 => ?_) (fun g3 => ⟨rfl, hb2, Zo4 g3, h41, C5⟩)⟩
     exact ⟨_, rfl, _, rfl, _, rfl, d, l, wd, nm, bg, ns, n4, r4, h, sa, lt, T, rfl, C5.F, by omega, C5.W, C5.N, hh, by omega, fin5 _ C5⟩
    rintro σ5 H5 ⟨rfl, hb2, hlb, h41, C5⟩
    refine ⟨_, rfl, wd, .ref nm, rfl, Z4v C5.W, ?_⟩
    refine ⟨_, rfl, rfl, _, rfl, Z16 (fun g => ?_) (fun g => ?_)⟩
    ·refine ⟨_, rfl, _, rfl, _, rfl, _, rfl, _, _, rfl, rfl, d, l, wd, nm, bg, ns, n4, r4, h, sa, lt, bb - 1, T, ts, rfl, ⟨C5.F, C5.W, C5.N, C5.G, But2.refl _ _ _⟩, by omega, hh, hlt0, hs0, by omega, by omega, by omega, by omega, fun v6 t6 n6 r6 H6 hv6 pf6 cn6 hs6 hn6 C6' => ?_⟩
     have C6 := C5.go C6'.b2 C6'.F C6'.W
     refine ⟨_, rfl, _, rfl, _, rfl, _, rfl, _, _, rfl, rfl, _, rfl, _, _, rfl, rfl, d, l, wd, nm, bg, ns, n6, r6, h, sa, lt + 1, bb - 1, T, ts, rfl, ⟨C6.F, C6.W, C6.N, C6.G, But2.refl _ _ _⟩, by omega, hh, by omega, hs0, by omega, by omega, by omega, by omega, fun v7 t7 n7 r7 H7 hv7 pf7 cn7 hs7 hn7 C7' => ⟨(by show 3 <= sizeLine; decide), fun p hp => ?_⟩⟩
     have C7 := C6.go C7'.b2 C7'.F C7'.W
     have sp := Z02 (o := .tup [.str "let", v6, v7]) hp
     have hv67 := IsTh.kp (C6.kp C7'.b2) hv6
     have nk : ∀ k ∈ [t6, t7], L2.isTup k = true := fun k hk => by
      simp only [List.mem_cons, List.not_mem_nil, or_false] at hk
      rcases hk with rfl | rfl
      ·exact pf6.isTup
      ·exact pf7.isTup
     refine k (.ref p) (nd "let" [] [t6, t7]) n7 r7 _ (.tup Z01 (.cons (.at (by decide +kernel)) (.cons (IsTh.kp (Kp.of sp) hv67) (.cons (IsTh.kp (Kp.of sp) hv7) .nil)))) ?_ ?_ ?_ (by omega) (C7.same sp)
     ·rw [Nat.add_right_comm]
      refine ⟨"let", [], [t6, t7], rfl, Nat.zero_le _, fun v hv => (by cases hv), fun _ => ⟨rfl, rfl⟩, fun z => absurd z (by decide +kernel), ⟨by show 2 <= 6; decide, (by show shB "let" [] 2 = true; decide +kernel), fun z => absurd z (by decide +kernel)⟩, fun k hk => ?_⟩
      simp only [List.mem_cons, List.not_mem_nil, or_false] at hk
      rcases hk with rfl | rfl
      ·exact pf6
      ·exact pf7
     ·rw [Z27 nk]
      simp only [Z21]
      obtain ⟨c6a, c6b, c6c⟩ := cn6
      obtain ⟨c7a, c7b, c7c⟩ := cn7
      exact ⟨by omega, by omega, by omega⟩
     ·intro z0 i hi
      obtain ⟨k, hk, hj⟩ := (Z35 (by decide +kernel)).mp hi
      simp only [List.mem_cons, List.not_mem_nil, or_false] at hk
      rcases hk with rfl | rfl
      ·exact hs6 z0 i hj
      ·exact hs7 z0 i hj
    ·have hkl : kd ≠ "let" := fun z => g (by rw [z]; decide +kernel)
     have hkh : kd ≠ "hole" := fun z => by rw [z] at hkd; exact absurd hkd (by decide +kernel)
     refine ⟨_, rfl, (by show 1 <= sizeLine; decide), fun ha hha => ?_⟩
     have C6a := C5.same (Z02 (o := .lst [.str kd]) hha)
     refine ⟨MC H d l wd nm bg e ns n4 r4 h sa lt bb T B ts kd o6 0 Ws0, ⟨ha, [], 1, n4, rfl, Z01, HL.init kd, fun v hv => (by cases hv), by decide, by decide, Nat.le_refl _, C6a⟩, ?_⟩
     rintro σ6 H6 ⟨ha6, hd6, mn6, n6, rfl, A6, hl6, hp6, m60, m61, hn6, C6⟩
     refine ⟨MC H d l wd nm bg e ns n4 r4 h sa lt bb T B ts kd o6 1 Ws1, ?_, ?_⟩
     ·refine ⟨_, rfl, rfl, _, rfl, Z16 (fun g2 => ?_) (fun g2 => ⟨ha6, hd6, mn6, n6, rfl, A6, hl6.no g2, hp6, m60, m61, by omega, C6⟩)⟩
      have ek : kd = "op" := by
       have g' := of_decide_eq_true g2
       injection g'
      subst ek
      refine ⟨_, rfl, d, l, ns, n6, _, rfl, C6.F, by omega, by decide, by decide, fun i n7 H7 i0 i1 hn7 F7 b7 => ?_⟩
      obtain ⟨c, hcm, hc⟩ := Z3p (xs := ("+-*/<=" : Str).cps.toList) (i := i) i0 (Int.lt_of_lt_of_le i1 (by decide +kernel))
      refine ⟨"+-*/<=", i, c, rfl, rfl, (by decide +kernel), hc, (by show 2 <= sizeLine; decide), fun ha2 hha2 => ?_⟩
      exact ⟨ha2, [.str ⟨#[c]⟩], 2, n7, rfl, Z01, HL.yes (Nat.le_refl _) (Zo3 c hcm), fun v hv => (by rw [List.mem_singleton] at hv; subst hv; exact ⟨rfl, rfl⟩), by decide, by decide, by omega, (C6.draw b7 F7).same (Z02 hha2)⟩
     rintro σ7 H7 ⟨ha7, hd7, mn7, n7, rfl, A7, hl7, hp7, m70, m71, hn7, C7⟩
     refine ⟨MC H d l wd nm bg e ns n4 r4 h sa lt bb T B ts kd o6 1 Ws2, ?_, ?_⟩
     ·exact ⟨_, rfl, rfl, _, rfl, Z16 (fun g2 => ⟨ha7, hd7, 3, n7, rfl, A7, hl7.only g2 (by decide +kernel) (by decide +kernel), hp7, by decide, by decide, hn7, C7⟩) (fun g2 => ⟨ha7, hd7, mn7, n7, rfl, A7, hl7.no g2, hp7, m70, m71, hn7, C7⟩)⟩
     clear A7 hl7 hp7 m70 m71 hn7 C7 A6 hl6 hp6 m60 m61 hn6 C6
     rintro σ8 H8 ⟨ha8, hd8, mn8, n8, rfl, A8, hl8, hp8, m80, m81, hn8, C8⟩
     refine ⟨MC H d l wd nm bg e ns n4 r4 h sa lt bb T B ts kd o6 2 Ws3, ?_, ?_⟩
     ·refine ⟨_, rfl, rfl, _, rfl, Z16 (fun g2 => ?_) (fun g2 => ⟨ha8, hd8, mn8, n8, rfl, A8, hl8.no g2, hp8, m80, m81, by omega, C8⟩)⟩
      refine ⟨(by show 6 <= sizeLine; decide), fun q hq => ?_⟩
      have sq := Z02 (o := .lst [.int 2, .int 1, .int 3, .int 2, .int 6, .int 4]) hq
      have C9 := C8.same sq
      refine ⟨_, rfl, d, l, ns, n8, _, rfl, C9.F, by omega, by decide, by decide, fun i n9 H9 i0 i1 hn9 F9 b9 => ?_⟩
      obtain ⟨v, hv, hat⟩ := Z3p (xs := ([.int 2, .int 1, .int 3, .int 2, .int 6, .int 4] : List V)) (i := i) i0 i1
      obtain ⟨z, rfl, z0, z1, z2⟩ : ∃ z : Int, v = .int z /\ 0 <= z /\ z <= 6 /\ shB "do" [] z.toNat = true := by
       simp only [List.mem_cons, List.not_mem_nil, or_false] at hv
       rcases hv with rfl | rfl | rfl | rfl | rfl | rfl <;> exact ⟨_, rfl, by decide, by decide, by decide +kernel⟩
      exact ⟨q, _, i, .int z, rfl, rfl, SqL.of (C9.F.lst b9 Z01), hat, ha8, hd8, z, n9, rfl, C9.F.lst b9 (sq _ _ A8), hl8.only g2 (by decide +kernel) z2, hp8, z0, z1, by omega, C9.draw b9 F9⟩
     clear A8 hl8 hp8 m80 m81 hn8 C8
     rintro σ9 H9 ⟨ha9, hd9, mn9, n9, rfl, A9, hl9, hp9, m90, m91, hn9, C9⟩
     have l1 := C9.N.l1
     have l2 := C9.N.l2
     have hTl : ((T.map V.str).length : Int) = (T.length : Int) := by rw [List.length_map]
     refine ⟨MC H d l wd nm bg e ns n4 r4 h sa lt bb T B ts kd o6 4 Ws4, ?_, ?_⟩
     ·refine ⟨_, rfl, rfl, _, rfl, Z16 (fun g2 => ?_) (fun g2 => ⟨ha9, hd9, mn9, n9, rfl, A9, hl9.no g2, hp9, m90, m91, by omega, C9⟩)⟩
      have ek : kd = "call" := by
       have g' := of_decide_eq_true g2
       injection g'
      subst ek
      refine ⟨_, rfl, _, rfl, _, rfl, nm, T.map V.str, rfl, .inl (SqL.of C9.N.a), d, l, ns, n9, _, rfl, C9.F, by omega, by show (0 : Int) < ((T.map V.str).length : Int); omega, by show ((T.map V.str).length : Int) < 18446744073709551616; omega, fun i n10 H10 i0 i1 hn10 F10 b10 => ?_⟩
      obtain ⟨v, hv, hat⟩ := Z3p (xs := T.map V.str) (i := i) i0 i1
      obtain ⟨t, ht, rfl⟩ := List.mem_map.mp hv
      have hNm := C9.N.nm t ht
      have C10 := C9.draw b10 F10
      refine ⟨nm, T.map V.str, i, .str t, rfl, rfl, SqL.of C10.N.a, hat, (by show 2 <= sizeLine; decide), fun ha2 hha2 => ?_⟩
      have s11 := Z02 (o := .lst [.str "call", .str t]) hha2
      have C11 := C10.same s11
      refine ⟨(by show 6 <= sizeLine; decide), fun q hq => ?_⟩
      have sq := Z02 (o := .lst [.int 1, .int 0, .int 2, .int 3, .int 6, .int 1]) hq
      have C12 := C11.same sq
      refine ⟨_, rfl, d, l, ns, n10, _, rfl, C12.F, by omega, by decide, by decide, fun i n13 H13 i0 i1 hn13 F13 b13 => ?_⟩
      obtain ⟨v, hv, hat⟩ := Z3p (xs := ([.int 1, .int 0, .int 2, .int 3, .int 6, .int 1] : List V)) (i := i) i0 i1
      obtain ⟨z, rfl, z0, z1⟩ : ∃ z : Int, v = .int z /\ 0 <= z /\ z <= 6 := by
       simp only [List.mem_cons, List.not_mem_nil, or_false] at hv
       rcases hv with rfl | rfl | rfl | rfl | rfl | rfl <;> exact ⟨_, rfl, by decide, by decide⟩
      exact ⟨q, _, i, .int z, rfl, rfl, SqL.of (C12.F.lst b13 Z01), hat, ha2, [.str t], z, n13, rfl, C12.F.lst b13 (sq _ _ Z01), HL.yes (Nat.le_refl _) (Zk9 hNm (by omega)), fun v hv => (by rw [List.mem_singleton] at hv; subst hv; exact ⟨rfl, decide_eq_true (Nat.le_trans hNm.1.1.2 (by decide))⟩), z0, z1, by omega, C12.draw b13 F13⟩
     clear A9 hl9 hp9 m90 m91 hn9 C9
     rintro σ10 H10 ⟨ha10, hd10, mn10, n10, rfl, A10, hl10, hp10, m100, m101, hn10, C10⟩
     refine ⟨MC H d l wd nm bg e ns n4 r4 h sa lt bb T B ts kd o6 5 Ws5, ?_, ?_⟩
     ·refine ⟨_, rfl, rfl, _, rfl, Z16 (fun g2 => ?_) (fun g2 => ⟨ha10, hd10, mn10, n10, rfl, A10, hl10.no g2, hp10, m100, m101, by omega, C10⟩)⟩
      have ek : kd = "set" := by
       have g' := of_decide_eq_true g2
       injection g'
      subst ek
      refine ⟨_, rfl, _, rfl, _, rfl, nm, T.map V.str, rfl, .inl (SqL.of C10.N.a), d, l, ns, n10, _, rfl, C10.F, by omega, by show (0 : Int) < ((T.map V.str).length : Int); omega, by show ((T.map V.str).length : Int) < 18446744073709551616; omega, fun i n11 H11 i0 i1 hn11 F11 b11 => ?_⟩
      obtain ⟨v, hv, hat⟩ := Z3p (xs := T.map V.str) (i := i) i0 i1
      obtain ⟨t, ht, rfl⟩ := List.mem_map.mp hv
      have hNm := C10.N.nm t ht
      have C11 := C10.draw b11 F11
      refine ⟨nm, T.map V.str, i, .str t, rfl, rfl, SqL.of C11.N.a, hat, (by show 2 <= sizeLine; decide), fun ha2 hha2 => ?_⟩
      exact ⟨ha2, [.str t], mn10, n11, rfl, Z01, HL.yes (Nat.le_refl _) (by rw [(hl10.2.2 (by decide +kernel)).2]; exact Zmg hNm), fun v hv => (by rw [List.mem_singleton] at hv; subst hv; exact ⟨rfl, decide_eq_true (Nat.le_trans hNm.1.1.2 (by decide))⟩), m100, m101, by omega, C11.same (Z02 hha2)⟩
     clear A10 hl10 hp10 m100 m101 hn10 C10
     rintro σ11 H11 ⟨ha11, hd11, mn11, n11, rfl, A11, hl11, hp11, m110, m111, hn11, C11⟩
     refine ⟨MC H d l wd nm bg e ns n4 r4 h sa lt bb T B ts kd o6 6 Ws6, ?_, ?_⟩
     ·refine ⟨_, rfl, rfl, _, rfl, Z16 (fun g2 => ?_) (fun g2 => ⟨ha11, hd11, mn11, n11, rfl, A11, hl11.no g2, hp11, m110, m111, by omega, C11⟩)⟩
      have ek : kd = "again" := by
       have g' := of_decide_eq_true g2
       injection g'
      subst ek
      refine ⟨_, rfl, d, l, ns, n11, _, rfl, C11.F, by omega, by decide, by decide, fun i n12 H12 i0 i1 hn12 F12 b12 => ⟨(by show 2 <= sizeLine; decide), fun ha2 hha2 => ?_⟩⟩
      exact ⟨ha2, [.int i], mn11, n12, rfl, Z01, HL.yes (Nat.le_refl _) (by rw [(hl11.2.2 (by decide +kernel)).2]; exact Zh0 i0 (by omega)), fun v hv => (by rw [List.mem_singleton] at hv; subst hv; exact ⟨rfl, rfl⟩), m110, m111, by omega, (C11.draw b12 F12).same (Z02 hha2)⟩
     clear A11 hl11 hp11 m110 m111 hn11 C11
     rintro σ12 H12 ⟨ha, hd, mn, n12, rfl, A12, hl12, hp12, m120, m121, hn12, C12⟩
     have hl13 := hl12.1
     have hkds : smallV (.str kd) = true := (by decide +kernel : ∀ t ∈ kinds12, smallV (.str t) = true) kd hkd
     refine ⟨_, rfl, _, rfl, mn, rfl, by omega, by omega, Zc8 (lo := 0) (n := mn.toNat) (fun j ys σc H' => ∃ (o : Option V) (n' : Nat) (r' : Int) (cs : List Th), σc = [some (.int bb), some (.ref d), o, some (.int lt), some (.ref wd)] /\ ys.length = j /\ IsThs H' ys cs /\ (∀ t ∈ cs, PfT (N + B) t /\ (ts = [] -> ∀ i ∈ hs t, ((i : Nat) : Int) < h)) /\ ((Z21 cs : Int) + r' <= r4 /\ 1 - 6 * (N : Int) - j <= r') /\ n' <= n12 + j * cD N /\ Cf H H' d l wd nm bg ns n' r' h sa T B ts /\ H' ha = some (.lst (.str kd :: hd)))
      ⟨none, n12, r4, [], rfl, rfl, .nil, fun t ht => (by cases ht), ⟨by show ((0 : Nat) : Int) + r4 <= r4; omega, by omega⟩, by omega, C12, A12⟩ ?_ ?_⟩
     ·rintro j ys σc H' hj ⟨o, n', r', cs, rfl, hyl, hys, hcs, hrm, hn', C', A'⟩
      have hj6 : j <= 5 := by omega
      have hjm := Nat.mul_le_mul_right (cD N) hj6
      refine ⟨by omega, ?_⟩
      refine ⟨_, rfl, _, rfl, _, rfl, _, rfl, _, _, rfl, rfl, d, l, wd, nm, bg, ns, n', r', h, sa, lt, bb - 1, T, ts, rfl, ⟨C'.F, C'.W, C'.N, C'.G, But2.refl _ _ _⟩, by omega, hh, hlt0, hs0, by omega, by omega, by omega, by omega, fun v t n2 r2 H2 hv pf cn hs' hn2 C2' => nx hj ⟨_, n2, r2, cs ++ [t], rfl, by rw [List.length_append, hyl]; rfl, IsThs.app _ (IsThs.kp (C'.kp C2'.b2) hys) (.cons hv .nil), fun x hx => ?_, ?_, by rw [Nat.succ_mul]; omega, C'.go C2'.b2 C2'.F C2'.W, C'.kp C2'.b2 _ _ A' (by intro kvs q; cases q)⟩⟩
      ·rcases List.mem_append.mp hx with z | z
       ·exact hcs x z
       ·rw [List.mem_singleton.mp z]
        exact ⟨pf, hs'⟩
      ·obtain ⟨ca, cb, cc⟩ := cn
       rw [Z37]
       exact ⟨by omega, by omega⟩
     ·rintro ys σc H' ⟨o, n', r', cs, rfl, hyl, hys, hcs, hrm, hn', C', A'⟩ q hq
      have sq := Z02 (o := .lst ys) hq
      have hcl := IsThs.len _ hys
      have hm6 : mn.toNat <= 6 := by omega
      have hjm := Nat.mul_le_mul_right (cD N) hm6
      refine ⟨ha, q, .str kd :: hd, ys, rfl, rfl, sq _ _ A', Z01, by rw [List.length_cons]; omega, fun l2 hl2 => ?_⟩
      have s2 := Z02 (o := .lst ((.str kd :: hd) ++ ys)) hl2
      refine ⟨l2, _, rfl, .inl ⟨SqL.of Z01, fun p hp => ?_⟩⟩
      have s3 := Z02 (o := .tup ((.str kd :: hd) ++ ys)) hp
      have sA := (sq.trans s2).trans s3
      have nk : ∀ k ∈ cs, L2.isTup k = true := fun k hk => (hcs k hk).1.isTup
      have hhd : ∀ (H0 : Hp) (hd : List V), (∀ v ∈ hd, plT (.at v) = true /\ smallV v = true) -> IsThs H0 hd (hd.map Th.at) := by
       intro H0 hd
       induction hd with
       | nil => intro _; exact .nil
       | cons x hd ih2 => intro hx; exact .cons (.at (hx x (List.mem_cons_self ..)).2) (ih2 fun v hv => hx v (List.mem_cons_of_mem _ hv))
      refine k (.ref p) (nd kd hd cs) n' r' _ (.tup Z01 (.cons (.at hkds) (IsThs.app _ (hhd _ hd hp12) (IsThs.kp (Kp.of sA) hys)))) ?_ ?_ ?_ (by omega) (C'.same sA)
      ·rw [Nat.add_right_comm]
       exact ⟨kd, hd, cs, rfl, hl12.1, fun v hv => (hp12 v hv).1, fun z => absurd z hkl, fun z => absurd z hkh, ⟨by omega, (by rw [show cs.length = mn.toNat by omega]; exact hl12.2.1 (Zo5 hkd hkl hlb)), fun z => absurd hkd (by rw [z]; decide +kernel)⟩, fun k hk => (hcs k hk).1⟩
      ·rw [Z27 nk]
       exact ⟨by omega, by omega, by omega⟩
      ·intro z0 i hi
       obtain ⟨k, hk, hj⟩ := (Z35 hkh).mp hi
       exact (hcs k hk).2 z0 i hj
end
end K15
namespace L2
open PySem PySem.Spec PyProof.Rows
section
variable {M : Model} {A : Around} {E : Value -> Shared -> Prop} {env : Env} {nm q : Str} {C N : Addr} {bs bm : List Value} {hdct : Bool} {sn : List Str} {sub : List Value} {ab : Bool} {col : Option Bool} {dd : Option Addr} {k0 k1 k2 k3 k5 : Option Value} {newId : String} {s : Shared}
end
section
variable {M : Model} {A : Around} {E : Value -> Shared -> Prop} {s : Shared} {base : Heap} {env : Env} {outer : List Env} {L e d C : Addr}
end
section
variable {P : Program} {w : World} {S : Addr -> Prop} {fs fs' : List Addr} {H H' : Hp} {h h1 h2 : Heap}
end
section
variable {X : Cx} {pins : List (Addr × Obj)} {σ : St} {H : Hp} {s : Shared} {C a d T : Addr} {E : XK}
end
section
variable {X : Cx} {pins : List (Addr × Obj)} {σ : St} {H : Hp} {s : Shared}
end
section
variable {prog : Program} {w : World} {A : Around} {E : Value -> Shared -> Prop} {env : Env} {nm q : Str} {C N : Addr} {bs bm : List Value} {hdct : Bool} {sn : List Str} {sub : List Value} {ab : Bool} {col : Option Bool} {dd : Option Addr} {k0 k1 k2 k3 k5 : Option Value} {newId : String} {s : Shared}
end
section
variable {P : Program} {w : World} {fs : List Addr} {H H' : Hp} {h h2 : Heap} {C a d T : Addr}
end
section
variable {X : Cx} {pins : List (Addr × Obj)} {σ : St} {H : Hp} {s : Shared}
end
section
variable {X : Cx} {nm q : Str} {C N : Addr} {bs bm : List Value} {hdct : Bool} {sn : List Str} {sub : List Value} {ab : Bool} {col : Option Bool} {dd : Option Addr} {k0 k1 k2 k3 k5 : Option Value} {newId : String}
end
section
variable {X : Cx} {C e fI : Addr}
end
section
variable {X : Cx} {C fI : Addr}
end
section
variable {X : Cx} {pins : List (Addr × Obj)} {σ : St} {H : Hp} {s : Shared} {C fI a d : Addr}
end
end L2
namespace L2
open PySem PySem.Spec PyProof.Rows
open Sem (wp)
open AutoSeq1 (wpAny_loadPart')
section
variable {P : Program} {w : World} {A : Around} {E : Value -> Shared -> Prop} {s : Shared}
end
section
variable {X : Cx}
end
end L2
namespace L2
open PySem PySem.Spec PyProof.Rows PySem.Builtin PySem.AutoSeq1
section
variable {prog : Program} {w : World} {A : Around} {E : Value -> Shared -> Prop} {s : Shared}
end
section
variable {prog : Program} {w : World} {A : Around} {E : Value -> Shared -> Prop} {s : Shared}
end
end L2
namespace L2
open PySem PySem.Spec PyProof.Rows
section
variable {X : Cx}
end
section
variable {K : PySem.W.Frag} {a b : Addr} {xs ys : List V} {σ0 : St} {H : Hp} {g : TG} {tt : TT} {te : TE} {Q : List V -> Hp -> Prop}
end
end L2
namespace L2
open PySem PySem.Spec PyProof.Rows PySem.Builtin PySem.AutoSeq1
section
variable {prog : Program} {w : World} {A : Around} {E : Value -> Shared -> Prop} {s : Shared}
end
section
variable {prog : Program} {w : World} {A : Around} {E : Value -> Shared -> Prop} {s : Shared}
end
section
variable {X : Cx}
end
section
variable {prog : Program} {w : World} {A : Around} {E : Value -> Shared -> Prop} {s : Shared}
end
section
variable {X : Cx} {pins : List (Addr × Obj)} {σ : St}
end
section
variable {X : Cx}
end
end L2
namespace L2
open PySem PySem.Spec PyProof.Rows
section
variable {A : Around} {E : Value -> Shared -> Prop} {nm q : Str} {C N : Addr} {bs bm : List Value} {hdct : Bool} {sn : List Str} {sub : List Value} {ab : Bool} {col : Option Bool} {dd : Option Addr} {k0 k1 k2 k3 k5 : Option Value} {newId : String} {s : Shared}
end
section
variable {X : Cx} {C fI : Addr}
end
section
variable {M : Model} {A : Around} {E : Value -> Shared -> Prop} {nm q nm' q' : Str} {C N B N' : Addr} {bs bm bs' bm' : List Value} {hdct hdct' : Bool} {sn sn' : List Str} {sub sub' : List Value} {ab ab' : Bool} {col col' : Option Bool} {dd dd' : Option Addr} {k0 k1 k2 k3 k5 k0' k1' k2' k3' k5' : Option Value} {newId newId' : String}
end
section
variable {prog : Program} {w : World} {A : Around} {E : Value -> Shared -> Prop} {env : Env} {nm q nm' q' : Str} {C N B N' : Addr} {bs bm bs' bm' : List Value} {hdct hdct' : Bool} {sn sn' : List Str} {sub sub' : List Value} {ab ab' : Bool} {col col' : Option Bool} {dd dd' : Option Addr} {k0 k1 k2 k3 k5 k0' k1' k2' k3' k5' : Option Value} {newId newId' : String} {s : Shared}
end
section
variable {X : Cx} {C : Addr}
end
section
variable {X : Cx} {nm q nm' q' : Str} {C N B N' : Addr} {bs bm bs' bm' : List Value} {hdct hdct' : Bool} {sn sn' : List Str} {sub sub' : List Value} {ab ab' : Bool} {col col' : Option Bool} {dd dd' : Option Addr} {k0 k1 k2 k3 k5 k0' k1' k2' k3' k5' : Option Value} {newId newId' : String}
end
section
variable {X : Cx}
end
section
variable {X : Cx}
end
section
variable {prog : Program} {w : World} {A : Around} {E : Value -> Shared -> Prop} {s : Shared}
end
section
variable {X : Cx}
end
end L2
namespace HT
open PySem PySem.Spec PyProof.Rows
section
variable {prog : Program} {w : World} {A : Around} {E : Value -> Shared -> Prop} {s : Shared}
end
end HT
namespace L2
open PySem PySem.Spec PyProof.Rows
section
variable {X : Cx}
end
end L2
namespace HT
open PySem PySem.Spec PyProof.Rows
section
variable {prog : Program} {w : World} {A : Around} {E : Value -> Shared -> Prop}
end
end HT
namespace L2
open PySem PySem.Spec PyProof.Rows PySem.Builtin
section
variable {X : Cx} {pins : List (Addr × Obj)} {σ : St}
end
end L2
namespace L2
open PySem PySem.Spec PyProof.Rows
section
variable {prog : Program} {w : World} {A : Around} {E : Value -> Shared -> Prop} {R : Result -> Shared -> Prop} {s : Shared}
end
section
variable {X : Cx} {kx vx tg iter : Expr} {ifs : List Expr} {scope : Scope} {pos : Pos} {N' : List Str} {src : List (Option Nat)} {wi : TI} {g : TG} {tt : TT} {tk tv : TE}
end
section
variable {X : Cx} {kx vx tg iter : Expr} {ifs : List Expr} {scope : Scope} {pos : Pos} {N' : List Str} {src : List (Option Nat)} {wi : TI} {g : TG} {tt : TT} {tk tv : TE}
end
section
variable {K : PySem.W.Frag} {a : Addr} {xs : List V} {σ0 : St} {H : Hp} {g : TG} {tt : TT} {tk tv : TE} {Q : List (Key × V) -> Hp -> Prop}
end
end L2
namespace L2
open PySem PySem.Spec PyProof.Rows Srt
theorem Z97 (elt target iter : Expr) (ifs : List Expr) (scope : Scope) (pos : Pos) (it : Value) (D : Addr) (env : Env) :
  compTurn (.SetComp elt [⟨target, iter, ifs, 0⟩] scope pos) 0 it (.ref D) env = (do
   standAt iter.pos
   match ← pyNext it with
   | none => pure (.done .next)
   | some v =>
    letOwnedTupleGo target it v
    assign target env v
    let mut ok := true
    for c in ifs do
     if ok then ok ← isTrue c env (eval c env)
    if ok then
     (do
      let v ← eval elt env
      standAt elt.pos
      let _ ← call (.builtin "set.add") [.ref D, v])
    again (.compLoop (.SetComp elt [⟨target, iter, ifs, 0⟩] scope pos) 0 it (.ref D) env)) := by rfl
section
variable {prog : Program} {w : World} {A : Around} {E : Value -> Shared -> Prop} {R : Result -> Shared -> Prop} {s : Shared}
theorem Z38 {elt target iter ifs rest scope pos it acc env}
  (h0 : codeAny (model prog w) A (.compLoop (.SetComp elt (⟨target, iter, ifs, 0⟩ :: rest) scope pos) 0 it acc env) R s)
  (h : wpAny (model prog w) A (pyIter it) (fun it' s' => codeAny (model prog w) A (.compLoop (.SetComp elt (⟨target, iter, ifs, 0⟩ :: rest) scope pos) 0 it' acc env) R s')
   (notedBy (model prog w) A env fun x s' => R (.error x) s') s) :
  codeAny (model prog w) A (.compStart (.SetComp elt (⟨target, iter, ifs, 0⟩ :: rest) scope pos) 0 it acc env) R s := by
 refine codeAny_of_tree ?_
 show wpAny _ A ((compStart (.SetComp elt (⟨target, iter, ifs, 0⟩ :: rest) scope pos) 0 it acc env).onRaise (fun x => do noteFrame x env; standAt theWindowsPlace)) _ _ s
 refine wpAny_notedAt ?_
 unfold compStart
 show wpAny _ A (ask >>= _) _ _ s
 refine wpAny_bind (wpAny_askSetting (wpAny_ite ?_))
 split
 ·first
   | exact wpAny_bind (wpAny_pure (wpAny_pure (And.intro rfl h0)))
   | exact wpAny_pure (And.intro rfl h0)
 ·first
   | exact wpAny_bind (wpAny_rule (wpAny_bind (wpAny_standAt (wpAny_bind (wpAny_mono h (fun it' s' h' => wpAny_pure (And.intro rfl h')) fun _ _ x => x)))))
   | (refine wpAny_bind (wpAny_rule ?_); show wpAny _ _ (standAt iter.pos >>= _) _ _ s; exact wpAny_bind (wpAny_standAt (wpAny_bind (wpAny_mono h (fun it' s' h' => wpAny_pure (And.intro rfl h')) fun _ _ x => x))))
theorem Z7s {elt target iter : Expr} {ifs : List Expr} {scope : Scope} {pos : Pos} {it : Value} {D : Addr} {env : Env} (I : Nat -> Shared -> Prop)
  (turn : ∀ n s, I n s -> wpAny (model prog w) A (pyNext it) (fun r s1 => match r with
   | none => R (.ok .next) s1
   | some v => wpAny (model prog w) A (letOwnedTupleGo target it v) (fun _ s1' => wpAny (model prog w) A (assign target env v) (fun _ s2 =>
     wpAny (model prog w) A (forIn ifs true fun c r => if r = true then do let ok ← isTrue c env (eval c env); pure (ForInStep.yield ok) else pure (ForInStep.yield r)) (fun ok s3 =>
      if ok = true then wpAny (model prog w) A (eval elt env) (fun vv s5 =>
       wpAny (model prog w) A (call (.builtin "set.add") [.ref D, vv]) (fun _ s6 => ∃ m, m < n /\ I m s6) (fun _ _ => False) s5) (fun _ _ => False) s3
      else ∃ m, m < n /\ I m s3) (fun _ _ => False) s2) (fun _ _ => False) s1') (fun _ _ => False) s1) (fun _ _ => False) s)
  (n : Nat) (h : I n s) :
  codeAny (model prog w) A (.compLoop (.SetComp elt [⟨target, iter, ifs, 0⟩] scope pos) 0 it (.ref D) env) R s := by
 refine codeAny_loop rfl I (fun n s hI => ?_) n h
 show wpAny _ A ((compTurn (.SetComp elt [⟨target, iter, ifs, 0⟩] scope pos) 0 it (.ref D) env).onRaise (fun x => do noteFrame x env; theTreesLotGoes x)) _ _ s
 refine wpAny_noted ?_
 rw [Z97]
 refine wpAny_bind (wpAny_standAt (wpAny_bind (wpAny_mono (turn n s hI) (fun r s₁ h₁ => ?_) fun _ _ h' => h'.elim)))
 cases r with
 | none => exact wpAny_pure h₁
 | some v =>
  refine wpAny_bind (wpAny_mono h₁ (fun _ s1' h1' => ?_) fun _ _ h' => h'.elim)
  refine wpAny_bind (wpAny_mono h1' (fun _ s₂ h₂ => wpAny_bind (wpAny_mono h₂ (fun ok s₃ h₃ => ?_) fun _ _ h' => h'.elim)) fun _ _ h' => h'.elim)
  cases ok with
  | false => exact wpAny_pure ⟨rfl, h₃⟩
  | true =>
   exact wpAny_bind (wpAny_bind (wpAny_mono h₃ (fun vv s₅ h₅ => wpAny_bind (wpAny_standAt (wpAny_bind (wpAny_mono h₅ (fun _ s₆ h₆ => wpAny_pure (wpAny_pure ⟨rfl, h₆⟩)) fun _ _ h' => h'.elim)))) fun _ _ h' => h'.elim))
end
theorem Zkb {P : Program} {w : World} {A : Around} {E : Value -> Shared -> Prop} {s : Shared} {Q : Value -> Shared -> Prop} (h : Q (.ref s.heap.objs.size) { s with heap := s.heap.push (Z80 w) }) : wpAny (model P w) A (newSet (.type "set")) Q E s := by
 unfold newSet setsByText
 refine wpAny_bind (wpAny_bind (wpAny_askSetting (wpAny_pure ?_)))
 simp only [newObj]
 exact wpAny_bind (wpAny_alloc (wpAny_pure h))
def Zmh (P : Program) (w : World) (src : List (Option Nat)) (wi : TI) (g : TG) (tt : TT) (te : TE) : TE := fun σ H Q => wi σ H fun J H1 => ∃ W : Nat -> Nat -> List Int -> St -> Hp -> Prop, (∃ m, W 0 m [] (Zdr src σ) H1) /\ ∀ i m kvs σc H, W i m kvs σc H →
 (J.stop i H /\ ∀ l, H l = none -> Q (.ref l) (upd H l (Z81 P w l kvs))) ∨
 (J.go i H /\ kvs.length < 1000 /\ ∀ x H', J.yld i H x H' -> g x σc H' fun σ2 H2 => tt σ2 H2 fun b H3 =>
  if b = true then te σ2 H3 fun vv H5 => ∃ y : Int, vv = .int y /\ ∃ m', m' < m /\ W (i + 1) m' (Z45 kvs y) σ2 H5 else ∃ m', m' < m /\ W (i + 1) m' kvs σ2 H3)
section
variable {X : Cx} {elt tg iter : Expr} {ifs : List Expr} {scope : Scope} {pos : Pos} {N' : List Str} {src : List (Option Nat)} {wi : TI} {g : TG} {tt : TT} {te : TE}
theorem Za0 {cl : List (Str × Addr)} {C D : Addr} {fp : List Addr} {pins pinsY : List (Addr × Obj)} {σ σc : St} {H H' : Hp} {s3 s4 : Shared} {h' : Heap} {kvs : List Int} (I3 : Inv X pins σ H s3) (hC : C = s3.heap.objs.size)
  (hf : ∀ b ∈ D :: fp, Z3u X pins H b) (hlt : ∀ b ∈ D :: fp, b < s3.heap.objs.size) (IY : Inv (Z13 X N' scope cl C (D :: fp) s3 H) pinsY σc H' s4) (hD : H' D = none) (dd : IS X.prog X.w s4.heap D kvs)
  (hs : Heap.SameBut C s4.heap h') : Inv X pins σ (upd H' D (Z81 X.prog X.w D kvs)) { s4 with heap := h' } := by
 have J : Inv X pins σ H' s4 := I3.call' IY.os IY.base IY.hok IY.bare (ch := D :: fp) fun b hb => ⟨(hf b hb).2.2.2.1, (hf b hb).2.1, (hf b hb).2.2.2.2.1, (hf b hb).2.2.2.2.2⟩
 have fC : Z3u X pins H' C := I3.fpOk (Nat.le_of_eq hC.symm) IY.free
 have J2 : Inv X pins σ H' { s4 with heap := h' } := J.turned (t' := s4.toks) (fun b o hb e => (hs.2 b hb).trans e) fC.1 fC.2.1 fC.2.2.2.1 fC.2.2.2.2.1 fC.2.2.2.2.2
 have hDC : D ≠ C := by rw [hC]; exact Nat.ne_of_lt (hlt D List.mem_cons_self)
 have fD := hf D List.mem_cons_self
 exact J2.track ⟨hD, fD.2⟩ (Z7b (dd.keep fun o e => (hs.2 D hDC).trans e))
theorem Zf3 {cl : List (Str × Addr)} {C D it : Addr} {fp : List Addr} {tn : Nat -> Heap -> Prop} {J : It} {pins : List (Addr × Obj)} {σ σ0 : St} {H : Hp} {s3 s4 : Shared} {R : Result -> Shared -> Prop} {W : Nat -> Nat -> List Int -> St -> Hp -> Prop} {m0 : Nat} {Q : List Int -> Hp -> Prop}
  (hc : X.calm = true) (T : Turn X.prog X.w X.K tg J fp it tn) (I3 : Inv X pins σ H s3) (hC : C = s3.heap.objs.size)
  (hf : ∀ b ∈ D :: fp, Z3u X pins H b) (hlt : ∀ b ∈ D :: fp, b < s3.heap.objs.size) (hDf : D ∉ fp) (IY : Inv (Z13 X N' scope cl C (D :: fp) s3 H) [] σ0 H s4) (st : tn 0 s4.heap) (dd0 : IS X.prog X.w s4.heap D [])
  (hg : PG (Z13 X N' scope cl C (D :: fp) s3 H) tg g) (ht : PTs (Z13 X N' scope cl C (D :: fp) s3 H) ifs tt) (he : PE (Z13 X N' scope cl C (D :: fp) s3 H) elt te) (w0 : W 0 m0 [] σ0 H)
  (turn : ∀ i m kvs σc H, W i m kvs σc H -> (J.stop i H /\ Q kvs H) ∨ (J.go i H /\ kvs.length < 1000 /\ ∀ x H', J.yld i H x H' -> g x σc H' fun σ2 H2 => tt σ2 H2 fun b H3 =>
   if b = true then te σ2 H3 fun vv H5 => ∃ y : Int, vv = .int y /\ ∃ m', m' < m /\ W (i + 1) m' (Z45 kvs y) σ2 H5 else ∃ m', m' < m /\ W (i + 1) m' kvs σ2 H3))
  (fin : ∀ s5 σc H' kvs pinsY, Inv (Z13 X N' scope cl C (D :: fp) s3 H) pinsY σc H' s5 -> H' D = none -> IS X.prog X.w s5.heap D kvs -> Q kvs H' -> R (.ok .next) s5) :
  codeAny (model X.prog X.w) X.A (.compLoop (.SetComp elt [⟨tg, iter, ifs, 0⟩] scope pos) 0 (.ref it) (.ref D) (compEnvC scope cl C X.env)) R s4 := by
 have eY : (Z13 X N' scope cl C (D :: fp) s3 H).env = compEnvC scope cl C X.env := rfl
 generalize hY : Z13 X N' scope cl C (D :: fp) s3 H = Y at *
 have e1 : Y.prog = X.prog := by rw [<- hY]; rfl
 have e2 : Y.w = X.w := by rw [<- hY]; rfl
 have e3 : Y.K = X.K := by rw [<- hY]; rfl
 have e4 : Y.A = X.A := by rw [<- hY]; rfl
 have e5 : Y.calm = true := by rw [<- hY]; exact hc
 have e6 : Y.xe = fun _ _ => False := by rw [<- hY]; rfl
 have e7 : Y.env.locals = C := by rw [eY]; rfl
 have e8 : Y.ex = D :: fp := by rw [<- hY]; rfl
 have e9 : Y.pn = [] := by rw [<- hY]; rfl
 have e10 : Y.fs = frs X.stack := by rw [<- hY]; rfl
 have e11 : ∀ x c, Y.env.cells.lookup x = some c -> ∀ b ∈ D :: fp, c ≠ b := fun x c e b hb => (IY.ok.exf b (by rw [e8]; exact hb)).2 x c e
 have nst : ∀ b ∈ D :: fp, b ∉ Y.fs := fun b hb => IY.ok.exfs b (by rw [e8]; exact hb)
 have fpY : ∀ (pinsY : List (Addr × Obj)) (H' : Hp), (∀ p ∈ pinsY, p.1 = D) -> ∀ b ∈ fp, H' b = none -> Z3u Y pinsY H' b := fun pinsY H' hp b hb hn =>
  ⟨hn, by rw [e7, hC]; exact Nat.ne_of_lt (hlt b (List.mem_cons_of_mem _ hb)), nst b (List.mem_cons_of_mem _ hb), .inl (by rw [e8]; exact List.mem_cons_of_mem _ hb), fun x c e => e11 x c e b (List.mem_cons_of_mem _ hb), fun p hp' z => by
   rw [e9, List.nil_append] at hp'
   have q := hp p hp'
   rw [z] at q
   rw [q] at hb
   exact hDf hb⟩
 have fpD : ∀ (pinsY : List (Addr × Obj)) (H' : Hp), (∀ p ∈ pinsY, p.1 ≠ D) -> H' D = none -> Z3u Y pinsY H' D := fun pinsY H' hp hn =>
  ⟨hn, by rw [e7, hC]; exact Nat.ne_of_lt (hlt D List.mem_cons_self), nst D List.mem_cons_self, .inl (by rw [e8]; exact List.mem_cons_self), fun x c e => e11 x c e D List.mem_cons_self, fun p hp' => by
   rw [e9, List.nil_append] at hp'
   exact hp p hp'⟩
 have T' : Turn Y.prog Y.w Y.K tg J fp it tn := by rw [e1, e2, e3]; exact T
 rw [<- eY, <- e1, <- e2, <- e4]
 refine Z7s (fun n s' => ∃ i kvs σc H', Inv Y [] σc H' s' /\ tn i s'.heap /\ (∀ b ∈ fp, H' b = none) /\ H' D = none /\ IS X.prog X.w s'.heap D kvs /\ W i n kvs σc H') ?_ m0
  ⟨0, [], σ0, H, IY, st, fun b hb => (hf b (List.mem_cons_of_mem _ hb)).1, (hf D List.mem_cons_self).1, dd0, w0⟩
 rintro n s5 ⟨i, kvs, σc, H5, I5, st5, fr5, hD5, dd5, w5⟩
 obtain ⟨ob, hob, hnc⟩ : ∃ ob, s5.heap.get? D = some ob /\ ∀ v, ob.data ≠ .cell v := by
  obtain ⟨o, es, ep, t, h1, _, h3, _⟩ := dd5
  exact ⟨o, h1, fun v z => by rw [h3] at z; cases z⟩
 have hdo : ∀ {h' : Heap}, h'.get? D = some ob -> IS X.prog X.w h' D kvs := fun {h'} e => dd5.keep fun o z => by rw [hob] at z; cases z; exact e
 have I5' : Inv Y [(D, ob)] σc H5 s5 := I5.pins_of fun p hp => by
  rw [List.mem_singleton] at hp
  subst hp
  exact ⟨hob, hD5, by rw [e7, hC]; exact Nat.ne_of_lt (hlt D List.mem_cons_self), nst D List.mem_cons_self, fun v z => hnc v z⟩
 have f5 : ∀ b ∈ fp, Z3u Y [(D, ob)] H5 b := fun b hb => fpY _ _ (fun p hp => by rw [List.mem_singleton] at hp; rw [hp]) b hb (fr5 b hb)
 rcases turn i n kvs σc H5 w5 with ⟨stop, q⟩ | ⟨go, hz, step⟩
 ·refine thn (T'.done Y rfl rfl rfl e5 i _ s5 σc H5 (fun _ _ => False) I5' f5 st5 stop) fun r s6 ⟨hr, I6⟩ => ?_
  subst hr
  exact fin s6 σc H5 kvs _ I6 hD5 (hdo (I6.pin (D, _) (List.mem_append_right _ List.mem_cons_self)).1) q
 ·refine thn (T'.item Y rfl rfl rfl e5 i _ s5 σc H5 (fun _ _ => False) I5' f5 st5 go) fun r s6 ⟨u, hr, h6⟩ => ?_
  subst hr
  refine thn h6 fun _ s7 ⟨x, H7, I7, r7, y7, st7, fr7⟩ => ?_
  have f7 : ∀ b ∈ fp, Z3u Y [(D, ob)] H7 b := fun b hb => fpY _ _ (fun p hp => by rw [List.mem_singleton] at hp; rw [hp]) b hb (fr7 b hb)
  have I7' := I7.pinned f7 (T.obj _ _ st7)
  have hx := hg _ s7 σc H7 x u _ I7' r7 (step x H7 y7)
  rw [e6] at hx
  refine thn hx fun _ s8 ⟨σ8, H8, I8, q8⟩ => ?_
  have hx2 := ht _ s8 σ8 H8 _ I8 q8
  rw [e6] at hx2
  have keepT : ∀ {σ9 : St} {H9 : Hp} {s9 : Shared}, Inv Y ([(D, ob)] ++ Z6i fp s7.heap) σ9 H9 s9 -> tn (i + 1) s9.heap /\ (∀ b ∈ fp, H9 b = none) /\ H9 D = none /\ s9.heap.get? D = some ob := fun {σ9 H9 s9} I9 => by
   have pD := I9.pin (D, _) (List.mem_append_right _ (List.mem_append_left _ List.mem_cons_self))
   refine ⟨T.keep _ _ _ st7 fun b hb o e => (I9.pin (b, o) (List.mem_append_right _ (List.mem_append_right _ (Z23 hb e)))).1, fun b hb => ?_, pD.2.1, pD.1⟩
   obtain ⟨o, e, d⟩ := T.obj _ _ st7 b hb
   exact (I9.pin (b, o) (List.mem_append_right _ (List.mem_append_right _ (Z23 hb e)))).2.1
  refine thn hx2 fun ok s9 ⟨H9, I9, q9⟩ => ?_
  cases ok with
  | false =>
   rw [if_neg Bool.false_ne_true] at q9
   rw [if_neg Bool.false_ne_true]
   obtain ⟨m', hm, w9⟩ := q9
   obtain ⟨k1, k2, k3, k4⟩ := keepT I9
   exact ⟨m', hm, i + 1, kvs, σ8, H9, I9.pins_of (fun p hp => nomatch hp), k1, k2, k3, hdo k4, w9⟩
  | true =>
   rw [if_pos rfl] at q9
   rw [if_pos rfl]
   have hx4 := he _ s9 σ8 H9 _ I9 q9
   rw [e6] at hx4
   refine thn hx4 fun vv s11 ⟨vy, H11, I11, rvv, y, ey, m', hm, w11⟩ => ?_
   subst ey
   obtain ⟨tk, rfl⟩ := rvv
   obtain ⟨k1, k2, k3, k4⟩ := keepT I11
   rw [e1, e2]
   refine Zau (hdo k4) (by show kvs.length + 1 < 4096; omega) fun h' sb is' => ?_
   have fD := fpD [] H11 (fun p hp => nomatch hp) k3
   have I12 : Inv Y [] σ8 H11 { s11 with heap := h', toks := s11.toks + 1 } := (I11.pins_of (pins' := []) fun p hp => nomatch hp).turned (t' := s11.toks + 1) (fun b o hb e => (sb.2 b hb).trans e) fD.1 fD.2.1 fD.2.2.2.1 fD.2.2.2.2.1 fD.2.2.2.2.2
   refine ⟨m', hm, i + 1, Z45 kvs y, σ8, H11, I12, T.keep _ _ _ k1 (fun b hb o e => (sb.2 b ?_).trans e), k2, k3, is', w11⟩
   intro z; rw [z] at hb; exact hDf hb
theorem Zh1 (hc : X.calm = true) (S : CompScope X scope N' src) (hi : PI X tg iter wi)
  (hb : ∀ cl C ex s0 H0, PG (Z13 X N' scope cl C ex s0 H0) tg g /\ PTs (Z13 X N' scope cl C ex s0 H0) ifs tt /\ PE (Z13 X N' scope cl C ex s0 H0) elt te)
  (hs : ∀ x, foldedSetIterable iter X.env x = pure x := by intro _; rfl) : PE X (.SetComp elt [⟨tg, iter, ifs, 0⟩] scope pos) (Zmh X.prog X.w src wi g tt te) := by
 intro pins s σ H Q I h
 obtain ⟨cl, hclos, hcl1, hcl2⟩ := Z4g (scope := scope) (env := X.env) fun n hn => I.ok.has n (S.fr n hn)
 rw [arm_eval_SetComp]
 show wpAny _ _ (comprehension (.SetComp elt [⟨tg, iter, ifs, 0⟩] scope pos) scope X.env _ (newSet (.type "set")) false (eval iter X.env)) _ _ s
 refine wpAny_comprehension_free (use := none) rfl hs hclos S.kind S.names ?_
 refine thn (hi pins s σ H _ I h) fun v s1 h1 => thn h1 fun itv s2 h2 => ?_
 obtain ⟨it, fp, tn, J, H2, e, I2, T, st2, f2, W, ⟨m0, w0⟩, turn⟩ := h2
 subst e
 refine Zkb (wpAny_newFunctionEnv S.cell (by intro y hy; simp at hy) (fun h₁ hns₁ hsb₁ => ?_) S.kind)
 dsimp only at hns₁ hsb₁ ⊢
 generalize hH3 : s2.heap.push (Z80 X.w) = H3 at hns₁ hsb₁ ⊢
 have hsz : H3.objs.size = s2.heap.objs.size + 1 := by rw [<- hH3, Heap.size_push]
 have I3 : Inv X pins σ H2 { s2 with heap := H3 } := I2.kept (t' := s2.toks) fun b o e => by rw [<- hH3]; exact Heap.get?_push_of_some _ e
 have fD : Z3u X pins H2 s2.heap.objs.size := I2.fpOk (Nat.le_refl _) (I2.hok.fresh (Nat.le_refl _))
 have hDf : s2.heap.objs.size ∉ fp := fun hm => by
  obtain ⟨o, e, _⟩ := T.obj 0 _ st2 _ hm
  exact Nat.lt_irrefl _ (Heap.lt_size e)
 have hf : ∀ b ∈ s2.heap.objs.size :: fp, Z3u X pins H2 b := fun b hb => by
  rcases List.mem_cons.mp hb with z | z
  ·rw [z]; exact fD
  ·exact f2 b z
 have hlt : ∀ b ∈ s2.heap.objs.size :: fp, b < H3.objs.size := fun b hb => by
  rcases List.mem_cons.mp hb with z | z
  ·rw [z, hsz]; exact Nat.lt_succ_self _
  ·obtain ⟨o, e, _⟩ := T.obj 0 _ st2 b z
   rw [hsz]; exact Nat.lt_succ_of_lt (Heap.lt_size e)
 have kp : ∀ b o, H3.get? b = some o -> h₁.get? b = some o := fun b o e => hsb₁.extBut b o (Nat.ne_of_lt (Heap.lt_size e)) (Heap.get?_push_of_some _ e)
 have kp0 : ∀ b o, s2.heap.get? b = some o -> h₁.get? b = some o := fun b o e => kp b o (by rw [<- hH3]; exact Heap.get?_push_of_some _ e)
 have hacc : IS X.prog X.w h₁ s2.heap.objs.size [] := by
  have h0 : IS X.prog X.w H3 s2.heap.objs.size [] := by rw [<- hH3]; exact IS.new (Heap.get?_push_size _ rfl)
  exact h0.keep fun o e => kp _ o e
 have st1 : tn 0 h₁ := T.keep _ _ _ st2 fun b _ o e => kp0 b o e
 have IY := Z4i (N' := N') (src := src) (scope := scope) (cl := cl) (C := H3.objs.size) (D := s2.heap.objs.size) (fp := fp) (s3 := { s2 with heap := H3 }) (h1 := h₁) (tk := s2.toks) S I3 hcl1 hcl2 rfl hf hlt hns₁ kp
 obtain ⟨hg, ht, he⟩ := hb cl H3.objs.size (s2.heap.objs.size :: fp) { s2 with heap := H3 } H2
 have loop := Zf3 (R := compPost (model X.prog X.w) X.A X.xe none (EP X pins σ Q) (.ref s2.heap.objs.size) H3.objs.size) (elt := elt) (iter := iter) (ifs := ifs) (pos := pos) (Q := fun kvs H => ∀ l, H l = none -> Q (.ref l) (upd H l (Z81 X.prog X.w l kvs)))
  hc T I3 rfl hf hlt hDf IY st1 hacc hg ht he w0 turn (fun s5 σc H' kvs pinsY IY5 hD dd q => by
   obtain ⟨m, hn, _⟩ := IY5.loc
   refine ⟨m, hn, fun h' hs' => ⟨.ref s2.heap.objs.size, upd H' s2.heap.objs.size (Z81 X.prog X.w s2.heap.objs.size kvs), ?_, rfl, q _ hD⟩⟩
   exact Za0 I3 rfl hf hlt IY5 hD dd hs')
 exact Z38 loop (T.self _ 0 _ _ _ st1 loop)
end
section
variable {K : PySem.W.Frag} {a : Addr} {xs : List V} {σ0 : St} {H : Hp} {g : TG} {tt : TT} {te : TE} {Q : List Int -> Hp -> Prop}
theorem Zcs (Pv : Nat -> List Int -> St -> Hp -> Prop) (h0 : Pv 0 [] σ0 H) (hl : ∀ i ys σc H, Pv i ys σc H -> SqL K H a xs)
  (hs : ∀ i x ys σc H, xs[i]? = some x -> i < xs.length -> Pv i ys σc H -> ys.length < 1000 /\ g x σc H fun σ2 H2 => tt σ2 H2 fun b H3 =>
   if b = true then te σ2 H3 fun v H4 => ∃ y : Int, v = .int y /\ Nx xs.length i (Pv (i + 1) (Z45 ys y) σ2 H4) else Nx xs.length i (Pv (i + 1) ys σ2 H3))
  (hd : ∀ ys σc H, Pv xs.length ys σc H -> Q ys H) :
  ∃ W : Nat -> Nat -> List Int -> St -> Hp -> Prop, (∃ m, W 0 m [] σ0 H) /\ ∀ i m ys σc H, W i m ys σc H →
   ((Itl K a).stop i H /\ Q ys H) ∨ ((Itl K a).go i H /\ ys.length < 1000 /\ ∀ v H', (Itl K a).yld i H v H' -> g v σc H' fun σ2 H2 => tt σ2 H2 fun b H3 =>
    if b = true then te σ2 H3 fun v H4 => ∃ y : Int, v = .int y /\ ∃ m', m' < m /\ W (i + 1) m' (Z45 ys y) σ2 H4 else ∃ m', m' < m /\ W (i + 1) m' ys σ2 H3) := by
 refine ⟨fun i m ys σc H => m = xs.length - i /\ i <= xs.length /\ Pv i ys σc H, ⟨_, rfl, Nat.zero_le _, h0⟩, ?_⟩
 rintro i m ys σc H ⟨rfl, hi, p⟩
 have q := hl i ys σc H p
 by_cases hlt : i < xs.length
 ·have hx : xs[i]? = some xs[i] := List.getElem?_eq_getElem hlt
  obtain ⟨z, _⟩ := hs i _ ys σc H hx hlt p
  refine .inr ⟨⟨xs, xs[i], q, hx⟩, z, fun v H' y => ?_⟩
  obtain ⟨e, y⟩ := y
  subst e
  exact (hs i v ys σc _ (y xs q) hlt p).2
 ·have e : i = xs.length := by omega
  subst e
  exact .inl ⟨⟨xs, q, Nat.le_refl _⟩, hd ys σc H p⟩
end
end L2
namespace L2
open PySem PySem.Spec PyProof.Rows
def evC : Const -> Option Th
 | .int i => some (.at (.int i))
 | .str x => if x.length <= 1000 then some (.at (.str x)) else none
 | .bool b => some (.at (.bl b))
 | .none => some (.at .non)
 | _ => none
def evs (f : Expr -> Option Th) : List Expr -> Option (List Th)
 | [] => some []
 | e :: es => match f e, evs f es with
  | some t, some ts => some (t :: ts)
  | _, _ => none
def evB : Operator -> Th -> Th -> Option Th
 | .Add, .tup a, .tup b => if a.length + b.length <= 1000 then some (.tup (a ++ b)) else none
 | .Add, .lst a, .lst b => if a.length + b.length <= 1000 then some (.lst (a ++ b)) else none
 | .Mult, .tup a, .at (.int n) => if 2 <= n /\ n <= 100 /\ 1 <= a.length /\ a.length <= 10 then some (.tup (List.replicate n.toNat a).flatten) else none
 | .Pow, .at (.int i), .at (.int j) => if 0 <= j /\ j <= 1000 /\ i.natAbs < 18446744073709551616 then some (.at (.int (i ^ j.toNat))) else none
 | _, _, _ => none
abbrev Gm := List (Str × Nat × Th)
def lk (G : Gm) (x : Str) : Option (Nat × Th) := (G.find? fun p => decide (p.1 = x)).map (·.2)
def ev (G : Gm) : Nat -> Expr -> Option Th
 | 0, _ => none
 | n + 1, e => match e with
  | .Constant c _ _ => evC c
  | .Name x _ => (lk G x).map (·.2)
  | .Tuple es _ _ => (match evs (ev G n) es with
   | some ts => if ts.length <= 1000 then some (.tup ts) else none
   | none => none)
  | .List es _ => (match evs (ev G n) es with
   | some ts => if ts.length <= 1000 then some (.lst ts) else none
   | none => none)
  | .UnaryOp op a _ => (match op, ev G n a with
   | .USub, some (.at (.int i)) => some (.at (.int (-i)))
   | _, _ => none)
  | .BinOp a op b _ => (match ev G n a, ev G n b with
   | some t, some u => evB op t u
   | _, _ => none)
  | .Subscript a (.Constant (.int i) _ _) _ => (match ev G n a with
   | some (.tup ts) => if 0 <= i then ts[i.toNat]? else none
   | _ => none)
  | _ => none
theorem Zkc {G : Gm} {n : Nat} {e : Expr} {r : Th} (h : ev G n e = some r) (env : Env) (es : List Expr) : starEach (e :: es) env = (false, eval e env) :: starEach es env := by
 cases n with
 | zero => cases h
 | succ n =>
  cases e with
  | Constant _ _ _ => rfl
  | Name _ _ => rfl
  | Tuple _ _ _ => rfl
  | List _ _ => rfl
  | UnaryOp _ _ _ => rfl
  | BinOp _ _ _ _ => rfl
  | Subscript _ _ _ => rfl
  | _ => cases h
def EvOk (G : Gm) (σ : St) (H : Hp) : Prop := ∀ p ∈ G, ∃ v, σ[p.2.1]? = some (some v) /\ IsTh H v p.2.2
theorem EvOk.same {G : Gm} {σ : St} {H H' : Hp} (E : EvOk G σ H) (s : Same H H') : EvOk G σ H' := fun p hp => by
 obtain ⟨v, e, q⟩ := E p hp
 exact ⟨v, e, IsTh.kp (Kp.of s) q⟩
theorem ev0 {σ : St} {H : Hp} : EvOk [] σ H := fun p hp => by cases hp
theorem Za1 {G : Gm} {σ : St} {H : Hp} {x : Str} {i : Nat} {t : Th} {v : V} (E : EvOk G σ H) (e : σ[i]? = some (some v)) (h : IsTh H v t) : EvOk ((x, i, t) :: G) σ H := fun p hp => by
 rcases List.mem_cons.mp hp with z | z
 ·subst z; exact ⟨v, e, h⟩
 ·exact E p z
def TEv (G : Gm) (t : Th) : TE := fun σ H Q => EvOk G σ H /\ ∀ v H', Same H H' -> IsTh H' v t -> Q v H'
def Zpn (G : Gm) (ts : List Th) : TA := fun σ H Q => EvOk G σ H /\ ∀ vs H', Same H H' -> IsThs H' vs ts -> Q vs H'
section
variable {X : Cx} {G : Gm}
def Zn1 (X : Cx) (G : Gm) : Prop := ∀ p ∈ G, X.N[p.2.1]? = some p.1 /\ Vis X.env.scope p.1 /\ (p.1 == ("__debug__" : Str)) = false /\ (p.1 == ("__classdict__" : Str)) = false
theorem Z54 : Zn1 X [] := fun p hp => by cases hp
theorem Z4w {x : Str} {i : Nat} {t : Th} (C : Zn1 X G) (h1 : X.N[i]? = some x) (h2 : Vis X.env.scope x) (h3 : (x == ("__debug__" : Str)) = false) (h4 : (x == ("__classdict__" : Str)) = false) : Zn1 X ((x, i, t) :: G) := fun p hp => by
 rcases List.mem_cons.mp hp with z | z
 ·subst z; exact ⟨h1, h2, h3, h4⟩
 ·exact C p z
theorem Zmi {x : Str} {i : Nat} {t : Th} (h : lk G x = some (i, t)) : (x, i, t) ∈ G := by
 unfold lk at h
 cases e : G.find? fun p => decide (p.1 = x) with
 | none => rw [e] at h; cases h
 | some p =>
  rw [e] at h
  have h1 := Option.some.inj h
  have h2 := List.mem_of_find?_eq_some e
  have h3 := List.find?_some e
  have h4 : p.1 = x := of_decide_eq_true h3
  obtain ⟨p1, p2⟩ := p
  simp only at h1 h4
  subst h1 h4
  exact h2
theorem Zbj {e : Expr} {v : V} {t : TE} (h : PE X e t) (i : ∀ σ H Q, Q v H -> t σ H Q) (hf : smallV v = true) : PE X e (TEv G (.at v)) :=
 Z5n h fun σ H Q ⟨_, q⟩ => i σ H Q (q v H (Same.refl H) (.at hf))
theorem Zmj {c : Const} {j : Nat} {p : Pos} {t : Th} (h : evC c = some t) : PE X (.Constant c j p) (TEv G t) := by
 cases c with
 | int i => cases h; exact Zbj Z04 (fun σ H Q q => q) rfl
 | str x =>
  have h : (if x.length <= 1000 then some (Th.at (V.str x)) else none) = some t := h
  by_cases hx : x.length <= 1000
  ·rw [if_pos hx] at h
   cases h
   exact Zbj Z0a (fun σ H Q q => q) (decide_eq_true hx)
  ·rw [if_neg hx] at h; cases h
 | bool b => cases h; exact Zbj Z29 (fun σ H Q q => q) rfl
 | none => cases h; exact Zbj Zd1 (fun σ H Q q => q) rfl
 | _ => cases h
theorem Zi9 {f : Expr -> Option Th} : ∀ (es : List Expr) {ts : List Th}, (∀ e t, f e = some t -> PE X e (TEv G t)) -> (∀ e r es, f e = some r -> starEach (e :: es) X.env = (false, eval e X.env) :: starEach es X.env) -> evs f es = some ts -> PA X es (Zpn G ts) := by
 intro es
 induction es with
 | nil => intro ts _ _ h; cases h; exact Zhx Z00 fun σ H Q ⟨_, q⟩ => q [] H (Same.refl H) .nil
 | cons e es ih =>
  intro ts hf hs h
  unfold evs at h
  split at h
  ·rename_i t1 ts2 h1 h2
   cases h
   refine Zhx (Z09 (hf e t1 h1) (ih hf hs h2) (hs e _ es h1)) fun σ H Q ⟨E, q⟩ => ⟨E, fun x H1 s1 d1 => ⟨E.same s1, fun xs H2 s2 d2 => ?_⟩⟩
   exact q (x :: xs) H2 (s1.trans s2) (.cons (IsTh.kp (Kp.of s2) d1) d2)
  ·cases h
theorem Zh2 {H : Hp} {vs : List V} {ts : List Th} (h : IsThs H vs ts) : ∀ n : Nat, IsThs H (List.replicate n vs).flatten (List.replicate n ts).flatten := by
 intro n
 induction n with
 | zero => exact .nil
 | succ n ih => rw [List.replicate_succ, List.replicate_succ, List.flatten_cons, List.flatten_cons]; exact IsThs.app _ h ih
theorem Zbk {n : Nat} (h : n <= 1000) : n <= sizeLine := Nat.le_trans h (by decide)
theorem Zbl {a b : Expr} {op : Operator} {pos : Pos} {t u z : Th} {r : R2} (ho : OpR X (binaryOp op) r) (ha : PE X a (TEv G t)) (hb : PE X b (TEv G u)) (h : ∀ x y H Q, IsTh H x t -> IsTh H y u -> (∀ v H', Same H H' -> IsTh H' v z -> Q v H') -> r x y H Q) : PE X (.BinOp a op b pos) (TEv G z) :=
 Z5n (Z0o ho ha hb) fun σ H Q ⟨E, q⟩ => ⟨E, fun x H1 s1 d1 => ⟨E.same s1, fun y H2 s2 d2 => h x y H2 Q (IsTh.kp (Kp.of s2) d1) d2 fun v H' s d => q v H' ((s1.trans s2).trans s) d⟩⟩
theorem Zmk {a b : Expr} {op : Operator} {pos : Pos} {t u z : Th} (ha : PE X a (TEv G t)) (hb : PE X b (TEv G u)) (h : evB op t u = some z) : PE X (.BinOp a op b pos) (TEv G z) := by
 unfold evB at h
 split at h
 ·rename_i ts us
  split at h
  ·rename_i hl
   cases h
   refine Zbl Zj1 ha hb fun x y H Q h1 h2 q => ?_
   obtain ⟨p1, vs, rfl, a1, a2⟩ := Z19 h1
   obtain ⟨p2, ws, rfl, b1, b2⟩ := Z19 h2
   have l1 := IsThs.len _ a2
   have l2 := IsThs.len _ b2
   exact ⟨p1, p2, vs, ws, rfl, rfl, a1, b1, Zbk (by omega), fun p H' s hp => q _ H' s (.tup hp (IsThs.app _ (IsThs.kp (Kp.of s) a2) (IsThs.kp (Kp.of s) b2)))⟩
  ·cases h
 ·rename_i ts us
  split at h
  ·rename_i hl
   cases h
   refine Zbl Zah ha hb fun x y H Q h1 h2 q => ?_
   obtain ⟨p1, vs, rfl, a1, a2⟩ := Zap h1
   obtain ⟨p2, ws, rfl, b1, b2⟩ := Zap h2
   have l1 := IsThs.len _ a2
   have l2 := IsThs.len _ b2
   refine ⟨p1, p2, vs, ws, rfl, rfl, a1, b1, Zbk (by omega), fun p hp => ?_⟩
   have s := Z02 (o := .lst (vs ++ ws)) hp
   exact q _ _ s (.lst Z01 (IsThs.app _ (IsThs.kp (Kp.of s) a2) (IsThs.kp (Kp.of s) b2)))
  ·cases h
 ·rename_i ts n
  split at h
  ·rename_i hm
   obtain ⟨m1, m2, m3, m4⟩ := hm
   cases h
   refine Zbl Ziz ha hb fun x y H Q h1 h2 q => ?_
   obtain ⟨p1, vs, rfl, a1, a2⟩ := Z19 h1
   obtain ⟨rfl, _⟩ := Z2b h2
   have l1 := IsThs.len _ a2
   refine ⟨p1, n, vs, rfl, rfl, SqT.of a1, (fun z => by rw [z] at l1; simp at l1; omega), m1, by omega, by omega, fun p hp => ?_⟩
   have s := Z02 (o := .tup (List.replicate n.toNat vs).flatten) hp
   exact q _ _ s (.tup Z01 (Zh2 (IsThs.kp (Kp.of s) a2) _))
  ·cases h
 ·rename_i i j
  split at h
  ·rename_i hm
   cases h
   refine Zbl Zhl ha hb fun x y H Q h1 h2 q => ?_
   obtain ⟨rfl, _⟩ := Z2b h1
   obtain ⟨rfl, _⟩ := Z2b h2
   exact ⟨i, j, rfl, rfl, ⟨hm.1, by omega, hm.2.2⟩, q _ H (Same.refl H) (.at rfl)⟩
  ·cases h
 ·cases h
theorem Z55 (C : Zn1 X G) : ∀ (n : Nat) (e : Expr) (t : Th), ev G n e = some t -> PE X e (TEv G t) := by
 intro n
 induction n with
 | zero => intro e t h; cases h
 | succ n ih =>
  intro e t h
  have hs : ∀ (e : Expr) (r : Th) (es : List Expr), ev G n e = some r -> starEach (e :: es) X.env = (false, eval e X.env) :: starEach es X.env := fun e r es h => Zkc h X.env es
  unfold ev at h
  split at h
  ·exact Zmj h
  ·rename_i x p
   cases h1 : lk G x with
   | none => rw [h1] at h; cases h
   | some r =>
    obtain ⟨i, k1⟩ := r
    rw [h1] at h
    cases h
    have hm := Zmi h1
    obtain ⟨g1, g2, g3, g4⟩ := C _ hm
    refine Z5n (Zhi g1 g2 g3 g4) fun σ H Q ⟨E, q⟩ => ?_
    obtain ⟨v, e, dv⟩ := E _ hm
    exact ⟨v, e, q v H (Same.refl H) dv⟩
  ·split at h
   ·rename_i ts h1
    split at h
    ·rename_i hl
     cases h
     refine Z5n (Z1g (Zi9 _ ih hs h1)) fun σ H Q ⟨E, q⟩ => ⟨E, fun xs H1 s1 d1 => ⟨Zbk (by have := IsThs.len _ d1; omega), fun p hp => ?_⟩⟩
     have s := Z02 (o := .tup xs) hp
     exact q _ _ (s1.trans s) (.tup Z01 (IsThs.kp (Kp.of s) d1))
    ·cases h
   ·cases h
  ·split at h
   ·rename_i ts h1
    split at h
    ·rename_i hl
     cases h
     refine Z5n (Z1h (Zi9 _ ih hs h1)) fun σ H Q ⟨E, q⟩ => ⟨E, fun xs H1 s1 d1 => ⟨Zbk (by have := IsThs.len _ d1; omega), fun p hp => ?_⟩⟩
     have s := Z02 (o := .lst xs) hp
     exact q _ _ (s1.trans s) (.lst Z01 (IsThs.kp (Kp.of s) d1))
    ·cases h
   ·cases h
  ·split at h
   ·rename_i i h1
    cases h
    refine Z5n (Zl9 Zhm (ih _ _ h1)) fun σ H Q ⟨E, q⟩ => ⟨E, fun x H1 s1 d1 => ?_⟩
    obtain ⟨rfl, _⟩ := Z2b d1
    exact ⟨i, rfl, q _ H1 s1 (.at rfl)⟩
   ·cases h
  ·split at h
   ·rename_i t1 u1 h1 h2
    exact Zmk (ih _ _ h1) (ih _ _ h2) h
   ·cases h
  ·rename_i a i j p pos
   split at h
   ·rename_i ts h1
    split at h
    ·rename_i hi
     refine Z5n (Z10 Z1c (ih _ _ h1) Z04 (fun _ _ => rfl)) fun σ H Q ⟨E, q⟩ => ⟨E, fun x H1 s1 d1 => ?_⟩
     obtain ⟨p1, vs, rfl, a1, a2⟩ := Z19 d1
     have l1 := IsThs.len _ a2
     obtain ⟨hlt, _⟩ := List.getElem?_eq_some_iff.mp h
     obtain ⟨v, hv⟩ : ∃ v, vs[i.toNat]? = some v := ⟨_, List.getElem?_eq_getElem (by omega)⟩
     obtain ⟨t', e1, e2⟩ := Z17 _ a2 hv
     rw [h] at e1
     cases e1
     have ei : i = (i.toNat : Int) := by omega
     exact ⟨p1, vs, i, v, rfl, rfl, SqT.of a1, by rw [ei]; exact Z2m hv, q v H1 s1 e2⟩
    ·cases h
   ·cases h
  ·cases h
end
end L2
namespace Srt
open PySem PyProof.Rows PySem.Spec
section
variable {P : Program} {w : World} {A : Around} {E : Value -> Shared -> Prop} {s : Shared}
theorem Zct {a : Addr} {l : List Int} {Q : Value -> Shared -> Prop} (hh : A.handled = none) (hS : IS P w s.heap a l) (h64 : l.length < 64)
  (h : ∀ (s1 : Shared) (h' : Heap) (out : List Value) (ns : List Int) (e : Nat), IntsAre out ns -> ns.Perm l -> ns.Pairwise (· <= ·) -> h'.get? s1.heap.objs.size = some (seqObj "list" out.toArray e) -> s1.gens = s.gens -> s1.os = s.os →
   (∀ b o, s.heap.get? b = some o -> s1.heap.get? b = some o) -> (∀ b o, s1.heap.get? b = some o -> h'.get? b = some o) -> Q (.ref s1.heap.objs.size) { s1 with heap := h' }) : wpAny (model P w) A (call (.builtin "sorted") [.ref a]) Q E s := by
 refine Calls.call_function_entry kind_sorted plain_sorted entry_sorted (args_sorted1 _) ?_
 unfold Builtin.«sorted»
 refine wpAny_bind (m := checkCount "sorted" 1 1 _) (wpAny_pure ?_)
 refine wpAny_bind (Z9o hh hS fun vs ns s1 hi hp hg ho hk => ?_)
 have lv : vs.length = l.length := by rw [IntsAre.length hi, hp.length_eq]
 have lz : vs.length <= sizeLine := by
  rw [sizeLine_eq]
  omega
 refine wpAny_bind (wpAny_newList ?_)
 have g0 : (s1.heap.push (seqObj "list" vs.toArray 0)).get? s1.heap.objs.size = some (seqObj "list" vs.toArray 0) := Heap.get?_push_size _ rfl
 show wpAny _ _ _ _ _ { s1 with heap := s1.heap.push (seqObj "list" vs.toArray 0) }
 refine wpAny_bind (wpAny_holding (wpAny_call_entry slot_list_sort ⟨_, g0, rfl⟩ entry_list_sort (list_sort_tree (s := { s1 with heap := s1.heap.push (seqObj "list" vs.toArray 0) }) g0 hi (by omega) fun out ns' a1 a2 a3 => ⟨_, rfl, ?_⟩) (args_list_sort _)))
 obtain ⟨e, he⟩ := sortedHeap_at (out := out) g0
 refine wpAny_pure ⟨_, rfl, h s1 _ out.toList ns' e a1 (a2.trans hp) a3 he hg ho hk fun b o z => ?_⟩
 have z1 : (s1.heap.push (seqObj "list" vs.toArray 0)).get? b = some o := Heap.get?_push_of_some _ z
 rw [sortedHeap_old (Nat.ne_of_lt (Heap.lt_size z)) (Heap.lt_size z1)]
 exact z1
end
end Srt
namespace L2
open PySem PySem.Spec PyProof.Rows Srt
section
variable {X : Cx}
theorem Z28 (hc : X.calm = true) : Z3k X (.builtin "sorted") (fun xs H Q => ∃ (p : Addr) (l : List Int), xs = [.ref p] /\ H p = some (Z81 X.prog X.w p l) /\ l.length < 64 ∧
  ∀ (ns : List Int) a, ns.Perm l -> ns.Pairwise (· <= ·) -> H a = none -> Q (.ref a) (upd H a (.lst (ns.map V.int)))) := by
 intro pins s σ H xs us Q I r h
 obtain ⟨p, l, rfl, hp, hz, q⟩ := h
 obtain ⟨u, rfl, rx⟩ := Z84 r
 cases rx
 refine Zct (I.ok.hd hc) (I.iset hp) hz fun s1 h' out ns e hi pm srt g hg ho k1 k2 => ?_
 have I1 : Inv X pins σ H s1 := I.call' (ch := []) ho (Un.kept k1) (I.hok.kept k1) (by rw [hg]; exact I.bare) fun b z => absurd z (by simp)
 have ln : (ns.map V.int).length <= sizeLine := by
  rw [List.length_map, pm.length_eq, sizeLine_eq]
  omega
 exact ⟨.ref s1.heap.objs.size, _, I1.laid (t' := s1.toks) k2 (Nat.le_refl _) (show ObjOk X.prog X.w _ h' _ (.lst (ns.map V.int)) from ⟨ln, out, e, Zax hi, g⟩), rfl, q ns _ pm srt (I1.hok.fresh (Nat.le_refl _))⟩
end
end L2
namespace L2
open PySem PySem.Spec PyProof.Rows
def Zo6 (ta : TA) : TE := fun σ H Q => ta σ H fun vs H1 => ∃ n : Nat, vs = [.int (n : Nat)] /\ n <= 1000 /\ ∀ l, H1 l = none -> Q (.ref l) (upd H1 l (.lst ((List.range n).map fun (i : Nat) => V.int (i : Nat))))
section
variable {X : Cx}
theorem Z98 {a : Expr} {ta : TA} {p q pos pos2 : Pos} (hc : X.calm = true) (hg1 : Gl X "list") (hm1 : X.mg "list" = none) (hg2 : Gl X "range") (hm2 : X.mg "range" = none) (ha : PA X [a] ta) (he : starEach [a] X.env = [(false, eval a X.env)] := by rfl)
  (hs : starEach [.Call (.Name "range" q) [a] [] pos2] X.env = [(false, eval (.Call (.Name "range" q) [a] [] pos2) X.env)] := by rfl) :
  PE X (.Call (.Name "list" p) [.Call (.Name "range" q) [a] [] pos2] [] pos) (Zo6 ta) := by
 intro pins s σ H Q I h
 refine wpAny_Call_Name_kw (Z5a I hg1 hm1 (by decide +kernel : bootBuiltins "list" = some (.type "list")) ?_)
 refine PyProof.Rows.callWith_type1 ?_ (by rw [hs]; rfl) rfl
 rw [hs]
 show wpAny _ _ (spliced [(false, eval (.Call (.Name "range" q) [a] [] pos2) X.env)]) _ _ s
 refine Calls.spliced_cons ?_
 refine wpAny_Call_Name_kw (Z5a I hg2 hm2 boot_range ?_)
 refine PyProof.Rows.callWith_type1 (thn (ha pos2 pins s σ H _ I h) fun us s1 ⟨vs, H1, I1, r1, q1⟩ => ?_) he rfl
 obtain ⟨n, rfl, hn, q1⟩ := q1
 cases r1 with
 | cons r rr =>
  cases rr
  obtain ⟨t, rfl⟩ := r
  refine call_range_1 ?_
  refine Calls.spliced_nil ?_
  have I2 : Inv X pins σ H1 { s1 with heap := s1.heap.push { cls := .type "range", data := .fields #[.int 0 s1.toks, .int (n : Nat) t, .int 1 (s1.toks + 1)] }, toks := s1.toks + 1 + 1 } := I1.kept fun b o e => Heap.get?_push_of_some _ e
  refine call_list_range (n := n) (I2.ok.hd hc) (IsRange.new ..) (small_one (by omega) (by omega) (by omega) (by omega)) (by rw [rangeSize_one]; split <;> omega) (by omega) fun h' tk acc c' hk hS hacc => ?_
  have hl : ((List.range n).map fun (i : Nat) => V.int (i : Nat)).length <= sizeLine := by rw [List.length_map, List.length_range, sizeLine_eq]; omega
  have hv : Vals ((List.range n).map fun (i : Nat) => V.int (i : Nat)) acc.toList := by
   have e1 : acc.toList = (List.range n).map fun i => acc.toList.getD i .none := by
    refine List.ext_getElem? fun j => ?_
    rw [List.getElem?_map]
    by_cases hj : j < n
    ·rw [List.getElem?_range hj, Option.map_some, List.getD_eq_getElem?_getD]
     have : j < acc.toList.length := by rw [Array.length_toList, hacc.1]; exact hj
     rw [List.getElem?_eq_getElem this]
     rfl
    ·rw [List.getElem?_eq_none (by rw [Array.length_toList, hacc.1]; omega), List.getElem?_eq_none (by rw [List.length_range]; omega)]
     rfl
   have key : ∀ l : List Nat, (∀ j ∈ l, j < n) -> Vals (l.map fun (i : Nat) => V.int (i : Nat)) (l.map fun i => acc.toList.getD i .none) := by
    intro l
    induction l with
    | nil => intro _; exact .nil
    | cons j l ih =>
     intro hj
     refine .cons ?_ (ih fun x hx => hj x (List.mem_cons_of_mem _ hx))
     have hjn := hj j (List.mem_cons_self ..)
     have hlt : j < acc.size := by rw [hacc.1]; exact hjn
     obtain ⟨tk', e⟩ := hacc.2 j acc[j] (by rw [Array.getElem?_eq_getElem hlt])
     have e2 : acc.toList.getD j .none = .int ((j : Nat) : Int) tk' := by
      rw [List.getD_eq_getElem?_getD, Array.getElem?_toList, Array.getElem?_eq_getElem hlt]
      show acc[j] = _
      rw [e]
      congr 1
      omega
     show RelV (V.int ((j : Nat) : Int)) (acc.toList.getD j .none)
     rw [e2]
     exact ⟨tk', rfl⟩
   rw [e1]
   exact key _ fun j hj => List.mem_range.mp hj
  exact ⟨.ref _, _, I2.laid (t' := tk) (fun b o e => hk b o e) (Nat.le_refl _) (show ObjOk X.prog X.w _ h' _ (.lst _) from ⟨hl, acc.toList, c', hv, by simpa using hS⟩), rfl, q1 _ (I2.hok.fresh (Nat.le_refl _))⟩
end
end L2
namespace K15
open PySem L2 Srt
def rw0 (w : Str) (hd : List V) (m : Nat) : Th := .tup [.tup (.at (.str w) :: hd.map Th.at), .at (.int (m : Nat))]
theorem Zf4 {w : Str} {hd : List V} {ks : List Th} (nk : ∀ k ∈ ks, L2.isTup k = true) : Z60 (nd w hd ks) = rw0 w hd ks.length :: (ks.map Z60).flatten := by
 have e1 : Z0x (.at (.str w) :: (hd.map Th.at ++ ks)) = ks := by
  unfold Z0x
  rw [List.filter_cons, if_neg (by simp [L2.isTup]), List.filter_append, Z7m, List.nil_append, Z59 nk]
 have e2 : Z7e (.at (.str w) :: (hd.map Th.at ++ ks)) = .at (.str w) :: hd.map Th.at := by
  unfold Z7e
  rw [List.filter_cons, if_pos (by rfl), List.filter_append, Zba, Z92 nk, List.append_nil]
 unfold nd
 rw [Zeo, Zjf, e1, e2]
 rfl
def Rw (r : Th) : Prop := ∃ (w : Str) (hd : List V) (m : Nat), r = rw0 w hd m /\ m <= 6 /\ hd.length <= 1 /\ (∀ v ∈ hd, plT (.at v) = true) /\ (w = "hole" -> ∃ i : Nat, hd = [.int i] /\ m = 0)
theorem Zkd : ∀ (n : Nat) {t : Th}, PfT n t -> ∀ r ∈ Z60 t, Rw r := by
 intro n
 induction n with
 | zero => intro t h; exact h.elim
 | succ n ih =>
  intro t h r hr
  obtain ⟨w, hd, ks, rfl, h1, h2, h3, h4, h5, h6⟩ := h
  rw [Zf4 fun k hk => (h6 k hk).isTup] at hr
  rcases List.mem_cons.mp hr with z | z
  ·refine ⟨w, hd, ks.length, z, h5.1, h1, h2, fun q => ?_⟩
   obtain ⟨i, e1, e2⟩ := h4 q
   exact ⟨i, e1, by rw [e2]; rfl⟩
  ·obtain ⟨l, hl, hrl⟩ := List.mem_flatten.mp z
   obtain ⟨k, hk, rfl⟩ := List.mem_map.mp hl
   exact ih (h6 k hk) r hrl
def Zia : Th -> List Nat
 | .tup [.tup (.at (.str w) :: .at (.int i) :: _), _] => if w = "hole" then [i.toNat] else []
 | _ => []
theorem Zf5 {i : Nat} {m : Nat} : Zia (rw0 "hole" [.int (i : Nat)] m) = [i] := by
 show (if ("hole" : Str) = "hole" then [((i : Nat) : Int).toNat] else []) = [i]
 rw [if_pos rfl, Int.toNat_natCast]
theorem Zib {w : Str} {hd : List V} {m : Nat} (h : w ≠ "hole") : Zia (rw0 w hd m) = [] := by
 unfold rw0 Zia
 split
 ·next w' i _ _ e =>
  injection e with e
  injection e with e1 e2
  injection e1 with e1
  injection e1 with e1 _
  injection e1 with e1
  injection e1 with e1
  rw [if_neg (by rw [<- e1]; exact h)]
 ·rfl
theorem Zf6 : ∀ (n : Nat) {t : Th}, PfT n t -> ∀ i, i ∈ ((Z60 t).map Zia).flatten ↔ i ∈ hs t := by
 intro n
 induction n with
 | zero => intro t h; exact h.elim
 | succ n ih =>
  intro t h i
  obtain ⟨w, hd, ks, rfl, h1, h2, h3, h4, h5, h6⟩ := h
  rw [Zf4 fun k hk => (h6 k hk).isTup, List.map_cons, List.flatten_cons, List.mem_append]
  by_cases hw : w = "hole"
  ·obtain ⟨j, rfl, rfl⟩ := h4 hw
   subst hw
   rw [Zf5, Z26]
   simp
  ·rw [Zib hw, Z35 hw]
   have : ∀ l : List Th, (∀ k ∈ l, PfT n k) -> (i ∈ (((l.map Z60).flatten).map Zia).flatten ↔ ∃ k ∈ l, i ∈ hs k) := by
    intro l
    induction l with
    | nil => intro _; simp
    | cons k l il =>
     intro hl
     rw [List.map_cons, List.flatten_cons, List.map_append, List.flatten_append, List.mem_append, ih (hl k (List.mem_cons_self ..)), il fun y hy => hl y (List.mem_cons_of_mem _ hy)]
     simp
   rw [this ks h6]
   simp
abbrev iz (l : List Nat) : List Int := l.map fun (i : Nat) => (i : Int)
def HN (t : Th) (ns : List Int) : Prop := ∃ ks : List Nat, ks.Nodup /\ (∀ k, k ∈ ks ↔ k ∈ hs t) /\ ns.Perm (iz ks) /\ ns.Pairwise (· <= ·)
theorem HN.one {t : Th} {a b : List Int} (h : HN t a) (g : HN t b) : a = b := by
 obtain ⟨k1, n1, m1, p1, s1⟩ := h
 obtain ⟨k2, n2, m2, p2, s2⟩ := g
 have p : k1.Perm k2 := (List.perm_ext_iff_of_nodup n1 n2).mpr fun i => by rw [m1, m2]
 exact (p1.trans ((p.map _).trans p2.symm)).eq_of_pairwise (le := (· <= ·)) (fun x y _ _ h1 h2 => Int.le_antisymm h1 h2) s1 s2
def Few (t : Th) : Prop := ∀ ks : List Nat, ks.Nodup -> (∀ k ∈ ks, k ∈ hs t) -> ks.length < 64
theorem HN.few {t : Th} {ns : List Int} (h : HN t ns) (f : Few t) : ns.length < 64 := by
 obtain ⟨ks, n1, m1, p1, _⟩ := h
 rw [p1.length_eq, List.length_map]
 exact f ks n1 fun k hk => (m1 k).mp hk
def Za2 (N : Nat) : Sp := fun vs H Q _ => ∃ (v : V) (t : Th), vs = [v] /\ IsTh H v t /\ PfT N t /\ Th.sz t <= 100000 /\ Few t ∧
 ∀ (p : Addr) (ns : List Int) H', Same H H' -> H' p = some (.lst (ns.map V.int)) -> HN t ns -> Q (.ref p) H'
def Zf7 (N : Nat) : Sp := fun vs H Q _ => ∃ (v : V) (t : Th), vs = [v] /\ IsTh H v t /\ PfT N t /\ Th.sz t <= 100000 /\ Few t /\ ∀ (ns : List Int) H', Same H H' -> HN t ns -> Q (.int (ns.length : Nat)) H'
theorem Zo7 : (["lead", "many"] : List Str).Nodup := by decide +kernel
theorem Zml {H : Hp} {x : V} {w : Str} {hd : List V} {m : Nat} (h : IsTh H x (rw0 w hd m)) : ∃ (c la : Addr), x = .ref c /\ H c = some (.tup [.ref la, .int (m : Nat)]) /\ H la = some (.tup (.str w :: hd)) := by
 obtain ⟨c, vs, rfl, hc, hv⟩ := Z19 h
 cases hv with
 | cons a b =>
  cases b with
  | cons b1 b2 =>
   cases b2
   obtain ⟨la, us, rfl, hla, hu⟩ := Z19 a
   obtain ⟨rfl, _⟩ := Z2b b1
   cases hu with
   | cons u1 u2 =>
    obtain ⟨rfl, _⟩ := Z2b u1
    have e : ∀ (l : List V) {ws : List V}, IsThs H ws (l.map Th.at) -> ws = l := by
     intro l
     induction l with
     | nil => intro ws q; cases q; rfl
     | cons y l il =>
      intro ws q
      cases q with
      | cons q1 q2 => rw [(Z2b q1).1, il q2]
    rw [e hd u2] at hla
    exact ⟨c, la, rfl, hc, hla⟩
theorem Zke {ks : List Nat} {k : Nat} : Z45 (iz ks) (k : Int) = iz (if k ∈ ks then ks else ks ++ [k]) := by
 unfold Z45 iz
 have : ((k : Int) ∈ ks.map fun (i : Nat) => (i : Int)) ↔ k ∈ ks := by
  rw [List.mem_map]
  constructor
  ·rintro ⟨j, hj, e⟩
   have : j = k := by omega
   rw [<- this]; exact hj
  ·exact fun h => ⟨k, h, rfl⟩
 by_cases h : k ∈ ks
 ·rw [if_pos (this.mpr h), if_pos h]
 ·rw [if_neg (fun z => h (this.mp z)), if_neg h, List.map_append]
  rfl
structure HH (K : PySem.W.Frag) (mg : Str -> Option Value) (fP fH fS fF : Addr) (dP dH dS dF : FuncData) : Prop where
 U : HT K mg fP fH fS dP dH dS
 F : Fun K "flat" "flat" Zci fF dF
 bF : Binds K dF ["tree"] []
 mF : mg "flat" = some (.ref fF)
 srt : mg "sorted" = none
section
variable {P : Program} {w : World} {K : PySem.W.Frag} {mg : Str -> Option Value} {base : Heap} {fP fH fS fF : Addr} {dP dH dS dF : FuncData}
theorem Zkf : FnScope ["b"] ["b"] (Z03 Z1a) := ⟨rfl, rfl, rfl, by decide +kernel, rfl, by decide +kernel, by decide +kernel⟩
theorem Zbm {f : Addr} {fd : FuncData} (F : Fun K "hole_numbers" "hole_numbers" Z1a f fd) (W : HH K mg fP fH fS fF dP dH dS dF) (N : Nat) : FnOk P w K mg base CX0 4 f fd ["b"] (Za2 N) := by
 have GF : FnOk P w K mg base CX0 3 fF dF ["tree"] (Zi0 N) := Zjg W.F W.U N
 refine F.ok Zkf (fun vs H Q E h => ?_) (fun cdv A outer s H vs Q E hr h => ?_)
 ·obtain ⟨v, t, rfl, _⟩ := h
  rfl
 ·obtain ⟨v, t, rfl, ht, hpf, hz, hm, k⟩ := h
  have hsz : sizeLine = 16777216 := sizeLine_eq
  refine' ⟨?tt, ?body, ?fin⟩
  case body =>
   refine' Z05 (Z0d (Z0c (id := "sorted") (Z28 rfl) (by rfl) W.srt (by decide +kernel) (Z09 (Zh1 (N' := ["lead", "many"]) (src := [none, none]) ?k1 ?k5 ?k6 ?k7) Z00)))
   case k1 => rfl
   case k5 => exact Z0p (Z03 Z1a) rfl ["b"] rfl (by decide +kernel)
   case k6 => exact Z2k (Z07 GF hr (by rfl) W.mF W.F.kp W.bF .nil Z0e (Z0k (pv 0) Z00))
   case k7 => exact fun cl C ex s0 H0 => ⟨Zb4 (K := K) (i := 0) (j := 1) rfl rfl Zo7 rfl (Or.inl rfl) rfl (Or.inl rfl) (Or.inr rfl) (Or.inr rfl), Z4h (Z0b Z1f (Z10 (Zdt (K := K) rfl) (pv 0) Z04 (fun _ _ => rfl)) Z0a (by with_unfolding_all rfl)), Z10 (Zdt (K := K) rfl) (pv 0) Z04 (fun _ _ => rfl)⟩
  case fin =>
   refine ⟨_, rfl, v, t, rfl, ht, PfT.ok N hpf, hz, fun p ws H1 s1 hp0 hp hws => ?_⟩
   have hwl := IsThs.len _ hws
   refine ⟨p, rfl, ⟨_, SqL.of hp⟩, Zcs (K := K) (a := p) (xs := ws) (fun i ys σc H' => ∃ (o o' : Option V) (ks : List Nat), σc = [o, o'] /\ H' = H1 /\ ys = iz ks /\ ks.Nodup /\ ∀ k, k ∈ ks ↔ k ∈ (((Z60 t).take i).map Zia).flatten)
    ⟨none, none, [], rfl, rfl, rfl, List.nodup_nil, fun k => by simp⟩ (fun i ys σc H' ⟨_, _, _, _, e, _⟩ => by rw [e]; exact SqL.of hp) ?_ ?_⟩
   ·rintro i x ys σc H' hx hi ⟨o, o', ks, rfl, rfl, rfl, hnd, hks⟩
    obtain ⟨r, hri, hxr⟩ := Z17 _ hws hx
    have hrm := List.mem_of_getElem? hri
    obtain ⟨w', hd, m', rfl, hm6, hd1, hpl, hho⟩ := Zkd N hpf r hrm
    obtain ⟨c, la, rfl, hc, hla⟩ := Zml hxr
    have hlen := hm ks hnd fun k hk => (Zf6 N hpf k).mp (by
     obtain ⟨l, hl, hkl⟩ := List.mem_flatten.mp ((hks k).mp hk)
     obtain ⟨r', hr', rfl⟩ := List.mem_map.mp hl
     exact List.mem_flatten.mpr ⟨_, List.mem_map.mpr ⟨r', List.mem_of_mem_take hr', rfl⟩, hkl⟩)
    have hnext : ∀ k, k ∈ (((Z60 t).take (i + 1)).map Zia).flatten ↔ k ∈ ks ∨ k ∈ Zia (rw0 w' hd m') := fun k => by
     rw [List.take_add_one, hri, List.map_append, List.flatten_append, List.mem_append, <- hks k]
     simp
    refine ⟨by rw [List.length_map]; omega, c, _, rfl, SqT.of hc, rfl, _, _, rfl, _, _, rfl, rfl, ?_⟩
    refine ⟨_, rfl, la, _, _, .str w', rfl, rfl, SqT.of hla, Z1v _ _, rfl, _, rfl, Z16 (fun g => ?_) (fun g => ?_)⟩
    ·have hw : w' = "hole" := by simpa using g
     obtain ⟨j, rfl, rfl⟩ := hho hw
     subst hw
     rw [Zf5] at hnext
     refine ⟨_, rfl, la, _, _, .int (j : Nat), rfl, rfl, SqT.of hla, Z30 _ _ _, (j : Int), rfl, nx hi ⟨_, _, if j ∈ ks then ks else ks ++ [j], rfl, rfl, Zke, ?_, fun k => ?_⟩⟩
     ·by_cases hj : j ∈ ks
      ·rw [if_pos hj]; exact hnd
      ·rw [if_neg hj]
       exact List.nodup_append.mpr ⟨hnd, by simp, fun a ha b hb e => hj (by rw [List.mem_singleton] at hb; rw [<- hb, <- e]; exact ha)⟩
     ·rw [hnext k]
      by_cases hj : j ∈ ks
      ·rw [if_pos hj, List.mem_singleton]
       exact ⟨fun z => .inl z, fun z => z.elim id fun q => by rw [q]; exact hj⟩
      ·rw [if_neg hj, List.mem_append]
    ·have hw : w' ≠ "hole" := fun z => g (by simp [z])
     rw [Zib hw] at hnext
     exact nx hi ⟨_, _, ks, rfl, rfl, rfl, hnd, fun k => by rw [hnext k]; simp⟩
   ·rintro ys σc H' ⟨o, o', ks, rfl, rfl, rfl, hnd, hks⟩ l hl
    rw [List.take_of_length_le (by omega)] at hks
    have hkm : ∀ i, i ∈ ks ↔ i ∈ hs t := fun i => by rw [hks, Zf6 N hpf]
    have hlen := hm ks hnd fun i hi => (hkm i).mp hi
    refine ⟨l, iz ks, rfl, Z01, by rw [List.length_map]; omega, fun ns a pm srt ha => ?_⟩
    exact k _ ns _ ((s1.trans (Z02 hl)).trans (Z02 ha)) Z01 ⟨ks, hnd, hkm, pm, srt⟩
theorem Zkg : FnScope ["pattern"] ["pattern"] (Z03 Z2h) := ⟨rfl, rfl, rfl, by decide +kernel, rfl, by decide +kernel, by decide +kernel⟩
theorem Zh3 {f fN : Addr} {fd dN : FuncData} (F : Fun K "hole_count" "hole_count" Z2h f fd) (W : HH K mg fP fH fS fF dP dH dS dF) (FN : Fun K "hole_numbers" "hole_numbers" Z1a fN dN) (bN : Binds K dN ["b"] []) (mN : mg "hole_numbers" = some (.ref fN)) (N : Nat) :
  FnOk P w K mg base CX0 5 f fd ["pattern"] (Zf7 N) := by
 have GN : FnOk P w K mg base CX0 4 fN dN ["b"] (Za2 N) := Zbm FN W N
 refine F.ok Zkg (fun vs H Q E h => ?_) (fun cdv A outer s H vs Q E hr h => ?_)
 ·obtain ⟨v, t, rfl, _⟩ := h
  rfl
 ·obtain ⟨v, t, rfl, ht, hpf, hz, hm, k⟩ := h
  refine ⟨_, Z05 (Z0d (Z0c Z0j (by rfl) W.U.T.len PySem.boot_len (Z40 (Z07 GN hr (by rfl) mN FN.kp bN .nil Z0e (Z0k (pv 0) Z00)) Z00))), ?_⟩
  refine ⟨_, rfl, v, t, rfl, ht, hpf, hz, hm, fun p ns H1 s1 hp hn => ⟨p, _, rfl, .inl (SqL.of hp), ?_⟩⟩
  rw [List.length_map]
  exact k ns _ s1 hn
end
def Kt (H H' : Hp) : Prop := ∀ a xs, (H a = some (.tup xs) -> H' a = some (.tup xs)) /\ (H a = some (.lst xs) -> H' a = some (.lst xs))
theorem Kt.ext {H : Hp} {b : Addr} {φ : Heap -> Prop} {o : HO} (h : H b = some (.ext φ)) : Kt H (upd H b o) := fun c xs => by
 refine ⟨fun e => ?_, fun e => ?_⟩
 ·rw [Z0g (Z3i e h (by intro q; cases q))]
  exact e
 ·rw [Z0g (Z3i e h (by intro q; cases q))]
  exact e
mutual
theorem Zo8 {H H' : Hp} (k : Kt H H') : ∀ {v : V} {t : Th}, IsTh H v t -> IsTh H' v t
 | _, _, .at f => .at f
 | _, _, .tup h r => .tup ((k _ _).1 h) (Zbn k r)
 | _, _, .lst h r => .lst ((k _ _).2 h) (Zbn k r)
theorem Zbn {H H' : Hp} (k : Kt H H') : ∀ {vs : List V} {ts : List Th}, IsThs H vs ts -> IsThs H' vs ts
 | _, _, .nil => .nil
 | _, _, .cons h r => .cons (Zo8 k h) (Zbn k r)
end
def OwT : Nat -> Th -> Prop
 | 0, _ => False
 | n + 1, t => ∃ (w : Str) (ts : List Th), t = .tup (.at (.str w) :: ts) /\ (w = "let" -> ∃ k1 k2, ts = [k1, k2] /\ isTup k1 = true /\ isTup k2 = true) /\ (w = "own" -> ∃ i : Int, ts = [.at (.int i)] /\ 0 <= i) /\ ∀ x ∈ ts, isTup x = true -> OwT n x
theorem OwT.up : ∀ (n : Nat) {t : Th}, OwT n t -> OwT (n + 1) t := by
 intro n
 induction n with
 | zero => intro t h; exact h.elim
 | succ n ih =>
  intro t h
  obtain ⟨w, ts, e, h1, h2, h3⟩ := h
  exact ⟨w, ts, e, h1, h2, fun x hx ht => ih (h3 x hx ht)⟩
theorem OwT.ok : ∀ (n : Nat) {t : Th}, OwT n t -> OkT n t := by
 intro n
 induction n with
 | zero => intro t h; exact h.elim
 | succ n ih =>
  intro t h
  obtain ⟨w, ts, e, h1, h2, h3⟩ := h
  refine ⟨w, ts, e, fun z => ?_, fun x hx ht => ih (h3 x hx ht)⟩
  obtain ⟨k1, k2, rfl, e1, e2⟩ := h1 z
  unfold Z0x
  rw [List.filter_cons_of_pos e1, List.filter_cons_of_pos e2]
  rfl
def dn (l : List Int) : List Int := (l.filter fun i => decide (0 < i)).map (· - 1)
def dnI (l : Bool) (i : Nat) (ys : List Int) : List Int := if l = true /\ i = 1 then dn ys else ys
def Zcu : Th -> Option Int
 | .tup [.at (.str w), .at (.int i)] => if w = "own" then some i else none
 | _ => none
def Z99 (t : Th) : List Int := (Zcu t).toList
mutual
def asT : Th -> List Int
 | .tup xs => Z99 (.tup xs) ++ asI (Z1y xs) 0 xs
 | .at _ => []
 | .lst _ => []
def asI (l : Bool) : Nat -> List Th -> List Int
 | _, [] => []
 | i, x :: xs => if isTup x = true then dnI l i (asT x) ++ asI l (i + 1) xs else asI l i xs
end
theorem Zf8 : ∀ (xs : List Th) (i : Nat), asI false i xs = ((Z0x xs).map asT).flatten := by
 intro xs
 induction xs with
 | nil => intro i; simp [asI, Z0x]
 | cons x xs ih =>
  intro i
  rw [asI]
  unfold Z0x
  rw [List.filter_cons]
  split
  ·rw [ih, List.map_cons, List.flatten_cons]
   rfl
  ·rw [ih]
   rfl
theorem Zbo {w : Str} {k1 k2 : Th} (h1 : isTup k1 = true) : Z99 (.tup [.at (.str w), k1, k2]) = [] := by
 cases k1 with
 | tup xs => rfl
 | «at» v => cases h1
 | lst xs => cases h1
theorem Z7t {w : Str} {k1 k2 : Th} (hw : w = "let") (h1 : isTup k1 = true) (h2 : isTup k2 = true) : asT (.tup [.at (.str w), k1, k2]) = asT k1 ++ dn (asT k2) := by
 have e1 : Z1y [.at (.str w), k1, k2] = true := decide_eq_true hw
 have e2 := Zbo (w := w) (k2 := k2) h1
 have e3 : isTup (.at (.str w)) = false := rfl
 rw [asT, e1, e2, List.nil_append, asI, e3, if_neg Bool.false_ne_true, asI, if_pos h1, asI, if_pos h2, asI, List.append_nil]
 rfl
theorem Z2j {w : Str} {ts : List Th} (hw : w ≠ "let") : asT (.tup (.at (.str w) :: ts)) = Z99 (.tup (.at (.str w) :: ts)) ++ ((Z0x ts).map asT).flatten := by
 have e1 : Z1y (.at (.str w) :: ts) = false := decide_eq_false hw
 rw [asT, e1, Zf8]
 rfl
def Z2p (s : Int × List Int) (p : Str × Th) : Int × List Int :=
 if p.1 = "opened" then (s.1 + 1, s.2) else if p.1 = "node" then (s.1, s.2 ++ (match Zcu p.2 with | some i => if s.1 <= i then [i - s.1] else [] | none => [])) else (s.1 - 1, s.2)
def sh (L : Int) (l : List Int) : List Int := (l.filter fun i => decide (L <= i)).map (· - L)
theorem Z9a (L : Int) (a b : List Int) : sh L (a ++ b) = sh L a ++ sh L b := by
 unfold sh
 rw [List.filter_append, List.map_append]
theorem Zmm {L : Int} (h : 0 <= L) : ∀ l : List Int, sh L (dn l) = sh (L + 1) l := by
 intro l
 induction l with
 | nil => rfl
 | cons a l ih =>
  unfold dn sh at *
  by_cases h1 : 0 < a
  ·rw [List.filter_cons_of_pos (p := fun i => decide (0 < i)) (decide_eq_true h1), List.map_cons]
   by_cases h2 : L <= a - 1
   ·rw [List.filter_cons_of_pos (p := fun i => decide (L <= i)) (decide_eq_true h2), List.filter_cons_of_pos (p := fun i => decide (L + 1 <= i)) (decide_eq_true (by omega)), List.map_cons, List.map_cons, ih]
    congr 1
    omega
   ·rw [List.filter_cons_of_neg (p := fun i => decide (L <= i)) (by intro z; exact h2 (of_decide_eq_true z)), List.filter_cons_of_neg (p := fun i => decide (L + 1 <= i)) (by intro z; have := of_decide_eq_true z; omega), ih]
  ·rw [List.filter_cons_of_neg (p := fun i => decide (0 < i)) (by intro z; exact h1 (of_decide_eq_true z)), List.filter_cons_of_neg (p := fun i => decide (L + 1 <= i)) (by intro z; have := of_decide_eq_true z; omega), ih]
theorem Z69 (L : Int) (v : List Int) (t : Th) : Z2p (L, v) ("node", t) = (L, v ++ sh L (Z99 t)) := by
 have e1 : ¬ (("node" : Str) = "opened") := by decide +kernel
 unfold Z2p
 rw [if_neg e1, if_pos rfl]
 unfold Z99
 cases h : Zcu t with
 | none => rfl
 | some i =>
  dsimp only
  by_cases hi : L <= i
  ·rw [if_pos hi]
   show _ = (L, v ++ sh L [i])
   unfold sh
   rw [List.filter_cons_of_pos (p := fun i => decide (L <= i)) (decide_eq_true hi)]
   rfl
  ·rw [if_neg hi]
   show _ = (L, v ++ sh L [i])
   unfold sh
   rw [List.filter_cons_of_neg (p := fun i => decide (L <= i)) (by intro z; exact hi (of_decide_eq_true z))]
   rfl
theorem Zo9 : ∀ (N : Nat) (t : Th) (L : Int) (v : List Int), OwT N t -> 0 <= L -> (Z0q t).foldl Z2p (L, v) = (L, v ++ sh L (asT t)) := by
 intro N
 induction N with
 | zero => intro t L v h; exact h.elim
 | succ N ih =>
  intro t L v h hL
  obtain ⟨w, ts, rfl, h1, h2, h3⟩ := h
  by_cases hw : w = "let"
  ·obtain ⟨k1, k2, rfl, e1, e2⟩ := h1 hw
   have hk : Z0x [.at (.str w), k1, k2] = [k1, k2] := by
    unfold Z0x
    rw [List.filter_cons_of_neg (by intro z; cases z), List.filter_cons_of_pos e1, List.filter_cons_of_pos e2]
    rfl
   rw [Z5r (show Z1y (.at (.str w) :: [k1, k2]) = true from decide_eq_true hw) hk, List.foldl_cons, List.foldl_append, Z69, ih k1 L _ (h3 k1 (by simp) e1) hL, List.foldl_cons, List.foldl_append]
   have e3 : Z2p (L, v ++ sh L (Z99 (.tup [.at (.str w), k1, k2])) ++ sh L (asT k1)) ("opened", .tup [.at (.str w), k1, k2]) = (L + 1, v ++ sh L (asT k1)) := by
    rw [Zbo e1]
    unfold Z2p
    rw [if_pos rfl]
    show (L + 1, v ++ [] ++ sh L (asT k1)) = _
    rw [List.append_nil]
   rw [e3, ih k2 (L + 1) _ (h3 k2 (by simp) e2) (by omega), Z7t hw e1 e2, Z9a, Zmm hL, <- List.append_assoc]
   rw [List.foldl_cons, List.foldl_nil]
   have c1 : ¬ (("closed" : Str) = "opened") := by decide +kernel
   have c2 : ¬ (("closed" : Str) = "node") := by decide +kernel
   unfold Z2p
   rw [if_neg c1, if_neg c2]
   show (L + 1 - 1, _) = _
   rw [(by omega : L + 1 - 1 = L)]
  ·rw [Z3r (show Z1y (.at (.str w) :: ts) = false from decide_eq_false hw), List.foldl_cons, Z69, Z2j hw, Z9a, <- List.append_assoc]
   have hk : ∀ k ∈ Z0x (.at (.str w) :: ts), OwT N k := fun k hk => by
    have z := List.mem_filter.mp hk
    rcases List.mem_cons.mp z.1 with q | q
    ·subst q; cases z.2
    ·exact h3 k q z.2
   rw [Z31] at hk ⊢
   have go : ∀ (ks : List Th) (u : List Int), (∀ k ∈ ks, OwT N k) -> (ks.map Z0q).flatten.foldl Z2p (L, u) = (L, u ++ sh L (ks.map asT).flatten) := by
    intro ks
    induction ks with
    | nil => intro u _; show (L, u) = (L, u ++ []); rw [List.append_nil]
    | cons k ks ih2 =>
     intro u hu
     rw [List.map_cons, List.flatten_cons, List.foldl_append, ih k L u (hu k (List.mem_cons_self ..)) hL, ih2 _ fun x hx => hu x (List.mem_cons_of_mem _ hx), List.map_cons, List.flatten_cons, Z9a, List.append_assoc]
   exact go _ _ hk
theorem Zmn {N : Nat} {w : Str} {ts : List Th} (h2 : w = "own" -> ∃ i : Int, ts = [.at (.int i)] /\ 0 <= i) : (∀ i ∈ Z99 (.tup (.at (.str w) :: ts)), 0 <= i) /\ (Z99 (.tup (.at (.str w) :: ts))).length <= 1 := by
 by_cases hw : w = "own"
 ·obtain ⟨i, rfl, hi⟩ := h2 hw
  subst hw
  refine ⟨fun j hj => ?_, Nat.le_refl _⟩
  have e : Z99 (.tup [.at (.str "own"), .at (.int i)]) = [i] := rfl
  rw [e, List.mem_singleton] at hj
  subst hj
  exact hi
 ·have e : Z99 (.tup (.at (.str w) :: ts)) = [] := by
   unfold Z99 Zcu
   split
   ·next w' i' e =>
    injection e with e
    injection e with e1 e2
    injection e1 with e1
    injection e1 with e1
    subst e1
    rw [if_neg hw]
    rfl
   ·rfl
  rw [e]
  exact ⟨fun j hj => absurd hj (by simp), Nat.zero_le _⟩
theorem Zf9 : ∀ (N : Nat) (t : Th), OwT N t -> (∀ i ∈ asT t, 0 <= i) /\ (asT t).length <= cnt t := by
 intro N
 induction N with
 | zero => intro t h; exact h.elim
 | succ N ih =>
  intro t h
  obtain ⟨w, ts, rfl, h1, h2, h3⟩ := h
  by_cases hw : w = "let"
  ·obtain ⟨k1, k2, rfl, e1, e2⟩ := h1 hw
   have i1 := ih k1 (h3 k1 (by simp) e1)
   have i2 := ih k2 (h3 k2 (by simp) e2)
   rw [Z7t hw e1 e2]
   refine ⟨fun i hi => ?_, ?_⟩
   ·rcases List.mem_append.mp hi with z | z
    ·exact i1.1 i z
    ·unfold dn at z
     obtain ⟨j, hj, rfl⟩ := List.mem_map.mp z
     have := of_decide_eq_true (List.mem_filter.mp hj).2
     omega
   ·have z : (dn (asT k2)).length <= (asT k2).length := by
     unfold dn
     rw [List.length_map]
     exact List.length_filter_le _ _
    rw [List.length_append, cnt, Z21, Z21, Z21, Z21]
    have := i1.2
    have := i2.2
    omega
  ·rw [Z2j hw]
   have o := Zmn (N := N) h2
   have hk : ∀ k ∈ Z0x ts, OwT N k := fun k hk => by
    have z := List.mem_filter.mp hk
    exact h3 k z.1 z.2
   have go : ∀ ks : List Th, (∀ k ∈ ks, OwT N k) -> (∀ i ∈ (ks.map asT).flatten, 0 <= i) /\ (ks.map asT).flatten.length <= Z21 ks := by
    intro ks
    induction ks with
    | nil => intro _; exact ⟨fun i hi => absurd hi (by simp), Nat.zero_le _⟩
    | cons k ks ih2 =>
     intro hu
     have j1 := ih k (hu k (List.mem_cons_self ..))
     have j2 := ih2 fun x hx => hu x (List.mem_cons_of_mem _ hx)
     rw [List.map_cons, List.flatten_cons]
     refine ⟨fun i hi => ?_, ?_⟩
     ·rcases List.mem_append.mp hi with z | z
      ·exact j1.1 i z
      ·exact j2.1 i z
     ·rw [List.length_append, Z21]
      have := j1.2
      have := j2.2
      omega
   have g := go _ hk
   refine ⟨fun i hi => ?_, ?_⟩
   ·rcases List.mem_append.mp hi with z | z
    ·exact o.1 i z
    ·exact g.1 i z
   ·have e : Z21 (.at (.str w) :: ts) = Z21 (Z0x ts) := by rw [Z21, Z8p ts, cnt, Nat.zero_add]
    rw [List.length_append, cnt, e]
    have := o.2
    have := g.2
    omega
theorem Zfa : ∀ l : List Int, (∀ i ∈ l, 0 <= i) -> sh 0 l = l := by
 intro l h
 unfold sh
 rw [List.filter_eq_self.mpr fun i hi => decide_eq_true (h i hi)]
 have e : (fun x : Int => x - 0) = id := by funext x; simp
 rw [e, List.map_id]
theorem Zfb {N : Nat} {t : Th} (h : OwT N t) : (Z0q t).foldl Z2p (0, []) = (0, asT t) := by
 rw [Zo9 N t 0 [] h (Int.le_refl _), Zfa _ (Zf9 N t h).1, List.nil_append]
theorem Z7u {w : Str} {ts : List Th} (hw : w ≠ "own") : Zcu (.tup (.at (.str w) :: ts)) = none := by
 unfold Zcu
 split
 ·next w' i' e =>
  injection e with e
  injection e with e1 e2
  injection e1 with e1
  injection e1 with e1
  subst e1
  rw [if_neg hw]
 ·rfl
theorem Zh4 : ∀ (N : Nat) (t : Th), OwT N t -> ∀ x ∈ Z0q t, OwT N x.2 /\ (x.1 = "node" ∨ x.1 = "opened" ∨ x.1 = "closed") := by
 intro N
 induction N with
 | zero => intro t h; exact h.elim
 | succ N ih =>
  intro t h x hx
  have h0 := h
  obtain ⟨w, ts, rfl, h1, h2, h3⟩ := h
  by_cases hw : w = "let"
  ·obtain ⟨k1, k2, rfl, e1, e2⟩ := h1 hw
   have hk : Z0x [.at (.str w), k1, k2] = [k1, k2] := by
    unfold Z0x
    rw [List.filter_cons_of_neg (by intro z; cases z), List.filter_cons_of_pos e1, List.filter_cons_of_pos e2]
    rfl
   rw [Z5r (show Z1y (.at (.str w) :: [k1, k2]) = true from decide_eq_true hw) hk] at hx
   rcases List.mem_cons.mp hx with rfl | hx
   ·exact ⟨h0, .inl rfl⟩
   rcases List.mem_append.mp hx with hx | hx
   ·have z := ih k1 (h3 k1 (by simp) e1) x hx
    exact ⟨OwT.up _ z.1, z.2⟩
   rcases List.mem_cons.mp hx with rfl | hx
   ·exact ⟨h0, .inr (.inl rfl)⟩
   rcases List.mem_append.mp hx with hx | hx
   ·have z := ih k2 (h3 k2 (by simp) e2) x hx
    exact ⟨OwT.up _ z.1, z.2⟩
   ·rw [List.mem_singleton.mp hx]
    exact ⟨h0, .inr (.inr rfl)⟩
  ·rw [Z3r (show Z1y (.at (.str w) :: ts) = false from decide_eq_false hw)] at hx
   rcases List.mem_cons.mp hx with rfl | hx
   ·exact ⟨h0, .inl rfl⟩
   obtain ⟨l, hl, hxl⟩ := List.mem_flatten.mp hx
   obtain ⟨k, hk, rfl⟩ := List.mem_map.mp hl
   have q := List.mem_filter.mp hk
   rcases List.mem_cons.mp q.1 with z | z
   ·subst z
    cases q.2
   ·have y := ih k (h3 k z q.2) x hxl
    exact ⟨OwT.up _ y.1, y.2⟩
theorem Zh5 (s : Int × List Int) (p : Str × Th) : s.2.length <= (Z2p s p).2.length := by
 unfold Z2p
 split
 ·exact Nat.le_refl _
 ·split
  ·rw [List.length_append]
   exact Nat.le_add_right _ _
  ·exact Nat.le_refl _
theorem Zh6 : ∀ (l : List (Str × Th)) (s : Int × List Int), s.2.length <= (l.foldl Z2p s).2.length := by
 intro l
 induction l with
 | nil => intro s; exact Nat.le_refl _
 | cons p l ih =>
  intro s
  exact Nat.le_trans (Zh5 s p) (ih _)
theorem Zfc {l : List (Str × Th)} {i : Nat} {p : Str × Th} (h : l[i]? = some p) : (l.take (i + 1)).foldl Z2p (0, []) = Z2p ((l.take i).foldl Z2p (0, [])) p := by
 rw [List.take_add_one, h, List.foldl_append]
 rfl
theorem Zh7 {N : Nat} {t : Th} (h : OwT N t) (i : Nat) {L : Int} {vs : List Int} (e : ((Z0q t).take i).foldl Z2p (0, []) = (L, vs)) : vs.length <= cnt t := by
 have h1 := Zfb h
 rw [<- List.take_append_drop i (Z0q t), List.foldl_append, e] at h1
 have h2 := Zh6 ((Z0q t).drop i) (L, vs)
 rw [h1] at h2
 exact Nat.le_trans h2 (Zf9 N t h).2
theorem Zfd (l : List Int) : (ofL l).Nodup := by
 have go : ∀ (ns l : List Int), l.Nodup -> (ns.foldl Z45 l).Nodup := by
  intro ns
  induction ns with
  | nil => intro l h; exact h
  | cons a r ih => intro l h; exact ih _ (Ze2 h)
 exact go l [] List.nodup_nil
theorem Zkh {l : List Int} (h0 : ∀ i ∈ l, 0 <= i) (h1 : ∀ i ∈ l, i < 60) : (ofL l).length < 64 := by
 have h : ∀ i ∈ ofL l, 0 <= i /\ i < 60 := fun i hi => ⟨h0 i ((Z4m l i).mp hi), h1 i ((Z4m l i).mp hi)⟩
 have nd : ((ofL l).map Int.toNat).Nodup := by
  unfold List.Nodup
  rw [List.pairwise_map]
  exact List.Pairwise.imp_of_mem (fun ha hb e => by have := h _ ha; have := h _ hb; omega) (Zfd l)
 have := few nd (m := 60) fun i hi => by
  obtain ⟨j, hj, rfl⟩ := List.mem_map.mp hi
  have := h j hj
  omega
 rw [List.length_map] at this
 omega
structure TxtL (mg : Str -> Option Value) : Prop where
 set : mg "set" = none
 srt : mg "sorted" = none
def Zpo (t : Th) (ns : List Int) : Prop := ns.Perm (ofL (asT t)) /\ ns.Pairwise (· <= ·)
def Zfe (N : Nat) : Sp := fun vs H Q _ => ∃ (v : V) (t : Th), vs = [v] /\ IsTh H v t /\ OwT N t /\ Th.sz t <= 100000 /\ cnt t < 128 /\ (∀ i ∈ asT t, i < 60) ∧
 ∀ (p : Addr) (ns : List Int) H', Same H H' -> H' p = some (.tup (ns.map V.int)) -> Zpo t ns -> Q (.ref p) H'
section
variable {P : Program} {w : World} {K : PySem.W.Frag} {mg : Str -> Option Value} {base : Heap}
theorem scLoose : FnScope ["b", "beyond", "level", "deed", "node"] ["b"] (Z03 Z8y) := ⟨rfl, rfl, rfl, by decide +kernel, rfl, by decide +kernel, by decide +kernel⟩
theorem Zh8 {f fP fS : Addr} {fd dP dS : FuncData} (F : Fun K "loose" "loose" Z8y f fd) (T : TxtT mg) (TD : TxtD mg) (TL : TxtL mg) (KI : Kits K)
  (FP : Fun K "parts" "parts" Z47 fP dP) (bP : Binds K dP ["e"] []) (mP : mg "parts" = some (.ref fP)) (FS : Fun K "steps" "steps" Z5v fS dS) (bS : Binds K dS ["tree"] []) (mS : mg "steps" = some (.ref fS)) (N : Nat) :
  FnOk P w K mg base CX0 3 f fd ["b"] (Zfe N) := by
 have GS : FnOk P w K mg base CX0 2 fS dS ["tree"] (Z9q N) := Zb3 FS T TD KI FP bP mP N
 obtain ⟨tn, hNode⟩ := TD.node
 obtain ⟨to, hOpen⟩ := TD.opened
 refine F.ok scLoose (fun vs H Q E h => ?_) (fun cdv A outer s H vs Q E hr h => ?_)
 ·obtain ⟨v, t, rfl, _⟩ := h
  rfl
 ·obtain ⟨v, t, rfl, ht, how, hz, hc, h60, k⟩ := h
  have hr2 : Room 2 _ := hr.mono (by decide)
  refine' ⟨?tt, ?body, ?fin⟩
  case body =>
   refine' Z06 ?s1 (Z06 ?s2 (Z06 ?s3 (Z05 ?s4)))
   case s1 => exact Z08 (i := 1) scLoose.nd rfl (Or.inl rfl) (Zbz Ze6 (by rfl) TL.set (by decide +kernel))
   case s2 => exact Z08 (i := 2) scLoose.nd rfl (Or.inl rfl) Z04
   case s3 =>
    refine' Z5c PassesOwn.never rfl (Z2k (Z07 GS hr2 (by rfl) mS FS.kp bS .nil Z0e (Z0k (pv 0) Z00))) (Zaa rfl (Z20 (Z0t (i := 3) scLoose.nd rfl (Or.inl rfl)) (Z20 (Z0t (i := 4) scLoose.nd rfl (Or.inl rfl)) Z70))) (Z05 ?b)
    case b =>
     refine' Z0v ?c (Z05 ?e1) (Z05 ?e2)
     case c => exact Z0b Z1f (pv 3) (Z1d (v := .str "opened") (by rfl) hOpen ⟨to, rfl⟩) (Z0l _)
     case e1 => exact Zhk (i := 2) scLoose.nd rfl (Or.inl rfl) Z04 Zl7
     case e2 =>
      refine' Z0v ?c2 (Z05 ?e3) (Z05 ?e4)
      case c2 => exact Z0b Zla (pv 3) (Z1d (v := .str "node") (by rfl) hNode ⟨tn, rfl⟩) (Z0l _)
      case e3 => exact Zhk (i := 2) scLoose.nd rfl (Or.inl rfl) Z04 Zl8
      case e4 =>
       refine' Z0v ?c3 (Z05 ?e5) Z0f
       case c3 => exact (Z5b (Z0b Z1f (Z10 Z1c (pv 4) Z04 (fun _ _ => rfl)) Z0a (Z0l _)) (Z3j (Z0b Zin (Z10 Z1c (pv 4) Z04 (fun _ _ => rfl)) (pv 2) (Z0l _)))).pt
       case e5 => exact Z2r (Zj9 (pv 1) (Z09 (Z0o Z2n (Z10 Z1c (pv 4) Z04 (fun _ _ => rfl)) (pv 2)) Z00))
   case s4 => exact Z0d (Z1m Z1n (by rfl) T.tup (by decide +kernel) (Z09 (Z0c (Z28 rfl) (by rfl) TL.srt (by decide +kernel) (Z0k (pv 1) Z00)) Z00))
  case fin =>
   refine ⟨rfl, fun bs hbs => ?_⟩
   have sb := Z02 (o := Z81 P w bs []) hbs
   refine ⟨_, rfl, v, t, rfl, IsTh.kp (Kp.of sb) ht, OwT.ok N how, hz, fun wk ws H1 s1 hwk L1 hws => ?_⟩
   have B1 : H1 bs = some (Z81 P w bs (ofL [])) := s1 _ _ Z01
   have hwl := IsThs.len _ hws
   rw [List.length_map] at hwl
   refine ⟨wk, rfl, ⟨_, SqL.of L1⟩, Z72 (K := K) (a := wk) (xs := ws) (fun i σ H' => ∃ (L : Int) (vl : List Int) (o3 o4 : Option V), σ = [some v, some (.ref bs), some (.int L), o3, o4] /\ ((Z0q t).take i).foldl Z2p (0, []) = (L, vl) /\ Same H H' ∧
     H' bs = some (Z81 P w bs (ofL vl)) /\ H' wk = some (.lst ws) /\ IsThs H' ws (prs (Z0q t)))
    ⟨0, [], none, none, rfl, rfl, sb.trans s1, B1, L1, hws⟩ (fun i σ H' _ ⟨_, _, _, _, _, _, _, _, e, _⟩ => SqL.of e) ?_ ?_⟩
   ·rintro i x σ H2 hx ⟨L, vl, o3, o4, rfl, hfold, s2, B2, L2, hws2⟩
    obtain ⟨tx, htx, hx2⟩ := Z17 _ hws2 hx
    rw [List.getElem?_map] at htx
    obtain ⟨p, hp, rfl⟩ : ∃ p, (Z0q t)[i]? = some p /\ pr p = tx := by
     cases e : (Z0q t)[i]? with
     | none => rw [e] at htx; cases htx
     | some p => rw [e] at htx; exact ⟨p, rfl, by simpa using htx⟩
    obtain ⟨d, n⟩ := p
    obtain ⟨hown, hdeed⟩ := Zh4 N t how _ (List.mem_of_getElem? hp)
    obtain ⟨a, vs2, rfl, ha, hvs2⟩ := Z19 hx2
    have hnext := Zfc hp
    rw [hfold] at hnext
    have hvlen := Zh7 how i hfold
    have hol := Z9n vl
    cases hvs2 with
    | @cons v1 vr _ _ c1 c2 =>
     cases c2 with
     | @cons v2 vr2 _ _ c3 c4 =>
      cases c4
      obtain ⟨rfl, _⟩ := Z2b c1
      refine ⟨a, [.str d, v2], rfl, SqT.of ha, rfl, _, _, rfl, _, _, rfl, rfl, ?_⟩
      refine ⟨_, rfl, rfl, _, rfl, Z16 (fun g => ?_) (fun g => ?_)⟩
      ·have hd : d = "opened" := by
        have g' := of_decide_eq_true g
        injection g'
       refine ⟨_, rfl, _, _, rfl, rfl, L + 1, vl, _, _, rfl, ?_, s2, B2, L2, hws2⟩
       rw [hnext]
       unfold Z2p
       rw [if_pos hd]
      ·have hd : d ≠ "opened" := fun z => g (by rw [z]; decide +kernel)
       refine ⟨_, rfl, rfl, _, rfl, Z16 (fun g2 => ?_) (fun g2 => ?_)⟩
       ·have hd2 : d ≠ "node" := fun z => by
         rw [z] at g2
         exact absurd g2 (by decide +kernel)
        refine ⟨_, rfl, _, _, rfl, rfl, L - 1, vl, _, _, rfl, ?_, s2, B2, L2, hws2⟩
        rw [hnext]
        unfold Z2p
        rw [if_neg hd, if_neg hd2]
       ·have hd2 : d = "node" := by
         rcases hdeed with z | z | z
         ·exact z
         ·exact absurd z hd
         ·exfalso
          refine g2 ?_
          have z : d = "closed" := z
          rw [z]
          decide +kernel
        subst hd2
        obtain ⟨N', rfl⟩ : ∃ N', N = N' + 1 := by
         cases N with
         | zero => exact hown.elim
         | succ N' => exact ⟨N', rfl⟩
        obtain ⟨w0, ts, rfl, h1, h2, h3⟩ := hown
        rw [Z69] at hnext
        obtain ⟨an, vns, rfl, han, hvns⟩ := Z19 c3
        cases hvns with
        | @cons vh vr' _ _ d1 d2 =>
         obtain ⟨rfl, _⟩ := Z2b d1
         refine ⟨_, rfl, an, _, 0, .str w0, rfl, rfl, SqT.of han, Z1v _ _, rfl, _, rfl, Z16 (fun g3 => ?_) (fun g3 => ?_)⟩
         ·have hw : w0 = "own" := by
           have g' := of_decide_eq_true g3
           injection g'
          obtain ⟨i0, rfl, hi0⟩ := h2 hw
          subst hw
          cases d2 with
          | @cons v3 vr3 _ _ f1 f2 =>
           cases f2
           obtain ⟨rfl, _⟩ := Z2b f1
           have eo : Z99 (.tup [.at (.str "own"), .at (.int i0)]) = [i0] := rfl
           rw [eo] at hnext
           refine ⟨_, rfl, an, _, 1, .int i0, rfl, rfl, SqT.of han, Z30 _ _ _, _, rfl, _, _, rfl, rfl, _, rfl, Z16 (fun g4 => ?_) (fun g4 => ?_)⟩
           ·have hle : L <= i0 := by
             have := of_decide_eq_true g4
             omega
            refine ⟨_, rfl, bs, _, rfl, B2, _, rfl, an, _, 1, .int i0, rfl, rfl, SqT.of han, Z30 _ _ _, _, rfl, _, _, rfl, rfl, _, _, rfl, B2, by omega, ?_⟩
            have kt : Kt H2 (upd H2 bs (Z81 P w bs (Z45 (ofL vl) (i0 - L)))) := Kt.ext B2
            refine ⟨L, vl ++ [i0 - L], _, _, rfl, ?_, fun c o e => ?_, ?_, (kt _ _).2 L2, Zbn kt hws2⟩
            ·rw [hnext]
             unfold sh
             rw [List.filter_cons_of_pos (p := fun i => decide (L <= i)) (decide_eq_true hle)]
             rfl
            ·rw [Z0g (Z0i e hbs)]
             exact s2 c o e
            ·rw [Zav]
             exact Z01
           ·refine ⟨L, vl, _, _, rfl, ?_, s2, B2, L2, hws2⟩
            rw [hnext]
            unfold sh
            rw [List.filter_cons_of_neg (p := fun i => decide (L <= i)) (by intro z; exact g4 (decide_eq_true (by have := of_decide_eq_true z; omega)))]
            show (L, vl ++ []) = _
            rw [List.append_nil]
         ·have hw : w0 ≠ "own" := fun z => g3 (by rw [z]; decide +kernel)
          refine Z3z ⟨L, vl, _, _, rfl, ?_, s2, B2, L2, hws2⟩
          rw [hnext]
          unfold Z99
          rw [Z7u hw]
          show (L, vl ++ []) = _
          rw [List.append_nil]
   ·rintro σ H2 ⟨L, vl, o3, o4, rfl, hfold, s2, B2, L2, hws2⟩
    rw [List.take_of_length_le (by omega), Zfb how] at hfold
    obtain ⟨rfl, rfl⟩ := Prod.mk.inj hfold
    have h1 := (Zf9 N t how).2
    have h2 := Z9n (asT t)
    refine ⟨_, rfl, bs, _, rfl, B2, Zkh (Zf9 N t how).1 h60, fun ns q pm st hq => ?_⟩
    refine ⟨q, _, rfl, .inl ⟨SqL.of Z01, fun p hp => ?_⟩⟩
    exact k p ns _ ((s2.trans (Z02 hq)).trans (Z02 hp)) Z01 ⟨pm, st⟩
end
theorem Z9b (a b : List Int) : Zhv (a.map V.int) (b.map V.int) = decide (a = b) := by
 have g : ∀ (l : List Int) (j : Nat), j < l.length -> (l.map V.int).getD j .non = .int (l.getD j 0) := fun l j h => by
  rw [List.getD_eq_getElem?_getD, List.getD_eq_getElem?_getD, List.getElem?_map, List.getElem?_eq_getElem h]
  rfl
 unfold Zhv
 rw [List.length_map, List.length_map, Bool.eq_iff_iff, Bool.and_eq_true, beq_iff_eq, List.all_eq_true, decide_eq_true_eq]
 constructor
 ·rintro ⟨hl, h⟩
  refine List.ext_getElem hl fun j h1 h2 => ?_
  have e := h j (List.mem_range.mpr h1)
  rw [g a j h1, g b j h2] at e
  have e' : (a.getD j 0 == b.getD j 0) = true := e
  rw [beq_iff_eq, List.getD_eq_getElem?_getD, List.getD_eq_getElem?_getD, List.getElem?_eq_getElem h1, List.getElem?_eq_getElem h2] at e'
  exact e'
 ·rintro rfl
  refine ⟨rfl, fun j hj => ?_⟩
  rw [g a j (List.mem_range.mp hj)]
  exact beq_self_eq_true (a.getD j 0)
abbrev tI (ns : List Int) : List Th := ns.map fun i => Th.at (.int i)
theorem Zh9 (H : Hp) : ∀ ns : List Int, IsThs H (ns.map V.int) (tI ns) := by
 intro ns
 induction ns with
 | nil => exact .nil
 | cons i ns ih => exact .cons (.at rfl) ih
theorem Zki (ns : List Int) : Z4z (tI ns) = true := Z4a fun x hx => by
 obtain ⟨i, _, rfl⟩ := List.mem_map.mp hx
 rfl
theorem Zkj (ns : List Int) : dps (tI ns) <= 0 := Zm3 fun x hx => by
 obtain ⟨i, _, rfl⟩ := List.mem_map.mp hx
 rw [L2.dp]
 exact Nat.le_refl _
theorem Z7v {v : V} {n : Nat} (h : shB "own" [v] n = true) : n = 0 := by
 unfold shB at h
 rw [show kindOf "own" = some .own from by decide +kernel] at h
 have h' : (Z0w (.at v) none && (decide (0 <= n) && decide (n <= 0))) = true := h
 rw [Bool.and_eq_true, Bool.and_eq_true, decide_eq_true_eq, decide_eq_true_eq] at h'
 omega
theorem Zbp {ks : List Th} (h : ks.length = 0) : ks = [] := List.eq_nil_of_length_eq_zero h
theorem Zff {ks : List Th} (h : ks.length = 2) : ∃ a b, ks = [a, b] := by
 cases ks with
 | nil => cases h
 | cons a r => cases r with
  | nil => cases h
  | cons b r => exact ⟨a, b, by rw [Zbp (ks := r) (by simpa using h)]⟩
theorem Zmo : ∀ (n : Nat) {t : Th}, PfT n t -> OwT n t := by
 intro n
 induction n with
 | zero => intro t h; exact h.elim
 | succ n ih =>
  intro t h
  obtain ⟨w, hd, ks, rfl, h1, h2, h3, h4, ⟨h5, h7, h8⟩, h6⟩ := h
  refine ⟨w, hd.map Th.at ++ ks, rfl, fun e => ?_, fun e => ?_, fun x hx ht => ?_⟩
  ·obtain ⟨rfl, hl⟩ := h3 e
   obtain ⟨a, b, rfl⟩ := Zff hl
   exact ⟨a, b, rfl, (h6 a (by simp)).isTup, (h6 b (by simp)).isTup⟩
  ·obtain ⟨i, rfl, hi⟩ := h8 e
   subst e
   rw [Zbp (Z7v h7)]
   exact ⟨(i : Nat), rfl, by omega⟩
  ·rcases List.mem_append.mp hx with z | z
   ·obtain ⟨v, _, rfl⟩ := List.mem_map.mp z
    cases ht
   ·exact ih (h6 x z)
theorem Zbq {hd : List V} {ks : List Th} (h : ∀ k ∈ ks, L2.isTup k = true) : Z0x (hd.map Th.at ++ ks) = ks := by
 have := Z9t (w := "do") (hd := hd) h
 rw [Z31] at this
 exact this
theorem Zoa : ∀ (n : Nat) {t : Th}, PfT n t -> ∀ i ∈ asT t, i < 60 := by
 intro n
 induction n with
 | zero => intro t h; exact h.elim
 | succ n ih =>
  intro t h i hi
  obtain ⟨w, hd, ks, rfl, h1, h2, h3, h4, ⟨h5, h7, h8⟩, h6⟩ := h
  unfold nd at hi
  by_cases hw : w = "let"
  ·obtain ⟨rfl, hl⟩ := h3 hw
   obtain ⟨a, b, rfl⟩ := Zff hl
   have ha := h6 a (by simp)
   have hb := h6 b (by simp)
   rw [List.map_nil, List.nil_append, Z7t hw ha.isTup hb.isTup] at hi
   rcases List.mem_append.mp hi with z | z
   ·exact ih ha i z
   ·unfold dn at z
    obtain ⟨j, hj, rfl⟩ := List.mem_map.mp z
    have := ih hb j (List.mem_filter.mp hj).1
    omega
  ·rw [Z2j hw, Zbq fun k hk => (h6 k hk).isTup] at hi
   rcases List.mem_append.mp hi with z | z
   ·by_cases ho : w = "own"
    ·obtain ⟨j, rfl, hj⟩ := h8 ho
     subst ho
     rw [Zbp (Z7v h7)] at z
     have e : Z99 (.tup [.at (.str "own"), .at (.int (j : Nat))]) = [((j : Nat) : Int)] := rfl
     have z' : i ∈ Z99 (.tup [.at (.str "own"), .at (.int (j : Nat))]) := z
     rw [e, List.mem_singleton] at z'
     omega
    ·unfold Z99 at z
     rw [Z7u ho] at z
     cases z
   ·obtain ⟨l, hl, hil⟩ := List.mem_flatten.mp z
    obtain ⟨k, hk, rfl⟩ := List.mem_map.mp hl
    exact ih (h6 k hk) i hil
theorem Zkk {w : Str} {hd : List V} {ks : List Th} (nk : ∀ k ∈ ks, L2.isTup k = true) (h : shB w hd ks.length = true) : Z6g (nd w hd ks) = true := by
 have al : ks.all L2.isTup = true := List.all_eq_true.mpr nk
 unfold nd
 show Z6e nameB signB (.tup (.at (.str w) :: (hd.map Th.at ++ ks))) = true
 rw [Z6e]
 unfold shB at h
 cases hk : kindOf w with
 | none => rw [hk] at h; cases h
 | some k =>
  rw [hk] at h
  dsimp only at h ⊢
  generalize rule nameB signB k = r at h ⊢
  obtain ⟨fo, lo, hi⟩ := r
  cases fo with
  | none =>
   cases hd with
   | nil =>
    dsimp only at h
    rw [Zkz, List.map_nil, List.nil_append, h, al]
    rfl
   | cons v r => cases h
  | some f =>
   cases hd with
   | nil => cases h
   | cons v r =>
    cases r with
    | cons u r => cases h
    | nil =>
     dsimp only at h
     rw [List.map_cons, List.map_nil, List.cons_append, List.nil_append, Zkz]
     rw [Bool.and_eq_true] at h
     rw [h.1, h.2, al]
     rfl
theorem Zfg : ∀ (n : Nat) {t : Th}, PfT n t -> treeT t = true := by
 intro n
 induction n with
 | zero => intro t h; exact h.elim
 | succ n ih =>
  intro t h
  obtain ⟨w, hd, ks, rfl, h1, h2, h3, h4, ⟨h5, h7, h8⟩, h6⟩ := h
  have nk : ∀ k ∈ ks, L2.isTup k = true := fun k hk => (h6 k hk).isTup
  obtain ⟨ts, e, e2⟩ := Z7l (Zkk nk h7)
  unfold nd at e
  injection e with e
  rw [e2, <- e]
  have e3 : (.at (.str w) :: (hd.map Th.at ++ ks) : List Th).filter L2.isTup = ks := Z9t (w := w) (hd := hd) nk
  rw [e3]
  exact List.all_eq_true.mpr fun k hk => ih (h6 k hk)
theorem Zha {ts : List Th} {k : Th} (hk : k ∈ ts) (h1 : L2.isTup k = true) (h2 : treeT k = false) : treeT (.tup ts) = false := by
 cases h : Z6g (.tup ts) with
 | false => exact Z7k h
 | true =>
  obtain ⟨us, e, e2⟩ := Z7l h
  injection e with e
  rw [e2, <- e]
  exact List.all_eq_false.mpr ⟨k, List.mem_filter.mpr ⟨hk, h1⟩, by rw [h2]; exact Bool.false_ne_true⟩
theorem Zmp {t : Th} {m : Nat} (h : ∀ i ∈ hs t, i < m) (hm : m <= 63) : Few t := fun ks nd hk => by
 have := few nd (m := m) fun i hi => h i (hk i hi)
 omega
def Pat (t : Th) (b : Bool) : Prop := (treeT t = false /\ b = false) ∨ (treeT t = true /\ ((asT t ≠ [] /\ b = false) ∨ (asT t = [] /\ ∃ ns, HN t ns /\ b = decide (ns = iz (List.range ns.length)))))
def Ask (N : Nat) (t : Th) : Prop := Th.sz t <= 1000000 /\ (treeT t = true -> PfT N t /\ Th.sz t <= 100000 /\ cnt t < 128 /\ Few t)
def Z9c (N : Nat) : Sp := fun vs H Q _ => ∃ (v : V) (t : Th), vs = [v] /\ IsTh H v t /\ Ask N t /\ ∀ (b : Bool) H', Same H H' -> Pat t b -> Q (.bl b) H'
def Zic (N : Nat) : Sp := fun vs H Q _ => ∃ (v : V) (t : Th) (due : Bool), vs = [v, .bl due] /\ IsTh H v t /\ Ask N t /\ ∀ (b : Bool) H', Same H H' -> Pat t b -> Q (.bl (decide (b = due))) H'
structure PtF where
 fB : Addr
 fL : Addr
 fN : Addr
 dB : FuncData
 dL : FuncData
 dN : FuncData
structure Pt (K : PySem.W.Frag) (mg : Str -> Option Value) (p : PtF) : Prop where
 B : Fun K "is_bare" "is_bare" Zee p.fB p.dB
 bB : Binds K p.dB ["thing"] []
 mB : mg "is_bare" = some (.ref p.fB)
 L : Fun K "loose" "loose" Z8y p.fL p.dL
 bL : Binds K p.dL ["b"] []
 mL : mg "loose" = some (.ref p.fL)
 N : Fun K "hole_numbers" "hole_numbers" Z1a p.fN p.dN
 bN : Binds K p.dN ["b"] []
 mN : mg "hole_numbers" = some (.ref p.fN)
 list : mg "list" = none
 range : mg "range" = none
 len : mg "len" = none
section
variable {P : Program} {w : World} {K : PySem.W.Frag} {mg : Str -> Option Value} {base : Heap} {p : PtF}
theorem scPattern : FnScope ["thing", "numbers"] ["thing"] (Z03 Z2g) := ⟨rfl, rfl, rfl, by decide +kernel, rfl, by decide +kernel, by decide +kernel⟩
theorem Zcv {f : Addr} {fd : FuncData} (F : Fun K "is_pattern" "is_pattern" Z2g f fd) (Y : Pt K mg p) (N : Nat)
  (GB : FnOk P w K mg base CX0 5 p.fB p.dB ["thing"] spBare) (GL : FnOk P w K mg base CX0 3 p.fL p.dL ["b"] (Zfe N)) (GN : FnOk P w K mg base CX0 4 p.fN p.dN ["b"] (Za2 N)) :
  FnOk P w K mg base CX0 6 f fd ["thing"] (Z9c N) := by
 refine F.ok scPattern (fun vs H Q E h => ?_) (fun cdv A outer s H vs Q E hr h => ?_)
 ·obtain ⟨v, t, rfl, _⟩ := h
  rfl
 ·obtain ⟨v, t, rfl, ht, ⟨hz, ha⟩, k⟩ := h
  have hu0 := hr.units0
  have hu1 : (_ : Around).units + (1 + 1) < cLine := Nat.lt_of_le_of_lt (Nat.add_le_add_left (by decide) _) hr.units
  have hr3 : Room 3 _ := hr.mono (by decide)
  have hr4 : Room 4 _ := hr.mono (by decide)
  refine' ⟨?tt, ?body, ?fin⟩
  case body =>
   refine' Z0h ?s1 ?r1
   case s1 =>
    refine' Z0v (Z4d ?c1 (Z3t ?c2)).pt (Z05 (Z0d Z29)) Z0f
    case c1 => exact Z1x (Z1k (Z07 GB hr (by rfl) Y.mB Y.B.kp Y.bB .nil Z0e (Z0k (pv 0) Z00)))
    case c2 => exact Z0b (Zjb (K := K) rfl 1 hu1) (Z07 GL hr3 (by rfl) Y.mL Y.L.kp Y.bL .nil Z0e (Z0k (pv 0) Z00)) (Z1g Z00) (Z0l _)
   case r1 =>
    refine' Z06 ?s2 (Z05 ?s3)
    case s2 => exact Z08 (i := 1) scPattern.nd rfl (Or.inl rfl) (Z07 GN hr4 (by rfl) Y.mN Y.N.kp Y.bN .nil Z0e (Z0k (pv 0) Z00))
    case s3 =>
     refine' Z0d (Z4e (Z6q hu0) (pv 1) ?q (Z0l _))
     case q => exact Z98 rfl (by rfl) Y.list (by rfl) Y.range (Z40 (Z0c Z0j (by rfl) Y.len PySem.boot_len (Z0k (pv 1) Z00)) Z00)
  case fin =>
   refine ⟨fun σ' H' => σ' = [some v, none] /\ Same H H' /\ treeT t = true /\ asT t = [], ?_, ?_⟩
   ·refine ⟨_, rfl, v, t, rfl, ht, hz, fun H1 s1 => ⟨_, rfl, ?_⟩⟩
    cases hb : treeT t with
    | false => exact Z4y (k false H1 s1 (.inl ⟨hb, rfl⟩))
    | true =>
     obtain ⟨hpf, hz2, hc, hf⟩ := ha hb
     refine Z3z ⟨_, rfl, v, t, rfl, IsTh.kp (Kp.of s1) ht, Zmo N hpf, hz2, hc, Zoa N hpf, fun q ns H2 s2 hq hn => ⟨Nat.zero_le _, fun e he => ?_⟩⟩
     have s3 := Z02 (o := .tup []) he
     have s123 := (s1.trans s2).trans s3
     refine ⟨tI ns, [], .tup (s3 _ _ hq) (Zh9 _ ns), .tup Z01 .nil, Zki ns, rfl, Nat.le_trans (Zkj ns) (Nat.zero_le _), Nat.zero_le _, fun e => ?_, fun e => ?_⟩
     ·refine ⟨_, rfl, Z3z ⟨rfl, s123, rfl, ?_⟩⟩
      cases hq2 : asT t with
      | nil => rfl
      | cons x xs =>
       have e1 : ns = [] := List.map_eq_nil_iff.mp e
       have e2 : x ∈ ofL (asT t) := (Z4m _ _).mpr (by rw [hq2]; exact List.mem_cons_self ..)
       have e3 := hn.1.mem_iff.mpr e2
       rw [e1] at e3
       cases e3
     ·refine ⟨_, rfl, Z4y (k false _ s123 (.inr ⟨hb, .inl ⟨fun z => e ?_, rfl⟩⟩))⟩
      have e1 := hn.1
      rw [z] at e1
      have e2 : ns = [] := List.Perm.eq_nil e1
      rw [e2]
      rfl
   ·rintro σ1 H1 ⟨rfl, s1, hb, has⟩
    obtain ⟨hpf, hz2, hc, hf⟩ := ha hb
    refine ⟨_, rfl, v, t, rfl, IsTh.kp (Kp.of s1) ht, hpf, hz2, hf, fun q ns H2 s2 hq hn => ?_⟩
    have hl := hn.few hf
    refine ⟨_, rfl, _, rfl, q, ns.map V.int, rfl, .inl (SqL.of hq), ns.length, ?_, by omega, fun l hl2 => ?_⟩
    ·rw [List.length_map]
    have s3 := Z02 (o := .lst ((List.range ns.length).map fun (i : Nat) => V.int (i : Nat))) hl2
    have er : ((List.range ns.length).map fun (i : Nat) => V.int (i : Nat)) = (iz (List.range ns.length)).map V.int := by rw [List.map_map]; rfl
    refine ⟨q, l, ns.map V.int, _, rfl, rfl, SqL.of (s3 _ _ hq), SqL.of Z01, Z36 ns, by rw [er]; exact Z36 _, ?_⟩
    rw [er] at s3 ⊢
    rw [Z9b]
    exact k _ _ ((s1.trans s2).trans s3) (.inr ⟨hb, .inr ⟨has, ns, hn, rfl⟩⟩)
theorem scTold : FnScope ["_law_thing", "_law_due", "_law_found"] ["_law_thing", "_law_due"] (Z03 Zeg) := ⟨rfl, rfl, rfl, by decide +kernel, rfl, by decide +kernel, by decide +kernel⟩
theorem Zkl {f fP : Addr} {fd dP : FuncData} (F : Fun K "_law_told" "_law_told" Zeg f fd) (T : TxtT mg) (N : Nat) (GP : FnOk P w K mg base CX0 6 fP dP ["thing"] (Z9c N)) (FP : Fun K "is_pattern" "is_pattern" Z2g fP dP) (bP : Binds K dP ["thing"] []) (mP : mg "is_pattern" = some (.ref fP)) :
  FnOk P w K mg base CX0 7 f fd ["_law_thing", "_law_due"] (Zic N) := by
 refine F.ok scTold (fun vs H Q E h => ?_) (fun cdv A outer s H vs Q E hr h => ?_)
 ·obtain ⟨v, t, due, rfl, _⟩ := h
  rfl
 ·obtain ⟨v, t, due, rfl, ht, ha, k⟩ := h
  refine' ⟨?tt, ?body, ?fin⟩
  case body =>
   refine' Z06 ?s1 (Z05 ?s2)
   case s1 => exact Z08 (i := 2) scTold.nd rfl (Or.inl rfl) (Z07 GP hr (by rfl) mP FP.kp bP .nil Z0e (Z0k (pv 0) Z00))
   case s2 => exact Z0d (Z2q (Z0c Z12 (by rfl) T.isi (by decide +kernel) (Z0k (pv 2) (Z0k (Z1j (v := .ty "bool") (by rfl) T.bl (by decide +kernel) rfl) Z00))) (Z3e (Z4e Z1f (pv 2) (pv 1) (Z0l _))))
  case fin =>
   refine ⟨_, rfl, v, t, rfl, ht, ha, fun b H1 s1 hb => ?_⟩
   refine ⟨_, rfl, _, _, .type "bool", true, rfl, .bl b, Zb7 _ _, _, rfl, Z4y ⟨_, rfl, _, rfl, rfl, ?_⟩⟩
   have e : decide (V.bl b = V.bl due) = decide (b = due) := by cases b <;> cases due <;> rfl
   rw [e]
   exact k b H1 s1 hb
end
theorem Z7w (a b : V) (r : List V) : atI (a :: b :: r) 1 = some b := Z2m (j := 1) rfl
theorem Zhb (a b c : V) (r : List V) : atI (a :: b :: c :: r) 2 = some c := Z2m (j := 2) rfl
def Zid (N : Nat) : Sp := fun vs H Q _ => ∃ (v : V) (t : Th), vs = [v, .str "hole"] /\ IsTh H v t /\ PfT N t /\ cnt t <= 1000 ∧
 ∀ (p : Addr) (ls : List Nat) H', Same H H' -> H' p = some (.lst ((iz ls).map V.int)) -> (∀ i, i ∈ ls ↔ i ∈ hs t) -> ls.length <= cnt t -> Q (.ref p) H'
theorem Zfh {α : Type} (a b : List α) : (a ++ b).isEmpty = (a.isEmpty && b.isEmpty) := by
 cases a <;> rfl
theorem Zhc : ∀ a b : List Th, Z21 (a ++ b) = Z21 a + Z21 b := by
 intro a
 induction a with
 | nil => intro b; rw [List.nil_append, Z21, Nat.zero_add]
 | cons x a ih => intro b; rw [List.cons_append, Z21, Z21, ih]; omega
def clB (L : Int) (t : Th) : Bool := (sh L (asT t)).isEmpty
theorem Zmq {L : Int} {k1 k2 : Th} (h : 0 <= L) (h1 : L2.isTup k1 = true) (h2 : L2.isTup k2 = true) : clB L (nd "let" [] [k1, k2]) = (clB L k1 && clB (L + 1) k2) := by
 unfold clB nd
 rw [List.map_nil, List.nil_append, Z7t rfl h1 h2, Z9a, Zmm h, Zfh]
theorem Zmr {L : Int} {i : Nat} : clB L (nd "own" [.int (i : Nat)] []) = decide ((i : Int) < L) := by
 unfold clB nd
 have e : asT (.tup (.at (.str "own") :: ([V.int (i : Nat)].map Th.at ++ []))) = [((i : Nat) : Int)] := by
  rw [Z2j (by decide +kernel)]
  rfl
 rw [e]
 by_cases h : L <= (i : Int)
 ·unfold sh
  rw [List.filter_cons_of_pos (p := fun i => decide (L <= i)) (decide_eq_true h), decide_eq_false (by omega)]
  rfl
 ·unfold sh
  rw [List.filter_cons_of_neg (p := fun i => decide (L <= i)) (by intro z; exact h (of_decide_eq_true z)), decide_eq_true (by omega)]
  rfl
theorem Zob {L : Int} {w : Str} {hd : List V} {ks : List Th} (h1 : w ≠ "let") (h2 : w ≠ "own") (nk : ∀ k ∈ ks, L2.isTup k = true) : clB L (nd w hd ks) = ks.all (clB L) := by
 unfold clB nd
 rw [Z2j h1, Zbq nk]
 unfold Z99
 rw [Z7u h2]
 show (sh L ([] ++ (ks.map asT).flatten)).isEmpty = _
 rw [List.nil_append]
 induction ks with
 | nil => rfl
 | cons k ks ih => rw [List.map_cons, List.flatten_cons, Z9a, Zfh, List.all_cons, ih fun x hx => nk x (List.mem_cons_of_mem _ hx)]
def Zbr (N : Nat) : Sp := fun vs H Q _ => ∃ (v : V) (t : Th) (L : Int), vs = [v, .int L] /\ IsTh H v t /\ PfT N t /\ 0 <= L /\ ∀ H', Same H H' -> Q (.bl (clB L t)) H'
theorem Zoc : (["_law_lets", "_law_part"] : List Str).Nodup := by decide +kernel
theorem Zms {H : Hp} {vs : List V} {a b : Th} (h : IsThs H vs [a, b]) : ∃ x y, vs = [x, y] /\ IsTh H x a /\ IsTh H y b := by
 cases h with
 | cons h1 h2 =>
  cases h2 with
  | cons h2 h3 =>
   cases h3
   exact ⟨_, _, rfl, h1, h2⟩
section
variable {P : Program} {w : World} {K : PySem.W.Frag} {mg : Str -> Option Value} {base : Heap}
theorem scNums : FnScope ["_law_b", "_law_word", "_law_found", "_law_part"] ["_law_b", "_law_word"] (Z03 Z25) := ⟨rfl, rfl, rfl, by decide +kernel, rfl, by decide +kernel, by decide +kernel⟩
theorem Zkm {f fP : Addr} {fd dP : FuncData} (F : Fun K "_law_numbers" "_law_numbers" Z25 f fd) (b : Binds K fd ["_law_b", "_law_word"] []) (m : mg "_law_numbers" = some (.ref f)) (T : TxtT mg) (KI : Kits K)
  (FP : Fun K "_law_parts" "_law_parts" Z1o fP dP) (bP : Binds K dP ["_law_e"] []) (mP : mg "_law_parts" = some (.ref fP)) : ∀ N, FnOk P w K mg base CX0 (N + 2) f fd ["_law_b", "_law_word"] (Zid N) := by
 have GP : FnOk P w K mg base CX0 1 fP dP ["_law_e"] spLawParts := Z1p FP T KI
 intro N
 induction N with
 | zero =>
  refine F.ok scNums (fun vs H Q E h => ?_) (fun cdv A outer s H vs Q E hr h => ?_)
  ·obtain ⟨v, t, rfl, _⟩ := h
   rfl
  ·obtain ⟨v, t, rfl, _, h, _⟩ := h
   exact h.elim
 | succ N ih =>
  refine F.ok scNums (fun vs H Q E h => ?_) (fun cdv A outer s H vs Q E hr h => ?_)
  ·obtain ⟨v, t, rfl, _⟩ := h
   rfl
  ·obtain ⟨v, t, rfl, hv, hD, hc, k⟩ := h
   have hsz : sizeLine = 16777216 := sizeLine_eq
   have hr1 : Room 1 _ := hr.mono (by omega)
   refine' ⟨?tt, ?body, ?fin⟩
   case body =>
    refine' Z06 ?s1 ?r1
    case s1 => exact Z08 (i := 2) scNums.nd rfl (Or.inl rfl) (Z1h Z00)
    case r1 =>
     refine' Z0h ?s2 ?r2
     case s2 =>
      refine' Z0v ?c (Z05 ?e) Z0f
      case c => exact Z0b Z1f (Z10 Z1c (pv 0) Z04 (fun _ _ => rfl)) (pv 1) (Z0l _)
      case e => exact Z2r (Z8d PySem.F.plainAttrs_list PySem.F.slot_list_append PySem.F.type_list_append Z3x (pv 2) (Z09 (Z10 Z1c (pv 0) Z04 (fun _ _ => rfl)) Z00))
     case r2 =>
      refine' Z06 ?s3 (Z05 (Z0d (pv 2)))
      case s3 =>
       refine' Z5c PassesOwn.never rfl (Z2k (Z07 GP hr1 (by rfl) mP FP.kp bP .nil Z0e (Z0k (pv 0) Z00))) (Z0t (i := 3) scNums.nd rfl (Or.inl rfl)) (Z05 ?b1)
       case b1 => exact Z2r (Z8d PySem.F.plainAttrs_list PySem.F.slot_list_extend PySem.F.type_list_extend Z8f (pv 2) (Z40 (Z07 ih hr (by rfl) m F.kp b .nil Z0e (Z0k (pv 3) (Z0k (pv 1) Z00))) Z00))
   case fin =>
    obtain ⟨w0, hd, ks, rfl, h1, h2, h3, h4, h5, h6⟩ := hD
    have nk : ∀ k ∈ ks, L2.isTup k = true := fun k hk => (h6 k hk).isTup
    rw [Z27 nk] at hc
    refine ⟨Nat.zero_le _, fun fa hfa => ?_⟩
    have s1 := Z02 (o := .lst []) hfa
    have hv1 := IsTh.kp (Kp.of s1) hv
    have L1 : upd H fa (.lst []) fa = some (.lst []) := Z01
    generalize upd H fa (.lst []) = H1 at s1 hv1 L1 ⊢
    obtain ⟨an, vns, rfl, han, hvns⟩ := Z19 hv1
    refine ⟨fun σ' H' => ∃ ls : List Nat, σ' = [some (.ref an), some (.str "hole"), some (.ref fa), none] /\ H' fa = some (.lst ((iz ls).map V.int)) /\ Same H H' /\ ((w0 = "hole" /\ ∃ j : Nat, hd = [.int j] /\ ks = [] /\ ls = [j]) ∨ (w0 ≠ "hole" /\ ls = [])), ?_, ?_⟩
    ·cases hvns with
     | @cons vh vr _ _ c1 c2 =>
      obtain ⟨rfl, _⟩ := Z2b c1
      refine ⟨_, rfl, an, _, 0, .str w0, rfl, rfl, SqT.of han, Z1v _ _, _, rfl, rfl, _, rfl, Z16 (fun g2 => ?_) (fun g2 => ?_)⟩
      ·have hw0 : w0 = "hole" := by
        have g' := of_decide_eq_true g2
        injection g'
       obtain ⟨j, rfl, rfl⟩ := h4 hw0
       cases c2 with
       | @cons v3 vr3 _ _ f1 f2 =>
        cases f2
        obtain ⟨rfl, _⟩ := Z2b f1
        refine ⟨_, rfl, .inl ⟨rfl, _, SqL.of L1⟩, _, rfl, an, _, 1, .int (j : Nat), rfl, rfl, SqT.of han, Z7w _ _ _, fa, _, _, rfl, rfl, L1, (by show 0 < sizeLine; decide), ?_⟩
        refine ⟨[j], rfl, Z01, fun c o e => ?_, .inl ⟨hw0, j, rfl, rfl, rfl⟩⟩
        rw [Z0g (Z0i e hfa)]
        exact s1 _ _ e
      ·exact ⟨[], rfl, L1, s1, .inr ⟨fun z => g2 (by rw [z]; decide +kernel), rfl⟩⟩
    ·rintro σ2 H2 ⟨ls, rfl, L2, s2, hls⟩
     have hv2 := IsTh.kp (Kp.of s2) hv
     have hlen0 : ls.length <= 1 := by
      rcases hls with ⟨_, j, _, _, rfl⟩ | ⟨_, rfl⟩
      ·exact Nat.le_refl _
      ·exact Nat.zero_le _
     refine ⟨_, rfl, .ref an, w0, hd.map Th.at ++ ks, rfl, hv2, by rw [List.length_append, List.length_map]; omega, fun p ws H3 s3 hp0 hp hws => ?_⟩
     rw [Z4u nk] at hws
     have hwl := IsThs.len _ hws
     have hpf : p ≠ fa := fun z => by rw [z, L2] at hp0; cases hp0
     refine ⟨p, rfl, ⟨_, SqL.of hp⟩, Z72 (K := K) (a := p) (xs := ws) (fun i σ H' => ∃ (o : Option V) (l : List Nat), σ = [some (.ref an), some (.str "hole"), some (.ref fa), o] /\ H' fa = some (.lst ((iz l).map V.int)) /\ H' p = some (.lst ws) /\ IsThs H' ws ks /\ Same H H' /\ (∀ x, x ∈ l ↔ x ∈ ls ∨ ∃ y ∈ ks.take i, x ∈ hs y) /\ l.length <= ls.length + Z21 (ks.take i))
      ⟨none, ls, rfl, s3 _ _ L2, hp, hws, s2.trans s3, fun x => by simp, Nat.le_add_right _ _⟩ (fun i σ H' _ ⟨_, _, _, _, e, _⟩ => SqL.of e) ?_ ?_⟩
     ·rintro i x σ H4 hx ⟨o, l, rfl, L4, hp4, hws4, s4, hm4, hl4⟩
      obtain ⟨t, ht, hxt⟩ := Z17 _ hws4 hx
      have htk : ks.take (i + 1) = ks.take i ++ [t] := by rw [List.take_add_one, ht]; rfl
      have hc2 : Z21 (ks.take i) + cnt t <= Z21 ks := by
       have e := Zhc (ks.take (i + 1)) (ks.drop (i + 1))
       rw [List.take_append_drop, htk, Z37] at e
       omega
      refine ⟨_, rfl, .inl ⟨rfl, _, SqL.of L4⟩, _, rfl, _, rfl, x, t, rfl, hxt, h6 t (List.mem_of_getElem? ht), by omega, fun q l2 H5 s5 hq hm5 hl5 => ?_⟩
      refine ⟨fa, q, _, _, rfl, rfl, s5 _ _ L4, hq, by rw [List.length_map, List.length_map, List.length_map, List.length_map]; omega, ?_⟩
      have hu5 : But fa H5 (upd H5 fa (.lst ((iz l).map V.int ++ (iz l2).map V.int))) := fun c u h n => by rw [Z0g n]; exact h
      refine ⟨_, l ++ l2, rfl, ?_, hu5 _ _ (s5 _ _ hp4) hpf, Z7p (s5 _ _ L4) hu5 (IsThs.kp (Kp.of s5) hws4) (Z4a fun y hy => (h6 y hy).pl N), fun c o e => ?_, fun x => ?_, ?_⟩
      ·rw [Z01]
       unfold iz
       rw [List.map_append, List.map_append]
      ·rw [Z0g (Z0i e hfa)]
       exact s5 _ _ (s4 _ _ e)
      ·rw [htk, List.mem_append, hm4, hm5]
       simp only [List.mem_append, List.mem_singleton, or_and_right, exists_or, exists_eq_left, or_assoc]
      ·rw [htk, Z37, List.length_append]
       omega
     ·rintro σ H4 ⟨o, l, rfl, L4, hp4, hws4, s4, hm4, hl4⟩
      rw [List.take_of_length_le (by omega)] at hm4 hl4
      refine ⟨_, rfl, k fa l H4 s4 L4 (fun i => ?_) (by rw [Z27 nk]; omega)⟩
      rw [hm4]
      rcases hls with ⟨rfl, j, rfl, rfl, rfl⟩ | ⟨hw, rfl⟩
      ·rw [Z26]
       simp
      ·rw [Z35 hw]
       simp
theorem Zbs : FnScope ["_law_b", "_law_lets"] ["_law_b", "_law_lets"] (Z03 Z4p) := ⟨rfl, rfl, rfl, by decide +kernel, rfl, by decide +kernel, by decide +kernel⟩
theorem Zfi {f fP : Addr} {fd dP : FuncData} (F : Fun K "_law_closed" "_law_closed" Z4p f fd) (b : Binds K fd ["_law_b", "_law_lets"] []) (m : mg "_law_closed" = some (.ref f)) (T : TxtT mg) (KI : Kits K)
  (FP : Fun K "_law_parts" "_law_parts" Z1o fP dP) (bP : Binds K dP ["_law_e"] []) (mP : mg "_law_parts" = some (.ref fP)) : ∀ N, FnOk P w K mg base CX0 (N + 2) f fd ["_law_b", "_law_lets"] (Zbr N) := by
 have GP : FnOk P w K mg base CX0 1 fP dP ["_law_e"] spLawParts := Z1p FP T KI
 intro N
 induction N with
 | zero =>
  refine F.ok Zbs (fun vs H Q E h => ?_) (fun cdv A outer s H vs Q E hr h => ?_)
  ·obtain ⟨v, t, L, rfl, _⟩ := h
   rfl
  ·obtain ⟨v, t, L, rfl, _, h, _⟩ := h
   exact h.elim
 | succ N ih =>
  refine F.ok Zbs (fun vs H Q E h => ?_) (fun cdv A outer s H vs Q E hr h => ?_)
  ·obtain ⟨v, t, L, rfl, _⟩ := h
   rfl
  ·obtain ⟨v, t, L, rfl, hv, hD, hL, k⟩ := h
   have hsz : sizeLine = 16777216 := sizeLine_eq
   have hr1 : Room 1 _ := hr.mono (by omega)
   refine' ⟨?tt, ?body, ?fin⟩
   case body =>
    refine' Z06 ?s1 ?r1
    case s1 =>
     refine' Z0v ?c (Z05 ?e) Z0f
     case c => exact Z0b Z1f (Z10 Z1c (pv 0) Z04 (fun _ _ => rfl)) Z0a (Z0l _)
     case e => exact Z0d (Z4e Zda (Z10 Z1c (pv 0) Z04 (fun _ _ => rfl)) (pv 1) (Z0l _))
    case r1 =>
     refine' Z06 ?s2 (Z05 ?s3)
     case s2 =>
      refine' Z0v ?c (Z05 ?e) Z0f
      case c => exact Z0b Z1f (Z10 Z1c (pv 0) Z04 (fun _ _ => rfl)) Z0a (Z0l _)
      case e => exact Z0d (Z2q (Z07 ih hr (by rfl) m F.kp b .nil Z0e (Z09 (Z10 Z1c (pv 0) Z04 (fun _ _ => rfl)) (Z0k (pv 1) Z00))) (Z3e (Z07 ih hr (by rfl) m F.kp b .nil Z0e (Z09 (Z10 Z1c (pv 0) Z04 (fun _ _ => rfl)) (Z09 (Z0o Z1l (pv 1) Z04) Z00)))))
     case s3 =>
      refine' Z0d (Z0c (Z3o rfl) (by rfl) T.all (by decide +kernel) (Z09 ?x Z00))
      case x =>
       refine' Z1s (N' := ["_law_lets", "_law_part"]) (src := [some 1, none]) ?k1 ?k5 ?k6 ?k7
       case k1 => rfl
       case k5 => exact Z0p (Z03 Z4p) rfl ["_law_b", "_law_lets"] rfl (by decide +kernel)
       case k6 => exact Z2k (Z07 GP hr1 (by rfl) mP FP.kp bP .nil Z0e (Z0k (pv 0) Z00))
       case k7 => exact fun cl C ex s0 H0 => ⟨Z0t (i := 1) Zoc rfl (Or.inl rfl), Z2u, Z07 ih hr (by rfl) m F.kp b .nil Z0e (Z0k (pv 1) (Z0k (pv 0) Z00))⟩
   case fin =>
    obtain ⟨w0, hd, ks, rfl, h1, h2, h3, h4, ⟨h5, h7, h8⟩, h6⟩ := hD
    have nk : ∀ k ∈ ks, L2.isTup k = true := fun k hk => (h6 k hk).isTup
    have hv0 := hv
    obtain ⟨an, vns, rfl, han, hvns⟩ := Z19 hv
    cases hvns with
    | @cons vh vr _ _ c1 c2 =>
     obtain ⟨rfl, _⟩ := Z2b c1
     refine ⟨_, rfl, an, _, 0, .str w0, rfl, rfl, SqT.of han, Z1v _ _, rfl, _, rfl, Z16 (fun g => ?_) (fun g => ?_)⟩
     ·have hw : w0 = "own" := by
       have g' := of_decide_eq_true g
       injection g'
      obtain ⟨i, rfl, _⟩ := h8 hw
      subst hw
      obtain rfl := Zbp (Z7v h7)
      cases c2 with
      | @cons v3 vr3 _ _ f1 f2 =>
       cases f2
       obtain ⟨rfl, _⟩ := Z2b f1
       refine ⟨_, rfl, an, _, 1, .int (i : Nat), rfl, rfl, SqT.of han, Z7w _ _ _, _, rfl, _, _, rfl, rfl, ?_⟩
       have kk := k H (Same.refl H)
       rw [Zmr] at kk
       exact kk
     ·have hno : w0 ≠ "own" := fun z => g (by rw [z]; decide +kernel)
      refine ⟨_, rfl, an, _, 0, .str w0, rfl, rfl, SqT.of han, Z1v _ _, rfl, _, rfl, Z16 (fun g1 => ?_) (fun g1 => ?_)⟩
      ·have hw : w0 = "let" := by
        have g' := of_decide_eq_true g1
        injection g'
       obtain ⟨rfl, hl⟩ := h3 hw
       obtain ⟨k1, k2, rfl⟩ := Zff hl
       subst hw
       obtain ⟨x, y, rfl, hx, hy⟩ := Zms c2
       have p1 := h6 k1 (by simp)
       have p2 := h6 k2 (by simp)
       refine ⟨_, rfl, an, _, 1, x, rfl, rfl, SqT.of han, Z7w _ _ _, _, rfl, x, k1, L, rfl, hx, p1, hL, fun H1 s1 => ⟨_, rfl, ?_⟩⟩
       have kk := fun H' s' => k H' s'
       rw [Zmq hL p1.isTup p2.isTup] at kk
       refine Z16 (fun g2 => ?_) (fun g2 => ?_)
       ·refine ⟨_, rfl, an, _, 2, y, rfl, rfl, SqT.of (s1 _ _ han), Zhb _ _ _ _, _, rfl, _, _, rfl, rfl, y, k2, L + 1, rfl, IsTh.kp (Kp.of s1) hy, p2, by omega, fun H2 s2 => ?_⟩
        have k3 := kk H2 (s1.trans s2)
        rw [g2, Bool.true_and] at k3
        exact k3
       ·have k3 := kk H1 s1
        rw [show clB L k1 = false by simpa using g2, Bool.false_and] at k3
        exact k3
      ·have hnl : w0 ≠ "let" := fun z => g1 (by rw [z]; decide +kernel)
       refine ⟨_, rfl, .ref an, w0, hd.map Th.at ++ ks, rfl, hv0, by rw [List.length_append, List.length_map]; omega, fun p ws H1 s1 hp0 hp hws => ?_⟩
       rw [Z4u nk] at hws
       have hwl := IsThs.len _ hws
       refine ⟨p, rfl, ⟨_, SqL.of hp⟩, Z2w (K := K) (a := p) (xs := ws) (fun i ys σc H' => ∃ (o : Option V), σc = [some (.int L), o] /\ ys = ((ks.take i).map (clB L)).map V.bl /\ Same H1 H')
        ⟨none, rfl, by rw [List.take_zero]; rfl, Same.refl _⟩ (fun i ys σc H' ⟨_, _, _, e⟩ => SqL.of (e _ _ hp)) ?_ ?_⟩
       ·rintro i x ys σc H' hx hi ⟨o, rfl, rfl, s2⟩
        obtain ⟨t, ht, hxt⟩ := Z17 _ hws hx
        refine ⟨by rw [List.length_map, List.length_map, List.length_take]; omega, ?_⟩
        refine ⟨_, rfl, _, rfl, x, t, L, rfl, IsTh.kp (Kp.of s2) hxt, h6 t (List.mem_of_getElem? ht), hL, fun H2 s3 => nx hi ⟨_, rfl, ?_, s2.trans s3⟩⟩
        rw [List.take_add_one, ht, List.map_append, List.map_append]
        rfl
       ·rintro ys σc H' ⟨o, rfl, rfl, s2⟩ q hq
        rw [List.take_of_length_le (by omega)]
        refine ⟨q, ks.map (clB L), rfl, SqL.of Z01, ?_⟩
        have k3 := k _ ((s1.trans s2).trans (Z02 (o := .lst ((ks.map (clB L)).map V.bl)) hq))
        rw [Zob hnl hno nk] at k3
        rw [List.all_map]
        exact k3
end
mutual
def tuT : Th -> Bool
 | .at _ => true
 | .tup xs => Z9d xs
 | .lst _ => false
def Z9d : List Th -> Bool
 | [] => true
 | x :: xs => tuT x && Z9d xs
end
mutual
theorem Za3 {H H' : Hp} {a : Addr} {xs : List V} (h : H a = some (.lst xs)) (b : But a H H') : ∀ {v : V} {t : Th}, IsTh H v t -> tuT t = true -> IsTh H' v t
 | _, _, .at f, _ => .at f
 | _, _, .tup e r, p => by
  rw [tuT] at p
  exact .tup (b _ _ e (Z3i e h (by intro q; cases q))) (Z7x h b r p)
 | _, _, .lst e r, p => by rw [tuT] at p; cases p
theorem Z7x {H H' : Hp} {a : Addr} {xs : List V} (h : H a = some (.lst xs)) (b : But a H H') : ∀ {vs : List V} {ts : List Th}, IsThs H vs ts -> Z9d ts = true -> IsThs H' vs ts
 | _, _, .nil, _ => .nil
 | _, _, .cons e r, p => by
  rw [Z9d, Bool.and_eq_true] at p
  exact .cons (Za3 h b e p.1) (Z7x h b r p.2)
end
mutual
theorem Zmt : ∀ {t : Th}, plT t = true -> tuT t = true
 | .at _, _ => by rw [tuT]
 | .tup xs, h => by rw [plT] at h; rw [tuT]; exact Zie h
 | .lst _, h => by rw [plT] at h; cases h
theorem Zie : ∀ {ts : List Th}, Z4z ts = true -> Z9d ts = true
 | [], _ => by rw [Z9d]
 | x :: xs, h => by
  rw [Z4z, Bool.and_eq_true] at h
  rw [Z9d, Zmt h.1, Zie h.2]
  rfl
end
theorem Z7y : ∀ {a : List Th}, (∀ x ∈ a, tuT x = true) -> Z9d a = true := by
 intro a
 induction a with
 | nil => intro _; rw [Z9d]
 | cons x a ih => intro h; rw [Z9d, h x (List.mem_cons_self ..), ih fun y hy => h y (List.mem_cons_of_mem _ hy)]; rfl
theorem Zhd : ∀ a b : List Th, Z9d (a ++ b) = (Z9d a && Z9d b) := by
 intro a
 induction a with
 | nil => intro b; rw [List.nil_append, Z9d, Bool.true_and]
 | cons x a ih => intro b; rw [List.cons_append, Z9d, Z9d, ih, Bool.and_assoc]
theorem Zbt {xs : List V} {i : Nat} {v : V} (h : xs[i]? = some v) : atI xs (0 + (i : Int)) = some v := by
 rw [Int.zero_add]
 exact Z2m h
abbrev Zn2 : Th := .tup [.at (.str "num"), .at (.int 1)]
abbrev Zot : Gm := [("_law_one", 1, Zn2)]
abbrev Zif (l : List Th) : Gm := [("_law_one", 1, Zn2), ("_law_some", 2, .lst l)]
def Zpp : Stmt -> Expr
 | .Assign _ e _ => e
 | _ => .Constant .none 0 ⟨0, 0, 0, 0⟩
def Zou : Option Th -> List Th
 | some (.lst l) => l
 | _ => []
def Zov (i : Nat) : Expr := Zpp ((Z0m Zky).getD i (.Pass ⟨0, 0, 0, 0⟩))
def bd : Nat -> List Th
 | 0 => Zou (ev Zot 9 (Zov 1))
 | n + 1 => Zou (ev (Zif (bd n)) 9 (Zov (n + 2)))
abbrev bads : List Th := bd 6
def Bd (t : Th) : Prop := treeT t = false /\ L2.isTup t = true /\ tuT t = true
def Zhe (us : List Th) : Prop := ∃ u ∈ us, L2.isTup u = true /\ treeT u = false
theorem Zkn : bads.length = 39 := by decide +kernel
theorem Zko : ∀ t ∈ bads, (treeT t = false /\ L2.isTup t = true /\ tuT t = true) /\ Th.sz t <= 100 := by decide +kernel
def spBad : Sp := fun vs H Q _ => ∃ (d l : Addr) (ns : List Int) (n : Nat), vs = [.ref d] /\ Feed H d l ns n /\ n <= 800000000000 ∧
 ∀ (v : V) (t : Th) n' H', IsTh H' v t -> Bd t -> Th.sz t <= 100 -> n' <= n + 1 -> Feed H' d l ns n' -> But d H H' -> Q v H'
def Zhf (d : Addr) (H : Hp) (k : Nat) : St -> Hp -> Prop := fun σ' H' => ∃ v1 v2, σ' = [some (.ref d), some v1, some v2] /\ Same H H' /\ IsTh H' v1 Zn2 /\ IsTh H' v2 (.lst (bd k))
theorem Z3d {d : Addr} {H H1 : Hp} {k : Nat} {D : Ends} {σ : St} (h : Zhf d H k σ H1) : Zkx (TEv (Zif (bd k)) (.lst (bd (k + 1)))) (Z83 2) { D with nx := Zhf d H (k + 1) } σ H1 := by
 obtain ⟨v1, v2, rfl, s1, h1, h2⟩ := h
 exact ⟨Za1 (Za1 ev0 rfl h2) rfl h1, fun v H2 s2 hv => ⟨v1, v, rfl, s1.trans s2, IsTh.kp (Kp.of s2) h1, hv⟩⟩
section
variable {P : Program} {w : World} {K : PySem.W.Frag} {mg : Str -> Option Value} {base : Heap}
theorem scBad : FnScope ["_law_feed_here", "_law_one", "_law_some"] ["_law_feed_here"] (Z03 Zky) := ⟨rfl, rfl, rfl, by decide +kernel, rfl, by decide +kernel, by decide +kernel⟩
theorem Zmu {f fD fS : Addr} {fd dD dS : FuncData} (F : Fun K "_law_bad" "_law_bad" Zky f fd) (U : Helpers K mg fD fS dD dS) : FnOk P w K mg base CX0 2 f fd ["_law_feed_here"] spBad := by
 have GD : FnOk P w K mg base CX0 1 fD dD ["_law_feed_here", "_law_many"] spDraw := Z4r U.D U.T
 refine F.ok scBad (fun vs H Q E h => ?_) (fun cdv A outer s H vs Q E hr h => ?_)
 ·obtain ⟨d, l, ns, n, rfl, _⟩ := h
  rfl
 ·obtain ⟨d, l, ns, n, rfl, F0, hn, k⟩ := h
  refine' ⟨?tt, ?body, ?fin⟩
  case body =>
   refine' Z06 ?t1 (Z0h ?l0 (Z0h ?l1 (Z0h ?l2 (Z0h ?l3 (Z0h ?l4 (Z0h ?l5 (Z0h ?l6 (Z05 ?ret))))))))
   case t1 => exact Z08 (i := 1) scBad.nd rfl (Or.inl rfl) (Z55 Z54 9 _ Zn2 (by kernel_rfl))
   case l0 => exact Z08 (i := 2) scBad.nd rfl (Or.inl rfl) (Z55 (G := Zot) (Z4w Z54 rfl (Or.inl rfl) (by decide +kernel) (by decide +kernel)) 9 _ (.lst (bd 0)) (by kernel_rfl))
   case l1 => exact Z08 (i := 2) scBad.nd rfl (Or.inl rfl) (Z55 (G := Zif (bd 0)) (Z4w (Z4w Z54 rfl (Or.inl rfl) (by decide +kernel) (by decide +kernel)) rfl (Or.inl rfl) (by decide +kernel) (by decide +kernel)) 9 _ (.lst (bd 1)) (by kernel_rfl))
   case l2 => exact Z08 (i := 2) scBad.nd rfl (Or.inl rfl) (Z55 (G := Zif (bd 1)) (Z4w (Z4w Z54 rfl (Or.inl rfl) (by decide +kernel) (by decide +kernel)) rfl (Or.inl rfl) (by decide +kernel) (by decide +kernel)) 9 _ (.lst (bd 2)) (by kernel_rfl))
   case l3 => exact Z08 (i := 2) scBad.nd rfl (Or.inl rfl) (Z55 (G := Zif (bd 2)) (Z4w (Z4w Z54 rfl (Or.inl rfl) (by decide +kernel) (by decide +kernel)) rfl (Or.inl rfl) (by decide +kernel) (by decide +kernel)) 9 _ (.lst (bd 3)) (by kernel_rfl))
   case l4 => exact Z08 (i := 2) scBad.nd rfl (Or.inl rfl) (Z55 (G := Zif (bd 3)) (Z4w (Z4w Z54 rfl (Or.inl rfl) (by decide +kernel) (by decide +kernel)) rfl (Or.inl rfl) (by decide +kernel) (by decide +kernel)) 9 _ (.lst (bd 4)) (by kernel_rfl))
   case l5 => exact Z08 (i := 2) scBad.nd rfl (Or.inl rfl) (Z55 (G := Zif (bd 4)) (Z4w (Z4w Z54 rfl (Or.inl rfl) (by decide +kernel) (by decide +kernel)) rfl (Or.inl rfl) (by decide +kernel) (by decide +kernel)) 9 _ (.lst (bd 5)) (by kernel_rfl))
   case l6 => exact Z08 (i := 2) scBad.nd rfl (Or.inl rfl) (Z55 (G := Zif (bd 5)) (Z4w (Z4w Z54 rfl (Or.inl rfl) (by decide +kernel) (by decide +kernel)) rfl (Or.inl rfl) (by decide +kernel) (by decide +kernel)) 9 _ (.lst (bd 6)) (by kernel_rfl))
   case ret => exact Z0d (Z10 Z1e (pv 2) (Z07 GD hr (by rfl) U.mD U.D.kp U.bD .nil Z0e (Z0k (pv 0) (Z40 (Z0c Z0j (by rfl) U.T.len PySem.boot_len (Z0k (pv 2) Z00)) Z00))) (fun _ _ => rfl))
  case fin =>
   refine ⟨ev0, fun v1 H1 s1 h1 => ?_⟩
   refine ⟨Zhf d H 0, ⟨Za1 ev0 rfl h1, fun v2 H2 s2 h2 => ⟨v1, v2, rfl, s1.trans s2, IsTh.kp (Kp.of s2) h1, h2⟩⟩, fun σ2 H2 m2 => ?_⟩
   refine ⟨Zhf d H 1, Z3d m2, fun σ3 H3 m3 => ?_⟩
   refine ⟨Zhf d H 2, Z3d m3, fun σ4 H4 m4 => ?_⟩
   refine ⟨Zhf d H 3, Z3d m4, fun σ5 H5 m5 => ?_⟩
   refine ⟨Zhf d H 4, Z3d m5, fun σ6 H6 m6 => ?_⟩
   refine ⟨Zhf d H 5, Z3d m6, fun σ7 H7 m7 => ?_⟩
   refine ⟨Zhf d H 6, Z3d m7, fun σ8 H8 m8 => ?_⟩
   obtain ⟨w1, w2, rfl, s8, g1, g2⟩ := m8
   obtain ⟨p, vs, rfl, hp, hvs⟩ := Zap g2
   have hl := IsThs.len _ hvs
   have hb : (bd 6).length = 39 := Zkn
   have F8 := F0.same s8
   refine ⟨_, rfl, _, rfl, _, rfl, p, vs, rfl, .inl (SqL.of hp), d, l, ns, n, _, rfl, F8, by omega, by show (0 : Int) < (vs.length : Int); omega, by show (vs.length : Int) < 18446744073709551616; omega, fun i n1 H9 i0 i1 hn1 F9 b9 => ?_⟩
   have k9 := b9.kp F8
   have hvs9 := IsThs.kp k9 hvs
   obtain ⟨x, hx, hat⟩ := Z3p (xs := vs) (i := i) i0 i1
   obtain ⟨j, hj⟩ := List.getElem?_of_mem hx
   obtain ⟨t, htj, hxt⟩ := Z17 _ hvs9 hj
   obtain ⟨q1, q2⟩ := Zko t (List.mem_of_getElem? htj)
   exact ⟨p, vs, i, x, rfl, rfl, SqL.of (F8.lst b9 hp), hat, k x t n1 H9 hxt q1 q2 hn1 F9 ((But.of s8).trans b9)⟩
end
def bdS (k l : Th) : Nat := Th.sz k + cnt k * Th.sz l
def Zig (N : Nat) : Sp := fun vs H Q _ => ∃ (v vl : V) (z : Int) (t l : Th), vs = [v, .int z, vl] /\ IsTh H v t /\ PfT N t /\ IsTh H vl l /\ Bd l /\ 0 <= z /\ z < (cnt t : Nat) ∧
 ∀ (v' : V) (t' : Th) H', Same H H' -> IsTh H' v' t' -> Bd t' -> Th.sz t' <= bdS t l -> Q v' H'
theorem Zkp {H : Hp} : ∀ (vs : List V) {us : List Th} (i : Nat) {v : V} {t : Th}, IsThs H vs us -> IsTh H v t -> IsThs H (vs.set i v) (us.set i t) := by
 intro vs
 induction vs with
 | nil => intro us i v t h _; cases h; exact .nil
 | cons w vs ih =>
  intro us i v t h hv
  cases h with
  | cons a b =>
   cases i with
   | zero => exact .cons hv b
   | succ i => exact .cons a (ih i b hv)
theorem Zod {n : Nat} {i : Nat} (h : i < n) : ixN n (0 + (i : Int)) = some i := by
 unfold ixN
 rw [if_pos (by omega), if_pos (by omega)]
 congr 1
 omega
theorem Zmv {l : Th} : ∀ (us ks : List Th), us.length = ks.length -> (∀ (j : Nat) (u k : Th), us[j]? = some u -> ks[j]? = some k -> Th.sz u <= bdS k l) -> szs us <= szs ks + Z21 ks * Th.sz l := by
 intro us
 induction us with
 | nil => intro ks _ _; rw [szs]; exact Nat.zero_le _
 | cons u us ih =>
  intro ks hl h
  match ks, hl with
  | k :: ks, hl =>
   have h1 := h 0 u k rfl rfl
   have h2 := ih ks (by simpa using hl) fun j u k a b => h (j + 1) u k (by simpa using a) (by simpa using b)
   rw [szs, szs, Z21, Nat.add_mul]
   unfold bdS at h1
   omega
section
variable {P : Program} {w : World} {K : PySem.W.Frag} {mg : Str -> Option Value} {base : Heap}
theorem scBent : FnScope ["_law_b", "_law_at", "_law_bad_here", "_law_inner", "_law_k", "_law_long"] ["_law_b", "_law_at", "_law_bad_here"] (Z03 Zef) := ⟨rfl, rfl, rfl, by decide +kernel, rfl, by decide +kernel, by decide +kernel⟩
theorem Zkq {f fP fW fN : Addr} {fd dP dW dN : FuncData} (F : Fun K "_law_bent" "_law_bent" Zef f fd) (b : Binds K fd ["_law_b", "_law_at", "_law_bad_here"] []) (m : mg "_law_bent" = some (.ref f)) (U : HW K mg fP fW dP dW) (hrange : mg "range" = none) (hsum : mg "sum" = none)
  (FN : Fun K "_law_nodes" "_law_nodes" Z50 fN dN) (bN : Binds K dN ["_law_e"] []) (mN : mg "_law_nodes" = some (.ref fN)) : ∀ N, FnOk P w K mg base CX0 (N + 3) f fd ["_law_b", "_law_at", "_law_bad_here"] (Zig N) := by
 have GP : FnOk P w K mg base CX0 1 fP dP ["_law_e"] spLawParts := Z1p U.P U.T U.KI
 have GW : FnOk P w K mg base CX0 1 fW dW ["_law_e", "_law_inner"] spWith := Z9w U.W U.T U.KI
 have GN : ∀ N, FnOk P w K mg base CX0 (N + 2) fN dN ["_law_e"] (Z7o N) := Zbe FN bN mN U.T U.KI hsum U.P U.bP U.mP
 intro N
 induction N with
 | zero =>
  refine F.ok scBent (fun vs H Q E h => ?_) (fun cdv A outer s H vs Q E hr h => ?_)
  ·obtain ⟨v, vl, z, t, l, rfl, _⟩ := h
   rfl
  ·obtain ⟨v, vl, z, t, l, rfl, _, h, _⟩ := h
   exact h.elim
 | succ N ih =>
  refine F.ok scBent (fun vs H Q E h => ?_) (fun cdv A outer s H vs Q E hr h => ?_)
  ·obtain ⟨v, vl, z, t, l, rfl, _⟩ := h
   rfl
  ·obtain ⟨v, vl, z, t, l, rfl, hv, hD, hvl, ⟨hl, hl1, hl2⟩, z0, z1, k⟩ := h
   have hsz : sizeLine = 16777216 := sizeLine_eq
   have hr1 : Room 1 _ := hr.mono (by omega)
   have hrN : Room (N + 2) _ := hr.mono (by omega)
   refine' ⟨?tt, ?body, ?fin⟩
   case body =>
    refine' Z06 ?s1 (Z06 ?s2 (Z0h ?s3 (Z06 ?s4 (Z05 ?s5))))
    case s1 => exact Z0v (Z0b Z1f (pv 1) Z04 (Z0l _)) (Z05 (Z0d (pv 2))) Z0f
    case s2 => exact Z08 (i := 3) scBent.nd rfl (Or.inl rfl) (Z07 GP hr1 (by rfl) U.mP U.P.kp U.bP .nil Z0e (Z0k (pv 0) Z00))
    case s3 => exact Z08 (i := 1) scBent.nd rfl (Or.inl rfl) (Z0o Z2n (pv 1) Z04)
    case s4 =>
     refine' Z5c PassesOwn.never rfl (Z2s (by rfl) hrange (Z40 (Z0c Z0j (by rfl) U.T.len PySem.boot_len (Z0k (pv 3) Z00)) Z00)) (Z0t (i := 4) scBent.nd rfl (Or.inl rfl)) (Z06 ?b1 (Z0h ?b2 (Z05 ?b3)))
     case b1 => exact Z08 (i := 5) scBent.nd rfl (Or.inl rfl) (Z07 (GN N) hrN (by rfl) mN FN.kp bN .nil Z0e (Z09 (Z10 Z1e (pv 3) (pv 4) (fun _ _ => rfl)) Z00))
     case b2 =>
      refine' Z0v ?c (Z05 ?d1) Z0f
      case c => exact Zab Z6c Zda Z04 (pv 1) (pv 5)
      case d1 => exact Zd3 (Z07 ih hr (by rfl) m F.kp b .nil Z0e (Z09 (Z10 Z1e (pv 3) (pv 4) (fun _ _ => rfl)) (Z0k (pv 1) (Z0k (pv 2) Z00)))) (Zl6 (pv 3) (pv 4) Zfx)
     case b3 => exact Z08 (i := 1) scBent.nd rfl (Or.inl rfl) (Z0o Z2n (pv 1) (pv 5))
    case s5 => exact Z0d (Z07 GW hr1 (by rfl) U.mW U.W.kp U.bW .nil Z0e (Z0k (pv 0) (Z0k (pv 3) Z00)))
   case fin =>
    have hct := Zeq hD
    have pD := hD
    obtain ⟨w0, hd, kt, rfl, h1, h2, h3, h4, h5, h6⟩ := hD
    have nk : ∀ k ∈ kt, L2.isTup k = true := fun k hk => (h6 k hk).isTup
    refine ⟨_, rfl, rfl, _, rfl, Z16 (fun g => ?_) (fun g => ?_)⟩
    ·refine ⟨_, rfl, k vl l H (Same.refl _) hvl ⟨hl, hl1, hl2⟩ ?_⟩
     unfold bdS
     have := Nat.mul_le_mul_right (Th.sz l) hct
     omega
    ·refine ⟨_, rfl, v, w0, hd.map Th.at ++ kt, rfl, hv, by rw [List.length_append, List.length_map]; omega, fun p ws H1 s1 hp0 hp hws => ?_⟩
     rw [Z4u nk] at hws
     have hwl := IsThs.len _ hws
     refine ⟨fun σ' H' => σ' = [some v, some (.int (z - 1)), some vl, some (.ref p), none, none] /\ H' = H1, ⟨_, rfl, _, _, rfl, rfl, rfl, rfl⟩, ?_⟩
     rintro σ3 H3 ⟨rfl, rfl⟩
     refine ⟨_, rfl, p, ws, rfl, .inl (SqL.of hp), (ws.length : Int), rfl, by omega, by omega, Z3v (fun i σ' H' => ∃ (z' : Int) (o4 o5 : Option V) (us : List Th) (ws' : List V), σ' = [some v, some (.int z'), some vl, some (.ref p), o4, o5] /\ (z' = z - 1 - (Z21 (kt.take i) : Nat) /\ (0 <= z' ∨ Zhe us)) /\ But p H3 H' /\ H' p = some (.lst ws') /\ IsThs H' ws' us /\ us.length = kt.length /\ (∀ u ∈ us, tuT u = true) /\ (∀ j, i <= j -> us[j]? = kt[j]?) /\ ∀ (j : Nat) (u k : Th), us[j]? = some u -> kt[j]? = some k -> Th.sz u <= bdS k l)
      ⟨z - 1, none, none, kt, ws, rfl, ⟨by rw [List.take_zero, Z21]; omega, .inl (by have : ¬ z = 0 := fun e => g (by rw [e]; rfl); omega)⟩, But.refl _ _, hp, hws, rfl, fun u hu => Zmt ((h6 u hu).pl N), fun _ _ => rfl, fun j u k a b => ?_⟩ ?_ ?_⟩
     ·rw [a] at b
      cases b
      exact Nat.le_add_right _ _
     ·rintro i σ' H' hi ⟨z', o4, o5, us, ws', rfl, ⟨hz1, hz2⟩, b2, hp2, hws2, hul, hupf, hsame, hbd⟩
      have hi' : i < kt.length := by omega
      have hlw := IsThs.len _ hws2
      have hki : kt[i]? = some kt[i] := List.getElem?_eq_getElem hi'
      have hui : us[i]? = some kt[i] := by rw [hsame i (Nat.le_refl _)]; exact hki
      obtain ⟨x, hx, hxt⟩ := Zlr _ hws2 hui
      have hm := h6 _ (List.getElem_mem hi')
      refine ⟨_, rfl, _, rfl, p, ws', 0 + (i : Int), x, rfl, rfl, SqL.of hp2, Zbt hx, x, kt[i], rfl, hxt, hm, fun H4 s4 => ?_⟩
      have hp4 := s4 _ _ hp2
      have b4 := b2.trans (But.of (d := p) s4)
      have hws4 := IsThs.kp (Kp.of s4) hws2
      refine ⟨fun σ' H' => ∃ (o5 : Option V) (us : List Th) (ws' : List V), σ' = [some v, some (.int z'), some vl, some (.ref p), some (.int (0 + (i : Int))), some (.int (cnt kt[i] : Nat))] /\ (0 <= z' - (cnt kt[i] : Nat) ∨ Zhe us) /\ But p H3 H' /\ H' p = some (.lst ws') /\ IsThs H' ws' us /\ us.length = kt.length /\ (∀ u ∈ us, tuT u = true) /\ (∀ j, i + 1 <= j -> us[j]? = kt[j]?) /\ ∀ (j : Nat) (u k : Th), us[j]? = some u -> kt[j]? = some k -> Th.sz u <= bdS k l, ?_, ?_⟩
      ·have stay : (0 <= z' - (cnt kt[i] : Nat) ∨ Zhe us) -> ∃ (o5 : Option V) (us : List Th) (ws' : List V), [some v, some (.int z'), some vl, some (.ref p), some (.int (0 + (i : Int))), some (.int (cnt kt[i] : Nat))] = [some v, some (.int z'), some vl, some (.ref p), some (.int (0 + (i : Int))), some (.int (cnt kt[i] : Nat))] /\ (0 <= z' - (cnt kt[i] : Nat) ∨ Zhe us) /\ But p H3 H4 /\ H4 p = some (.lst ws') /\ IsThs H4 ws' us /\ us.length = kt.length /\ (∀ u ∈ us, tuT u = true) /\ (∀ j, i + 1 <= j -> us[j]? = kt[j]?) /\ ∀ (j : Nat) (u k : Th), us[j]? = some u -> kt[j]? = some k -> Th.sz u <= bdS k l :=
        fun hor => ⟨none, us, ws', rfl, hor, b4, hp4, hws4, hul, hupf, fun j hj => hsame j (by omega), hbd⟩
       refine ⟨_, rfl, _, _, rfl, rfl, _, rfl, Z16 (fun g1 => ⟨_, rfl, _, _, rfl, rfl, _, rfl, Z16 (fun g2 => ?_) (fun g2 => stay (hz2.elim (fun h => .inl (by have : ¬ z' < (cnt kt[i] : Nat) := fun e => g2 (decide_eq_true e); omega)) .inr))⟩) (fun g1 => ⟨_, rfl, Z3z (stay (hz2.elim (fun h => absurd (decide_eq_true h) g1) .inr))⟩)⟩
       have hxt4 := IsTh.kp (Kp.of s4) hxt
       have hvl4 := Za3 hp b4 (IsTh.kp (Kp.of s1) hvl) hl2
       refine ⟨_, rfl, _, rfl, p, ws', 0 + (i : Int), x, rfl, rfl, SqL.of hp4, Zbt hx, _, rfl, _, rfl, x, vl, z', kt[i], l, rfl, hxt4, hm, hvl4, ⟨hl, hl1, hl2⟩, of_decide_eq_true g1, of_decide_eq_true g2, fun v' t' H5 s5 hv5 pf5 sz5 => ?_⟩
       have hp5 := s5 _ _ hp4
       refine ⟨_, rfl, _, rfl, p, ws', 0 + (i : Int), i, rfl, rfl, hp5, Zod (by omega), ?_⟩
       have bu : But p H5 (upd H5 p (.lst (ws'.set i v'))) := But.upd
       refine ⟨none, us.set i t', ws'.set i v', rfl, .inr ⟨t', List.mem_of_getElem? (List.getElem?_set_self (by omega)), pf5.2.1, pf5.1⟩, (b4.trans (But.of s5)).trans bu, Z01, ?_, by rw [List.length_set]; exact hul, ?_, ?_, ?_⟩
       ·refine Zkp _ i (Z7x hp5 bu (IsThs.kp (Kp.of s5) hws4) (Z7y hupf)) (Za3 hp5 bu hv5 pf5.2.2)
       ·intro u hu
        rcases List.mem_or_eq_of_mem_set hu with y | y
        ·exact hupf u y
        ·rw [y]; exact pf5.2.2
       ·intro j hj
        rw [List.getElem?_set_ne (by omega)]
        exact hsame j (by omega)
       ·intro j u k a b
        by_cases hji : j = i
        ·subst hji
         rw [List.getElem?_set_self (by omega)] at a
         cases a
         rw [hki] at b
         cases b
         exact sz5
        ·rw [List.getElem?_set_ne (Ne.symm hji)] at a
         exact hbd j u k a b
      ·rintro σ5 H5 ⟨_, us5, ws5, rfl, q0, q1, q2, q3, q4, q5, q6, q7⟩
       exact ⟨_, rfl, _, rfl, _, _, rfl, rfl, _, _, _, us5, ws5, rfl, ⟨by rw [List.take_add_one, hki, hz1]; show _ = z - 1 - ((Z21 (kt.take i ++ [kt[i]]) : Nat) : Int); rw [Z37]; omega, q0⟩, q1, q2, q3, q4, q5, q6, q7⟩
     ·rintro σ' H' ⟨z', o4, o5, us, ws', rfl, ⟨hz1, hz2⟩, b2, hp2, hws2, hul, hupf, hsame, hbd⟩
      have hv2 := Zbh hp b2 (IsTh.kp (Kp.of s1) hv) (PfT.pl _ pD)
      have sm : Same H H' := fun c o e => b2 c o (s1 _ _ e) (Z0i e hp0)
      refine ⟨_, rfl, _, rfl, v, p, _, us, ws', rfl, hv2, by rw [List.length_cons, List.length_append, List.length_map]; omega, hp2, hws2, by omega, fun r H3 s3 hr3 => ?_⟩
      rw [Z9x nk] at hr3
      refine k _ _ _ (sm.trans s3) hr3 ⟨?_, rfl, ?_⟩ ?_
      ·rw [List.take_of_length_le (by omega)] at hz1
       rw [Z27 nk] at z1
       obtain ⟨u, hu, e1, e2⟩ := hz2.resolve_left (by omega)
       exact Zha (List.mem_cons_of_mem _ (List.mem_append_right _ hu)) e1 e2
      ·unfold nd
       rw [tuT, Z9d, Zhd, Z7y hupf, Z7y (a := hd.map Th.at) (fun x hx => by obtain ⟨v, _, rfl⟩ := List.mem_map.mp hx; rfl), tuT]
       rfl
      ·have := Zmv us kt hul hbd
       unfold bdS
       rw [Zcr, Zcr, Z27 nk, Nat.add_mul]
       omega
end
def Zhg (K : PySem.W.Frag) : Sp := fun vs H Q _ => ∃ (a : Addr) (ns : List Int), vs = [.ref a] /\ SqL K H a (ns.map V.int) /\ ns.length <= 63 /\ ∀ H', Q (.bl true) H'
theorem Feed.butl {H H' : Hp} {d l sa : Addr} {ns : List Int} {n : Nat} {xs : List V} (F : Feed H d l ns n) (hs : H sa = some (.lst xs)) (hl : sa ≠ l) (b : But sa H H') : Feed H' d l ns n := by
 obtain ⟨⟨z, hd⟩, hl', hz⟩ := F
 exact ⟨⟨z, b _ _ hd (Z3i hd hs (by intro q; cases q))⟩, b _ _ hl' (Ne.symm hl), hz⟩
theorem Za4 (i : Nat) : cnt (hol i) = 1 := by
 unfold hol
 rw [Z27 (fun k hk => by cases hk)]
 rfl
structure FF (H : Hp) (nm : Addr) (T : List Str) (v : V) (t : Th) : Prop where
 N : Nms H nm T
 is : IsTh H v t
 pf : PfT 9 t
 c : cnt t <= 66
 hh : ∀ i ∈ hs t, i < 12
theorem FF.kp {H H' : Hp} {nm : Addr} {T : List Str} {v : V} {t : Th} (L : FF H nm T v t) (k : Kp H H') : FF H' nm T v t := ⟨L.N.kp k, IsTh.kp k L.is, L.pf, L.c, L.hh⟩
theorem FF.few {H : Hp} {nm : Addr} {T : List Str} {v : V} {t : Th} (L : FF H nm T v t) : Few t := Zmp L.hh (by decide)
theorem FF.ask {H : Hp} {nm : Addr} {T : List Str} {v : V} {t : Th} (L : FF H nm T v t) : Ask 9 t := by
 have h := Zf1 _ L.pf
 have c := L.c
 exact ⟨by omega, fun _ => ⟨L.pf, by omega, by omega, L.few⟩⟩
theorem Z9e {t : Th} (h : treeT t = false) (hz : Th.sz t <= 1000000) : Ask 9 t := ⟨hz, fun z => by rw [h] at z; cases z⟩
theorem Z9f {t : Th} {b : Bool} (h : treeT t = false) (p : Pat t b) : b = false := by
 rcases p with ⟨_, e⟩ | ⟨e, _⟩
 ·exact e
 ·rw [h] at e; cases e
def Due (t : Th) (ns : List Int) (b : Bool) : Prop := HN t ns /\ b = ((asT t).isEmpty && decide (ns = iz (List.range ns.length)))
theorem Zfj {t : Th} {ns : List Int} {b c : Bool} (h : treeT t = true) (p : Pat t b) (d : Due t ns c) : b = c := by
 obtain ⟨d1, d2⟩ := d
 rcases p with ⟨e, _⟩ | ⟨_, ⟨e1, e2⟩ | ⟨e1, ms, m1, m2⟩⟩
 ·rw [h] at e; cases e
 ·have : (asT t).isEmpty = false := by
   cases q : asT t with
   | nil => exact absurd q e1
   | cons x xs => rfl
  rw [d2, e2, this]
  rfl
 ·rw [d2, e1, m2, m1.one d1]
  rfl
theorem Zkr {t : Th} (h : PfT 9 t) : clB 0 t = (asT t).isEmpty := by
 unfold clB
 rw [Zfa _ (Zf9 9 t (Zmo 9 h)).1]
theorem Zoe {ls : List Nat} {t : Th} {ns : List Int} (hm : ∀ i, i ∈ ls ↔ i ∈ hs t) (p : ns.Perm (ofL (iz ls))) (s : ns.Pairwise (· <= ·)) : HN t ns := by
 have h0 : ∀ x ∈ ofL (iz ls), ∃ i : Nat, i ∈ ls /\ x = (i : Int) := fun x hx => by
  obtain ⟨i, hi, e⟩ := List.mem_map.mp ((Z4m _ x).mp hx)
  exact ⟨i, hi, e.symm⟩
 refine ⟨(ofL (iz ls)).map Int.toNat, ?_, fun k => ?_, ?_, s⟩
 ·unfold List.Nodup
  rw [List.pairwise_map]
  exact List.Pairwise.imp_of_mem (fun ha hb e => by
   obtain ⟨i, _, rfl⟩ := h0 _ ha
   obtain ⟨j, _, rfl⟩ := h0 _ hb
   intro z
   exact e (by simp at z; rw [z])) (Zfd _)
 ·rw [<- hm, List.mem_map]
  constructor
  ·rintro ⟨x, hx, rfl⟩
   obtain ⟨i, hi, rfl⟩ := h0 x hx
   simpa using hi
  ·exact fun hk => ⟨(k : Int), (Z4m _ _).mpr (List.mem_map.mpr ⟨k, hk, rfl⟩), by simp⟩
 ·have e : iz ((ofL (iz ls)).map Int.toNat) = ofL (iz ls) := by
   unfold iz
   rw [List.map_map]
   conv => rhs; rw [<- List.map_id (ofL _)]
   refine List.map_congr_left fun x hx => ?_
   obtain ⟨i, _, rfl⟩ := h0 x hx
   simp
  rw [e]
  exact p
theorem Zmw {ls : List Nat} {t : Th} (hm : ∀ i, i ∈ ls ↔ i ∈ hs t) (f : Few t) : (ofL (iz ls)).length < 64 := by
 have h0 : ∀ x ∈ ofL (iz ls), ∃ i : Nat, i ∈ ls /\ x = (i : Int) := fun x hx => by
  obtain ⟨i, hi, e⟩ := List.mem_map.mp ((Z4m _ x).mp hx)
  exact ⟨i, hi, e.symm⟩
 have := f ((ofL (iz ls)).map Int.toNat) (by
  unfold List.Nodup
  rw [List.pairwise_map]
  exact List.Pairwise.imp_of_mem (fun ha hb e => by
   obtain ⟨i, _, rfl⟩ := h0 _ ha
   obtain ⟨j, _, rfl⟩ := h0 _ hb
   intro z
   exact e (by simp at z; rw [z])) (Zfd _)) fun k hk => by
  obtain ⟨x, hx, rfl⟩ := List.mem_map.mp hk
  obtain ⟨i, hi, rfl⟩ := h0 x hx
  rw [<- hm]
  simpa using hi
 rw [List.length_map] at this
 exact this
theorem Zbu {ts : List Th} : treeT (.lst ts) = false := by
 show Z6f nameB signB (.lst ts) = false
 rw [Z6f]
theorem Zks {t u : Th} (h : L2.isTup u = false) : treeT (.tup [.at (.str "do"), t, u]) = false := by
 refine Z7k ?_
 show Z6e nameB signB (.tup [.at (.str "do"), t, u]) = false
 rw [Z6e, show kindOf "do" = some .dow from by decide +kernel]
 show (decide (1 <= 2) && decide (2 <= 6) && (L2.isTup t && (L2.isTup u && true))) = false
 rw [h]
 simp
theorem Zhh {t u : Th} : treeT (.tup [.at (.str "say"), t, u]) = false := by
 refine Z7k ?_
 show Z6e nameB signB (.tup [.at (.str "say"), t, u]) = false
 rw [Z6e, show kindOf "say" = some .say from by decide +kernel]
 rfl
theorem Zmx (j : Nat) : HN (hol j) [(j : Int)] := ⟨[j], by simp, fun k => by rw [Z68, List.mem_singleton], List.Perm.refl _, by simp⟩
theorem Zkt (j : Nat) : Few (hol j) := fun ks nd hk => by
 have p : ks.length <= 1 := by
  match ks, nd, hk with
  | [], _, _ => exact Nat.zero_le _
  | [x], _, _ => exact Nat.le_refl _
  | x :: y :: r, nd, hk =>
   have e1 := (Z68 j x).mp (hk x (by simp))
   have e2 := (Z68 j y).mp (hk y (by simp))
   rw [e1, e2] at nd
   simp at nd
 omega
theorem Za5 (j : Nat) : Ask 9 (hol j) := by
 have h := Zf1 1 (Z66 j)
 have c := Za4 j
 exact ⟨by omega, fun _ => ⟨(Z66 j).le (by decide), by omega, by omega, Zkt j⟩⟩
theorem Za6 {j : Nat} {b : Bool} (p : Pat (hol j) b) : b = decide (j = 0) := by
 have e : asT (hol j) = [] := by
  unfold hol nd
  rw [Z2j (by decide +kernel)]
  rfl
 refine (Zfj (Zfg 1 (Z66 j)) p ⟨Zmx j, rfl⟩).trans ?_
 rw [e]
 show (true && decide ([(j : Int)] = [((0 : Nat) : Int)])) = _
 rw [Bool.true_and]
 refine decide_eq_decide.mpr ⟨fun z => ?_, fun z => by rw [z]⟩
 injection z with z
 omega
def Z9g : List V := [.int 3, .int 0, .int 6, .int 12, .int 2, .int 1]
def Zih : List Th := [.at .non, .at (.bl true), .at (.bl false), .at (.int 0), .at (.int 7), .at (.str ""), .at (.str "hole"), .lst [], .lst [.at (.str "take")], .lst [.tup [.at (.str "take")]], .at (.str "take")]
theorem Zcw : ∀ t ∈ Zih, treeT t = false /\ Th.sz t <= 100 := by decide +kernel
structure Fn (K : PySem.W.Frag) (mg : Str -> Option Value) (x : Str) (st : Stmt) (ps : List Str) (f : Addr) (fd : FuncData) : Prop where
 F : Fun K x x st f fd
 b : Binds K fd ps []
 m : mg x = some (.ref f)
structure LwF where
 fD : Addr
 fS : Addr
 fF : Addr
 fN : Addr
 fW : Addr
 fX : Addr
 fDn : Addr
 fTu : Addr
 fNu : Addr
 fCl : Addr
 fTo : Addr
 fHc : Addr
 fBe : Addr
 fBa : Addr
 fNo : Addr
 dD : FuncData
 dS : FuncData
 dF : FuncData
 dN : FuncData
 dW : FuncData
 dX : FuncData
 dDn : FuncData
 dTu : FuncData
 dNu : FuncData
 dCl : FuncData
 dTo : FuncData
 dHc : FuncData
 dBe : FuncData
 dBa : FuncData
 dNo : FuncData
structure Lw (K : PySem.W.Frag) (mg : Str -> Option Value) (p : LwF) : Prop where
 U : Helpers K mg p.fD p.fS p.dD p.dS
 T : TxtT mg
 KI : Kits K
 lst : mg "list" = none
 set : mg "set" = none
 srt : mg "sorted" = none
 F : Fn K mg "_law_feed" Ze9 ["_law_script"] p.fF p.dF
 N : Fn K mg "_law_names" Z8w ["_law_feed_here", "_law_many"] p.fN p.dN
 W : Fn K mg "_law_world" Z8x ["_law_names_here", "_law_room", "_law_holes", "_law_astray"] p.fW p.dW
 X : Fn K mg "_law_form" Z9p ["_law_feed_here", "_law_world_here", "_law_lets", "_law_below"] p.fX p.dX
 Dn : Fn K mg "_law_dense" Z6u ["_law_b", "_law_seen"] p.fDn p.dDn
 Tu : Fn K mg "_law_turned_about" Z4n ["_law_b", "_law_many"] p.fTu p.dTu
 Nu : Fn K mg "_law_numbers" Z25 ["_law_b", "_law_word"] p.fNu p.dNu
 Cl : Fn K mg "_law_closed" Z4p ["_law_b", "_law_lets"] p.fCl p.dCl
 To : Fn K mg "_law_told" Zeg ["_law_thing", "_law_due"] p.fTo p.dTo
 Hc : Fn K mg "hole_count" Z2h ["pattern"] p.fHc p.dHc
 Be : Fn K mg "_law_bent" Zef ["_law_b", "_law_at", "_law_bad_here"] p.fBe p.dBe
 Ba : Fn K mg "_law_bad" Zky ["_law_feed_here"] p.fBa p.dBa
 No : Fn K mg "_law_nodes" Z50 ["_law_e"] p.fNo p.dNo
section
variable {P : Program} {w : World} {K : PySem.W.Frag} {mg : Str -> Option Value} {base : Heap} {p : LwF}
theorem scLaw : FnScope ["_law_script", "_law_feed_here", "_law_names_here", "_law_k", "_law_holes", "_law_world_here", "_law_form_here", "_law_seen", "_law_numbers_here", "_law_due", "_law_many", "_law_bent_here", "_law_thing"] ["_law_script"] (Z03 Zfo) := ⟨rfl, rfl, rfl, by decide +kernel, rfl, by decide +kernel, by decide +kernel⟩
theorem Zmy {f : Addr} {fd : FuncData} (F : Fun K "law" "law" Zfo f fd) (Y : Lw K mg p)
  (GN : FnOk P w K mg base CX0 3 p.fN p.dN ["_law_feed_here", "_law_many"] spNames)
  (GX : FnOk P w K mg base CX0 11 p.fX p.dX ["_law_feed_here", "_law_world_here", "_law_lets", "_law_below"] (Zi8 0 7))
  (GDn : FnOk P w K mg base CX0 9 p.fDn p.dDn ["_law_b", "_law_seen"] (Zey 7))
  (GTu : FnOk P w K mg base CX0 10 p.fTu p.dTu ["_law_b", "_law_many"] (Zbf 8))
  (GNu : FnOk P w K mg base CX0 11 p.fNu p.dNu ["_law_b", "_law_word"] (Zid 9))
  (GCl : FnOk P w K mg base CX0 11 p.fCl p.dCl ["_law_b", "_law_lets"] (Zbr 9))
  (GTo : FnOk P w K mg base CX0 7 p.fTo p.dTo ["_law_thing", "_law_due"] (Zic 9))
  (GHc : FnOk P w K mg base CX0 5 p.fHc p.dHc ["pattern"] (Zf7 9))
  (GBe : FnOk P w K mg base CX0 12 p.fBe p.dBe ["_law_b", "_law_at", "_law_bad_here"] (Zig 9))
  (GBa : FnOk P w K mg base CX0 2 p.fBa p.dBa ["_law_feed_here"] spBad)
  (GNo : FnOk P w K mg base CX0 11 p.fNo p.dNo ["_law_e"] (Z7o 9)) :
  FnOk P w K mg base CX0 13 f fd ["_law_script"] (Zhg K) := by
 have GF : FnOk P w K mg base CX0 1 p.fF p.dF ["_law_script"] (Zi4 K) := Zjv Y.F.F Y.U.T
 have GD : FnOk P w K mg base CX0 1 p.fD p.dD ["_law_feed_here", "_law_many"] spDraw := Z4r Y.U.D Y.U.T
 have GW : FnOk P w K mg base CX0 1 p.fW p.dW ["_law_names_here", "_law_room", "_law_holes", "_law_astray"] spWorld := Zgy Y.W.F
 refine F.ok scLaw (fun vs H Q E h => ?_) (fun cdv A outer s H vs Q E hr h => ?_)
 ·obtain ⟨a, ns, rfl, _⟩ := h
  rfl
 ·obtain ⟨a, ns, rfl, hS, hlen, k⟩ := h
  have hsz : sizeLine = 16777216 := sizeLine_eq
  have hu0 := hr.units0
  have hr1 : Room 1 _ := hr.mono (by decide)
  have hr2 : Room 2 _ := hr.mono (by decide)
  have hr3 : Room 3 _ := hr.mono (by decide)
  have hr5 : Room 5 _ := hr.mono (by decide)
  have hr7 : Room 7 _ := hr.mono (by decide)
  have hr9 : Room 9 _ := hr.mono (by decide)
  have hr10 : Room 10 _ := hr.mono (by decide)
  have hr11 : Room 11 _ := hr.mono (by decide)
  refine' ⟨?tt, ?body, ?fin⟩
  case body =>
   refine' Z06 ?s1 ?r1
   case s1 => exact Z08 (i := 1) scLaw.nd rfl (Or.inl rfl) (Z07 GF hr1 (by rfl) Y.F.m Y.F.F.kp Y.F.b .nil Z0e (Z0k (pv 0) Z00))
   case r1 =>
    refine' Z06 ?s2 ?r2
    case s2 => exact Z08 (i := 2) scLaw.nd rfl (Or.inl rfl) (Z07 GN hr3 (by rfl) Y.N.m Y.N.F.kp Y.N.b .nil Z0e (Z0k (pv 1) (Z1i Z04 Z00)))
    case r2 =>
     refine' Z06 ?s3 ?r3
     case s3 =>
      refine' Z5c PassesOwn.never rfl (Z2s (by rfl) Y.U.T.range (Z1i Z04 Z00)) (Z0t (i := 3) scLaw.nd rfl (Or.inl rfl)) ?blk
      case blk =>
       refine' Z06 ?b1 ?q1
       case b1 =>
        exact Z5m (i := 4) (vs := Z9g) scLaw.nd rfl (Or.inl rfl) ⟨_, _, _, _, _, rfl, by decide +kernel⟩ (Z07 GD hr1 (by rfl) Y.U.mD Y.U.D.kp Y.U.bD .nil Z0e (Z0k (pv 1) (Z1i Z04 Z00))) (fun _ _ => rfl) (.inr rfl)
       case q1 =>
        refine' Z06 ?b2 ?q2
        case b2 =>
         refine' Z08 (i := 5) scLaw.nd rfl (Or.inl rfl) (Z07 GW hr1 (by rfl) Y.W.m Y.W.F.kp Y.W.b .nil Z0e ?q)
         case q =>
          refine' Z0k (pv 2) (Z1i Z04 (Z0k (pv 4) (Z09 ?x Z00)))
          case x =>
           refine' Z10 Z1e ?l ?i (fun _ _ => rfl)
           case l => exact Z1h (Z1i Z04 (Z1i Z04 (Z1i Z04 Z00)))
           case i => exact Z07 GD hr1 (by rfl) Y.U.mD Y.U.D.kp Y.U.bD .nil Z0e (Z0k (pv 1) (Z1i Z04 Z00))
        case q2 =>
         refine' Z0h ?b3 ?q3
         case b3 =>
          exact Z08 (i := 6) scLaw.nd rfl (Or.inl rfl) (Z07 GX hr11 (by rfl) Y.X.m Y.X.F.kp Y.X.b .nil Z0e (Z0k (pv 1) (Z0k (pv 5) (Z1i Z04 (Z1i Z04 Z00)))))
         case q3 =>
          refine' Z0h ?b4 ?q4
          case b4 =>
           refine' Z0v ?c (Z06 ?e1 (Z06 ?e2 (Z05 ?e3))) Z0f
           case c => exact Z0b Z1f (Z07 GD hr1 (by rfl) Y.U.mD Y.U.D.kp Y.U.bD .nil Z0e (Z0k (pv 1) (Z1i Z04 Z00))) Z04 (Z0l _)
           case e1 => exact Z08 (i := 7) scLaw.nd rfl (Or.inl rfl) (Z1h Z00)
           case e2 => exact Z08 (i := 6) scLaw.nd rfl (Or.inl rfl) (Z07 GDn hr9 (by rfl) Y.Dn.m Y.Dn.F.kp Y.Dn.b .nil Z0e (Z0k (pv 6) (Z0k (pv 7) Z00)))
           case e3 =>
            refine' Z0v ?c2 (Z05 ?e4) Z0f
            case c2 => exact Z0b Z1f (Z07 GD hr1 (by rfl) Y.U.mD Y.U.D.kp Y.U.bD .nil Z0e (Z0k (pv 1) (Z1i Z04 Z00))) Z04 (Z0l _)
            case e4 => exact Z08 (i := 6) scLaw.nd rfl (Or.inl rfl) (Z07 GTu hr10 (by rfl) Y.Tu.m Y.Tu.F.kp Y.Tu.b .nil Z0e (Z0k (pv 6) (Z40 (Z0c Z0j (by rfl) Y.T.len PySem.boot_len (Z0k (pv 7) Z00)) Z00)))
          case q4 =>
           refine' Z0h ?b5 ?q5
           case b5 =>
            refine' Z08 (i := 8) scLaw.nd rfl (Or.inl rfl) (Z0c (id := "sorted") (Z28 rfl) (by rfl) Y.srt (by decide +kernel) (Z09 ?x Z00))
            case x => exact Z1m (Ze7 rfl) (by rfl) Y.set (by decide +kernel) (Z40 (Z07 GNu hr11 (by rfl) Y.Nu.m Y.Nu.F.kp Y.Nu.b .nil Z0e (Z0k (pv 6) (Z1i Z0a Z00))) Z00)
           case q5 =>
            refine' Z0h ?b6 ?q6
            case b6 =>
             refine' Z08 (i := 9) scLaw.nd rfl (Or.inl rfl) (Z2q ?x (Z3e ?y))
             case x => exact Z07 GCl hr11 (by rfl) Y.Cl.m Y.Cl.F.kp Y.Cl.b .nil Z0e (Z0k (pv 6) (Z1i Z04 Z00))
             case y =>
              refine' Z4e (Z6q hu0) (pv 8) ?z (Z0l _)
              case z => exact Z98 rfl (by rfl) Y.lst (by rfl) Y.U.T.range (Z40 (Z0c Z0j (by rfl) Y.T.len PySem.boot_len (Z0k (pv 8) Z00)) Z00)
            case q6 =>
             refine' Z0h ?b7 ?q7
             case b7 =>
              refine' Z0v ?c (Z05 (Z0d Z29)) Z0f
              case c => exact Z1x (Z1k (Z07 GTo hr7 (by rfl) Y.To.m Y.To.F.kp Y.To.b .nil Z0e (Z0k (pv 6) (Z0k (pv 9) Z00))))
             case q7 =>
              refine' Z0h ?b8 ?q8
              case b8 =>
               refine' Z0v (Z1k (pv 9)) (Z06 ?e1 (Z05 ?e2)) Z0f
               case e1 => exact Z08 (i := 10) scLaw.nd rfl (Or.inl rfl) (Z07 GHc hr5 (by rfl) Y.Hc.m Y.Hc.F.kp Y.Hc.b .nil Z0e (Z0k (pv 6) Z00))
               case e2 =>
                refine' Z0v (Z4d ?c1 (Z4d ?c2 (Z3t ?c3))).pt (Z05 (Z0d Z29)) Z0f
                case c1 => exact Z1x (Z1k (Z0c (id := "isinstance") Z12 (by rfl) Y.T.isi (by decide +kernel) (Z0k (pv 10) (Z0k (Z1j (v := .ty "int") (by rfl) Y.T.int (by decide +kernel) rfl) Z00))))
                case c2 => exact Z1k (Z0c (id := "isinstance") Z12 (by rfl) Y.T.isi (by decide +kernel) (Z0k (pv 10) (Z0k (Z1j (v := .ty "bool") (by rfl) Y.T.bl (by decide +kernel) rfl) Z00)))
                case c3 => exact Z0b Zla (pv 10) (Z0c Z0j (by rfl) Y.T.len PySem.boot_len (Z0k (pv 8) Z00)) (Z0l _)
              case q8 =>
               refine' Z0h ?b9 ?q9
               case b9 =>
                refine' Z08 (i := 11) scLaw.nd rfl (Or.inl rfl) (Z07 GBe hr (by rfl) Y.Be.m Y.Be.F.kp Y.Be.b .nil Z0e (Z0k (pv 6) (Z40 ?x (Z40 ?y Z00))))
                case x => exact Z07 GD hr1 (by rfl) Y.U.mD Y.U.D.kp Y.U.bD .nil Z0e (Z0k (pv 1) (Z40 (Z07 GNo hr11 (by rfl) Y.No.m Y.No.F.kp Y.No.b .nil Z0e (Z0k (pv 6) Z00)) Z00))
                case y => exact Z07 GBa hr2 (by rfl) Y.Ba.m Y.Ba.F.kp Y.Ba.b .nil Z0e (Z0k (pv 1) Z00)
               case q9 =>
                refine' Z0h ?b10 ?q10
                case b10 =>
                 refine' Z0v (Z4d ?c1 (Z3t ?c2)).pt (Z05 (Z0d Z29)) Z0f
                 case c1 => exact Z1x (Z1k (Z07 GTo hr7 (by rfl) Y.To.m Y.To.F.kp Y.To.b .nil Z0e (Z0k (pv 11) (Z1i Z29 Z00))))
                 case c2 => exact Z1x (Z1k (Z07 GTo hr7 (by rfl) Y.To.m Y.To.F.kp Y.To.b .nil Z0e (Z40 (Z1m Z2t (by rfl) Y.lst (by decide +kernel) (Z0k (pv 6) Z00)) (Z1i Z29 Z00))))
                case q10 =>
                 refine' Z05 ?b11
                 case b11 =>
                  refine' Z0v (Z4d ?c1 (Z3t ?c2)).pt (Z05 (Z0d Z29)) Z0f
                  case c1 =>
                   refine' Z1x (Z1k (Z07 GTo hr7 (by rfl) Y.To.m Y.To.F.kp Y.To.b .nil Z0e ?x))
                   case x =>
                    refine' Zg1 ?y (Z1i Z29 Z00)
                    case y =>
                     refine' Z1g ?z
                     case z =>
                      refine' Z1i Z0a ?z2
                      case z2 =>
                       refine' Z0k (pv 6) ?z3
                       case z3 => exact Z40 (Z1m Z2t (by rfl) Y.lst (by decide +kernel) (Z0k (pv 6) Z00)) Z00
                  case c2 =>
                   refine' Z1x (Z1k (Z07 GTo hr7 (by rfl) Y.To.m Y.To.F.kp Y.To.b .nil Z0e ?x))
                   case x =>
                    refine' Zg1 ?y (Z1i Z29 Z00)
                    case y => exact Z1g (Z1i Z0a (Z0k (pv 6) (Z1i Zd1 Z00)))
     case r3 =>
      refine' Z06 ?s4 ?r4
      case s4 =>
       refine' Z5c ?hp ?hc ?it ?hg ?hb ?hs
       case hp => exact PassesOwn.never
       case hc => rfl
       case hg => exact Z0t (i := 12) scLaw.nd rfl (Or.inl rfl)
       case hs => exact fun x => rfl
       case it =>
        refine' Z2k ?e
        case e =>
         refine' Z55 (G := []) Z54 9 _ (.lst Zih) ?k
         case k => kernel_rfl
       case hb =>
        refine' Z05 ?b1
        case b1 =>
         refine' Z0v ?c (Z05 (Z0d Z29)) Z0f
         case c => exact Z1x (Z1k (Z07 GTo hr7 (by rfl) Y.To.m Y.To.F.kp Y.To.b .nil Z0e (Z0k (pv 12) (Z1i Z29 Z00))))
      case r4 =>
       refine' Z05 (Z0d ?r)
       case r =>
        refine' Z2q ?x ?yz
        case x =>
         refine' Z07 GTo hr7 (by rfl) Y.To.m Y.To.F.kp Y.To.b .nil Z0e ?q
         case q =>
          refine' Zg1 ?e (Z1i Z29 Z00)
          case e =>
           refine' Z55 (G := []) Z54 9 _ (hol 0) ?k
           case k => kernel_rfl
        case yz =>
         refine' Z2q ?y ?z
         case y =>
          refine' Z07 GTo hr7 (by rfl) Y.To.m Y.To.F.kp Y.To.b .nil Z0e ?q
          case q =>
           refine' Zg1 ?e (Z1i Z29 Z00)
           case e =>
            refine' Z55 (G := []) Z54 9 _ (hol 1) ?k
            case k => kernel_rfl
         case z =>
          refine' Z3e (Z07 GTo hr7 (by rfl) Y.To.m Y.To.F.kp Y.To.b .nil Z0e ?q)
          case q =>
           refine' Zg1 ?e (Z1i Z29 Z00)
           case e =>
            refine' Z55 (G := []) Z54 9 _ (hol (10 ^ 50)) ?k
            case k => kernel_rfl
  case fin =>
   refine ⟨_, rfl, a, ns, rfl, hS, hlen, fun d l H1 F1 hd1 s1 => ?_⟩
   refine ⟨_, rfl, d, l, ns, 0, 4, rfl, F1, Nat.zero_le _, by decide, by decide, fun nm T n1 H2 hnm L2 hT hTn hn1 F2 b2 => ?_⟩
   have N2 : Nms H2 nm T := ⟨L2, by omega, by omega, hTn⟩
   have hn1 : n1 <= 32 := hn1
   refine ⟨6, rfl, by decide, by decide, Z3v (lo := 0) (n := 6) (fun i σ H' => ∃ (n' : Nat) (o3 o4 o5 o6 o7 o8 o9 o10 o11 : Option V), σ = [some (.ref a), some (.ref d), some (.ref nm), o3, o4, o5, o6, o7, o8, o9, o10, o11, none] /\ n' <= 32 + i * 2000000 /\ Feed H' d l ns n' /\ Nms H' nm T)
    ⟨n1, none, none, none, none, none, none, none, none, none, rfl, Nat.le_trans hn1 (Nat.le_add_right _ _), F2, N2⟩ ?_ ?_⟩
   ·rintro i σ H3 hi ⟨n3, o3, o4, o5, o6, o7, o8, o9, o10, o11, rfl, hn3, F3, N3⟩
    have hb3 : n3 <= 20000000 := by omega
    refine ⟨(by show 6 <= sizeLine; decide), fun q hq => ?_⟩
    have sQ := Z02 (o := .lst Z9g) hq
    have F4 := F3.same sQ
    refine ⟨_, rfl, d, l, ns, n3, _, rfl, F4, by omega, by decide, by decide, fun i4 n4 H4 i40 i41 hn4 F5 b4 => ?_⟩
    obtain ⟨x, hx, hat⟩ := Z3p (xs := Z9g) (i := i4) i40 i41
    have hz : ∃ z : Int, x = .int z /\ 0 <= z /\ z <= 12 := by
     unfold Z9g at hx
     simp only [List.mem_cons, List.not_mem_nil, or_false] at hx
     rcases hx with rfl | rfl | rfl | rfl | rfl | rfl <;> exact ⟨_, rfl, by decide, by decide⟩
    obtain ⟨z, rfl, z0, z1⟩ := hz
    have N4 := (N3.kp (Kp.of sQ)).kp (b4.kp F4)
    refine ⟨q, Z9g, i4, .int z, rfl, rfl, SqL.of (F4.lst b4 Z01), hat, ?_⟩
    clear F4 b4 hat hx hq sQ
    refine ⟨_, rfl, _, rfl, (by show 3 <= sizeLine; decide), fun q5 hq5 => ?_⟩
    have s5 := Z02 (o := .lst [.int 0, .int 0, .int 2]) hq5
    have F6 := F5.same s5
    refine ⟨_, rfl, d, l, ns, n4, _, rfl, F6, by omega, by decide, by decide, fun i6 n6 H6 i60 i61 hn6 F7 b6 => ?_⟩
    obtain ⟨x, hx, hat⟩ := Z3p (xs := [V.int 0, .int 0, .int 2]) (i := i6) i60 i61
    have hz : ∃ y : Int, x = .int y /\ 0 <= y /\ y <= 2 := by
     simp only [List.mem_cons, List.not_mem_nil, or_false] at hx
     rcases hx with rfl | rfl | rfl <;> exact ⟨_, rfl, by decide, by decide⟩
    obtain ⟨y, rfl, y0, y1⟩ := hz
    have N6 := (N4.kp (Kp.of s5)).kp (b6.kp F6)
    refine ⟨q5, _, i6, .int y, rfl, rfl, SqL.of (F6.lst b6 Z01), hat, nm, 25, z, y, rfl, fun wd bg H8 s8 hwd hbg W8 B8 => ?_⟩
    have N8 := N6.kp (Kp.of s8)
    have F8 := F7.same s8
    clear F5 F6 F7 b6 hat hx hq5 s5 s8 N3 N4 N6 F3
    refine ⟨fun σ' H' => ∃ (v : V) (t : Th) (n' : Nat), σ' = [some (.ref a), some (.ref d), some (.ref nm), some (.int (0 + i)), some (.int z), some (.ref wd), some v, o7, o8, o9, o10, o11, none] /\ Nms H' nm T /\ IsTh H' v t /\ PfT 7 t /\ cnt t <= 66 /\ (∀ i ∈ hs t, i < 12) /\ n' <= n3 + 1700000 /\ Feed H' d l ns n', ?_, ?_⟩
    ·have cd : cD 7 = 1679610 := by decide +kernel
     refine ⟨_, rfl, _, rfl, d, l, wd, nm, bg, ns, n6, 25, z, y, 0, 7, T, [], rfl, ⟨F8, W8, N8, ⟨⟨[], B8, .nil⟩, by decide, fun t ht => (by cases ht)⟩, But2.refl _ _ _⟩, by omega, by omega, by decide, y0, by omega, by decide, by decide, by decide, fun v t n9 r9 H9 hv pf cn hh hn9 C9 => ?_⟩
     obtain ⟨c1, c2, c3⟩ := cn
     have c4 := c3 (by decide)
     exact ⟨v, t, n9, rfl, C9.N, hv, pf, by omega, fun i hi => (by have := hh rfl i hi; omega), by omega, C9.F⟩
    clear F8 N8 W8 B8
    rintro σ9 H9 ⟨v9, t9, n9, rfl, N9, I9, pf9, c9, hh9, hn9, F9⟩
    refine ⟨fun σ' H' => ∃ (v : V) (t : Th) (n' : Nat) (o7 : Option V), σ' = [some (.ref a), some (.ref d), some (.ref nm), some (.int (0 + i)), some (.int z), some (.ref wd), some v, o7, o8, o9, o10, o11, none] /\ FF H' nm T v t /\ n' <= n3 + 1700002 /\ Feed H' d l ns n', ?_, ?_⟩
    ·refine ⟨_, rfl, d, l, ns, n9, _, rfl, F9, by omega, by decide, by decide, fun i10 n10 H10 i100 i101 hn10 F10 b10 => ?_⟩
     have k10 := b10.kp F9
     have N10 := N9.kp k10
     have I10 := IsTh.kp k10 I9
     refine ⟨rfl, _, rfl, Z16 (fun g => ?_) (fun g => ⟨v9, t9, n10, _, rfl, ⟨N10, I10, pf9.le (by decide), c9, hh9⟩, by omega, F10⟩)⟩
     refine ⟨Nat.zero_le _, fun sa hsa => ?_⟩
     have sS := Z02 (o := .lst []) hsa
     have hsn : sa ≠ nm := (Z0i N10.a hsa).symm
     have hsl : sa ≠ l := (Z0i F10.ls hsa).symm
     refine ⟨_, rfl, _, rfl, v9, sa, t9, [], rfl, IsTh.kp (Kp.of sS) I10, pf9, Z01, List.nodup_nil, fun i hi => (by cases hi), fun i hi => Nat.lt_trans (hh9 i hi) (by decide), fun v' R H11 b11 L11 nd11 h1 h2 is11 => ?_⟩
     rw [List.nil_append] at L11 nd11 h1 is11
     have hR : R.length <= 12 := few nd11 fun i hi => hh9 i (h2 i hi)
     have hl : (iv R).length = R.length := List.length_map ..
     have N11 := N10.kp (Kp.of sS)
     have F11 := (F10.same sS).butl Z01 hsl b11
     have N12 : Nms H11 nm T := ⟨b11 _ _ N11.a hsn.symm, N11.l1, N11.l2, N11.nm⟩
     have pf11 : PfT 8 (fl (ix R) t9) := Zjy 7 pf9 fun i _ => Zk1 R i
     have c11 : cnt (fl (ix R) t9) <= 66 := by
      rw [Zi7 (fun i => (Zk1 R i).isTup) 7 pf9 fun i _ => ?_]
      ·exact c9
      ·exact Za4 _
     have hh11 := Z9z pf9 nd11 h1 h2
     refine ⟨_, rfl, d, l, ns, n10, _, rfl, F11, by omega, by decide, by decide, fun i12 n12 H12 i120 i121 hn12 F12 b12 => ?_⟩
     have k12 := b12.kp F11
     have N13 := N12.kp k12
     have I13 := IsTh.kp k12 is11
     refine ⟨rfl, _, rfl, Z16 (fun g => ?_) (fun g => ⟨v', _, n12, _, rfl, ⟨N13, I13, pf11.le (by decide), c11, fun i hi => Nat.lt_of_lt_of_le ((hh11 i).mp hi) hR⟩, by omega, F12⟩)⟩
     have L12 := k12 _ _ L11 (by intro kvs w; cases w)
     refine ⟨_, rfl, _, rfl, sa, iv R, rfl, .inl (SqL.of L12), v', (iv R).length, _, rfl, I13, pf11, fun i hi => (by rw [hl]; exact (hh11 i).mp hi), fun v2 H14 s14 is14 => ?_⟩
     rw [hl] at is14
     refine ⟨v2, _, n12, _, rfl, ⟨N13.kp (Kp.of s14), is14, Zjy 8 pf11 fun i _ => Z66 _, ?_, fun j hj => Nat.lt_of_lt_of_le ((Z96 pf11 hh11 j).mp hj) hR⟩, by omega, F12.same s14⟩
     rw [Zi7 (fun i => (Z66 _).isTup) 8 pf11 fun i _ => ?_]
     ·exact c11
     ·exact Za4 _
    clear N9 I9 pf9 c9 hh9 F9
    rintro σ14 H14 ⟨v, t, n14, o7, rfl, P14, hn14, F14⟩
    have hc := P14.c
    have hpf := P14.pf
    have hask := P14.ask
    have hfew := P14.few
    have htr := Zfg 9 hpf
    have hsz9 : Th.sz t <= 198 := by have := Zf1 _ hpf; omega
    refine ⟨fun σ' H' => ∃ (na : Addr) (ms : List Int), σ' = [some (.ref a), some (.ref d), some (.ref nm), some (.int (0 + i)), some (.int z), some (.ref wd), some v, o7, some (.ref na), o9, o10, o11, none] /\ H' na = some (.lst (ms.map V.int)) /\ HN t ms /\ FF H' nm T v t /\ Feed H' d l ns n14, ?_, ?_⟩
    ·refine ⟨_, rfl, v, t, rfl, P14.is, hpf, by omega, fun p1 ls H15 s15 hp1 hm hls => ?_⟩
     refine ⟨p1, iz ls, rfl, SqL.of hp1, by rw [List.length_map]; omega, fun p2 hp2 => ?_⟩
     have s16 := Z02 (o := Z81 P w p2 (ofL (iz ls))) hp2
     refine ⟨p2, _, rfl, Z01, Zmw hm hfew, fun ms p3 pm srt hp3 => ?_⟩
     have s17 := Z02 (o := .lst (ms.map V.int)) hp3
     have sA := (s15.trans s16).trans s17
     exact ⟨p3, ms, rfl, Z01, Zoe hm pm srt, P14.kp (Kp.of sA), F14.same sA⟩
    clear P14 F14
    rintro σ15 H15 ⟨na, ms, rfl, L15, hn, P15, F15⟩
    have hml := hn.few hfew
    refine ⟨fun σ' H' => ∃ (du : Bool), σ' = [some (.ref a), some (.ref d), some (.ref nm), some (.int (0 + i)), some (.int z), some (.ref wd), some v, o7, some (.ref na), some (.bl du), o10, o11, none] /\ Due t ms du /\ Same H15 H', ?_, ?_⟩
    ·refine ⟨_, rfl, v, t, 0, rfl, P15.is, hpf, by decide, fun H16 s16 => ⟨_, rfl, ?_⟩⟩
     rw [Zkr hpf]
     refine Z16 (fun g => ?_) (fun g => ?_)
     ·refine ⟨_, rfl, _, rfl, na, ms.map V.int, rfl, .inl (SqL.of (s16 _ _ L15)), ms.length, (by rw [List.length_map]), by omega, fun q hq => ?_⟩
      have s17 := Z02 (o := .lst ((List.range ms.length).map fun (i : Nat) => V.int (i : Nat))) hq
      have er : ((List.range ms.length).map fun (i : Nat) => V.int (i : Nat)) = (iz (List.range ms.length)).map V.int := by rw [List.map_map]; rfl
      refine ⟨na, q, ms.map V.int, _, rfl, rfl, SqL.of (s17 _ _ (s16 _ _ L15)), SqL.of Z01, Z36 ms, by rw [er]; exact Z36 _, ?_⟩
      rw [er] at s17 ⊢
      rw [Z9b]
      exact ⟨_, rfl, ⟨hn, by rw [g, Bool.true_and]⟩, s16.trans s17⟩
     ·exact ⟨false, rfl, ⟨hn, by rw [show (asT t).isEmpty = false by simpa using g, Bool.false_and]⟩, s16⟩
    rintro σ16 H16 ⟨du, rfl, hdu, s16⟩
    have P16 := P15.kp (Kp.of s16)
    have F16 := F15.same s16
    have L16 := s16 _ _ L15
    clear P15 F15 L15 s16
    refine ⟨fun σ' H' => σ' = [some (.ref a), some (.ref d), some (.ref nm), some (.int (0 + i)), some (.int z), some (.ref wd), some v, o7, some (.ref na), some (.bl du), o10, o11, none] /\ Same H16 H', ?_, ?_⟩
    ·refine ⟨_, rfl, _, rfl, v, t, du, rfl, P16.is, hask, fun b H17 s17 pt => ⟨_, rfl, ?_⟩⟩
     rw [Zfj htr pt hdu, decide_eq_true rfl]
     exact Z3z ⟨rfl, s17⟩
    rintro σ17 H17 ⟨rfl, s17⟩
    have P17 := P16.kp (Kp.of s17)
    have F17 := F16.same s17
    have L17 := s17 _ _ L16
    clear P16 F16 L16 s17
    refine ⟨fun σ' H' => ∃ (o10 : Option V), σ' = [some (.ref a), some (.ref d), some (.ref nm), some (.int (0 + i)), some (.int z), some (.ref wd), some v, o7, some (.ref na), some (.bl du), o10, o11, none] /\ Same H17 H', ?_, ?_⟩
    ·refine ⟨_, rfl, _, rfl, Z16 (fun g => ?_) (fun g => ⟨_, rfl, Same.refl _⟩)⟩
     refine ⟨_, rfl, v, t, rfl, P17.is, hpf, by omega, hfew, fun ks H18 s18 hk => ?_⟩
     have hth : IsTh H18 (.int (ks.length : Nat)) (.at (.int (ks.length : Nat))) := .at rfl
     refine ⟨_, rfl, _, _, _, _, rfl, Z3q hth, Y.KI.int hth, _, rfl, Z3z ?_⟩
     refine ⟨_, rfl, _, _, _, _, rfl, Z3q hth, Y.KI.bl hth, _, rfl, Z3z ?_⟩
     refine ⟨_, rfl, _, rfl, na, _, rfl, .inl (SqL.of (s18 _ _ L17)), rfl, _, rfl, ?_⟩
     rw [List.length_map, hk.one hn, decide_eq_true rfl]
     exact Z3z ⟨_, rfl, s18⟩
    rintro σ18 H18 ⟨o10, rfl, s18⟩
    have P18 := P17.kp (Kp.of s18)
    have F18 := F17.same s18
    clear P17 F17 L17 s18
    refine ⟨fun σ' H' => ∃ (vb : V) (tb : Th) (n' : Nat), σ' = [some (.ref a), some (.ref d), some (.ref nm), some (.int (0 + i)), some (.int z), some (.ref wd), some v, o7, some (.ref na), some (.bl du), o10, some vb, none] /\ FF H' nm T v t /\ IsTh H' vb tb /\ Bd tb /\ Th.sz tb <= 10000 /\ n' <= n3 + 1700010 /\ Feed H' d l ns n', ?_, ?_⟩
    ·refine ⟨_, rfl, _, rfl, _, rfl, v, t, rfl, P18.is, hpf, fun H19 s19 => ?_⟩
     have F19 := F18.same s19
     have ct := Zeq hpf
     refine ⟨d, l, ns, n14, _, rfl, F19, by omega, by omega, by omega, fun j n20 H20 j0 j1 hn20 F20 b20 => ?_⟩
     have P20 := (P18.kp (Kp.of s19)).kp (b20.kp F19)
     refine ⟨_, rfl, d, l, ns, n20, rfl, F20, by omega, fun vl tl n21 H21 hvl hbl hzl hn21 F21 b21 => ?_⟩
     have P21 := P20.kp (b21.kp F20)
     refine ⟨v, vl, j, t, tl, rfl, P21.is, hpf, hvl, hbl, j0, j1, fun vb tb H22 s22 hvb hbb hzb => ?_⟩
     refine ⟨vb, tb, n21, rfl, P21.kp (Kp.of s22), hvb, hbb, ?_, by omega, F21.same s22⟩
     unfold bdS at hzb
     have := Nat.mul_le_mul hc hzl
     omega
    clear P18 F18
    rintro σ19 H19 ⟨vb, tb, n19, rfl, P19, I19, hbb, hzb, hn19, F19⟩
    refine ⟨fun σ' H' => σ' = [some (.ref a), some (.ref d), some (.ref nm), some (.int (0 + i)), some (.int z), some (.ref wd), some v, o7, some (.ref na), some (.bl du), o10, some vb, none] /\ Same H19 H', ?_, ?_⟩
    ·refine ⟨_, rfl, vb, tb, false, rfl, I19, Z9e hbb.1 (by omega), fun b H20 s20 pt => ⟨_, rfl, ?_⟩⟩
     rw [Z9f hbb.1 pt, decide_eq_true rfl]
     obtain ⟨ts, rfl⟩ : ∃ ts, t = .tup ts := by
      cases t with
      | tup ts => exact ⟨ts, rfl⟩
      | «at» v => exact absurd (PfT.isTup hpf) (by intro q; cases q)
      | lst v => exact absurd (PfT.isTup hpf) (by intro q; cases q)
     obtain ⟨pa, ws, rfl, hpa, hws⟩ := Z19 (P19.kp (Kp.of s20)).is
     refine Z3z ⟨_, rfl, pa, ws, rfl, .inr (SqT.of hpa), fun q hq => ?_⟩
     have s21 := Z02 (o := .lst ws) hq
     rw [Th.sz] at hsz9
     refine ⟨.ref q, .lst ts, false, rfl, .lst Z01 (IsThs.kp (Kp.of s21) hws), Z9e Zbu (by rw [Th.sz]; omega), fun b H22 s22 pt => ⟨_, rfl, ?_⟩⟩
     rw [Z9f Zbu pt, decide_eq_true rfl]
     exact Z3z ⟨rfl, (s20.trans s21).trans s22⟩
    rintro σ20 H20 ⟨rfl, s20⟩
    have P20 := P19.kp (Kp.of s20)
    have F20 := F19.same s20
    clear P19 F19 I19 s20
    obtain ⟨ts, ht⟩ : ∃ ts, t = .tup ts := by
     cases t with
     | tup ts => exact ⟨ts, rfl⟩
     | «at» v => exact absurd (PfT.isTup hpf) (by intro q; cases q)
     | lst v => exact absurd (PfT.isTup hpf) (by intro q; cases q)
    have I20 := P20.is
    rw [ht] at I20 hsz9
    obtain ⟨pa, ws, rfl, hpa, hws⟩ := Z19 I20
    rw [Th.sz] at hsz9
    refine ⟨_, rfl, _, rfl, pa, ws, rfl, .inr (SqT.of hpa), fun q hq => ?_⟩
    have s21 := Z02 (o := .lst ws) hq
    refine ⟨(by show 3 <= sizeLine; decide), fun p1 hp1 => ?_⟩
    have s22 := Z02 (o := .tup [.str "do", .ref pa, .ref q]) hp1
    have s2A := s21.trans s22
    have hdo : treeT (.tup [.at (.str "do"), .tup ts, .lst ts]) = false := Zks rfl
    refine ⟨.ref p1, _, false, rfl, .tup Z01 (.cons (.at (by decide +kernel)) (.cons (IsTh.kp (Kp.of s2A) I20) (.cons (.lst (s22 _ _ Z01) (IsThs.kp (Kp.of s2A) hws)) .nil))), Z9e hdo (by simp only [Th.sz, szs]; omega), fun b H23 s23 pt => ⟨_, rfl, ?_⟩⟩
    rw [Z9f hdo pt, decide_eq_true rfl]
    have s2B := s2A.trans s23
    refine Z3z ⟨_, rfl, (by show 3 <= sizeLine; decide), fun p2 hp2 => ?_⟩
    have s24 := Z02 (o := .tup [.str "say", .ref pa, .non]) hp2
    have s2C := s2B.trans s24
    have hsay : treeT (.tup [.at (.str "say"), .tup ts, .at .non]) = false := Zhh
    refine ⟨.ref p2, _, false, rfl, .tup Z01 (.cons (.at (by decide +kernel)) (.cons (IsTh.kp (Kp.of s2C) I20) (.cons (.at rfl) .nil))), Z9e hsay (by simp only [Th.sz, szs]; omega), fun b H25 s25 pt => ⟨_, rfl, ?_⟩⟩
    rw [Z9f hsay pt, decide_eq_true rfl]
    have s2D := s2C.trans s25
    exact Z3z ⟨n19, _, _, _, _, _, _, _, _, _, rfl, by omega, F20.same s2D, P20.N.kp (Kp.of s2D)⟩
   ·rintro σ H3 ⟨n3, o3, o4, o5, o6, o7, o8, o9, o10, o11, rfl, hn3, F3, N3⟩
    refine ⟨ev0, fun vl H4 s4 hvl => ?_⟩
    obtain ⟨pa, ws, rfl, hpa, hws⟩ := Zap hvl
    refine ⟨pa, rfl, ⟨_, SqL.of hpa⟩, Z72 (K := K) (a := pa) (xs := ws) (fun i σ H' => ∃ o12 : Option V, σ = [some (.ref a), some (.ref d), some (.ref nm), o3, o4, o5, o6, o7, o8, o9, o10, o11, o12] /\ Same H4 H')
     ⟨none, rfl, Same.refl _⟩ (fun i σ H' _ ⟨_, _, e⟩ => SqL.of (e _ _ hpa)) ?_ ?_⟩
    ·rintro i x σ H5 hx ⟨o12, rfl, s5⟩
     obtain ⟨t, ht, hxt⟩ := Z17 _ hws hx
     obtain ⟨q1, q2⟩ := Zcw t (List.mem_of_getElem? ht)
     refine ⟨_, rfl, x, t, false, rfl, IsTh.kp (Kp.of s5) hxt, Z9e q1 (by omega), fun b H6 s6 pt => ⟨_, rfl, ?_⟩⟩
     rw [Z9f q1 pt, decide_eq_true rfl]
     exact Z3z ⟨_, rfl, s5.trans s6⟩
    ·rintro σ H5 ⟨o12, rfl, s5⟩
     refine ⟨ev0, fun v1 H6 s6 h1 => ⟨v1, hol 0, true, rfl, h1, Za5 0, fun b H7 s7 pt => ⟨_, rfl, ?_⟩⟩⟩
     rw [Za6 pt]
     refine Z4y ⟨ev0, fun v2 H8 s8 h2 => ⟨v2, hol 1, false, rfl, h2, Za5 1, fun b H9 s9 pt => ⟨_, rfl, ?_⟩⟩⟩
     rw [Za6 pt]
     refine Z4y ⟨ev0, fun v3 H10 s10 h3 => ⟨v3, hol (10 ^ 50), false, rfl, h3, Za5 _, fun b H11 s11 pt => ?_⟩⟩
     rw [(Za6 pt).trans (decide_eq_false (by decide)), decide_eq_true rfl]
     exact k H11
end
theorem Zku {P : List Value -> Prop} (h : P []) : ∀ us : List Value, us.length = 0 -> P us := fun us e => by
 cases us with
 | nil => exact h
 | cons a r => cases e
theorem Z0y {P : List Value -> Prop} (h : ∀ a, P [a]) : ∀ us : List Value, us.length = 1 -> P us := fun us e => by
 cases us with
 | nil => cases e
 | cons a r => exact Zku (P := fun r => P (a :: r)) (h a) r (Nat.succ.inj e)
theorem Z1q {P : List Value -> Prop} (h : ∀ a b, P [a, b]) : ∀ us : List Value, us.length = 2 -> P us := fun us e => by
 cases us with
 | nil => cases e
 | cons a r => exact Z0y (P := fun r => P (a :: r)) (h a) r (Nat.succ.inj e)
theorem Za7 {P : List Value -> Prop} (h : ∀ a b c, P [a, b, c]) : ∀ us : List Value, us.length = 3 -> P us := fun us e => by
 cases us with
 | nil => cases e
 | cons a r => exact Z1q (P := fun r => P (a :: r)) (h a) r (Nat.succ.inj e)
theorem Zfk {P : List Value -> Prop} (h : ∀ a b c d, P [a, b, c, d]) : ∀ us : List Value, us.length = 4 -> P us := fun us e => by
 cases us with
 | nil => cases e
 | cons a r => exact Za7 (P := fun r => P (a :: r)) (h a) r (Nat.succ.inj e)
def Zii : Wd -> Str
 | .num => "num" | .name => "name" | .op => "op" | .pick => "pick" | .lett => "let" | .sett => "set" | .say => "say" | .take => "take" | .dow => "do" | .again => "again" | .call => "call" | .own => "own" | .hole => "hole"
theorem Zfl {x : Str} {k : Wd} (h : kindOf x = some k) : x = Zii k := by
 unfold kindOf at h
 by_cases h0 : x = "num"
 ·rw [if_pos h0] at h; cases h; exact h0
 rw [if_neg h0] at h
 by_cases h1 : x = "name"
 ·rw [if_pos h1] at h; cases h; exact h1
 rw [if_neg h1] at h
 by_cases h2 : x = "op"
 ·rw [if_pos h2] at h; cases h; exact h2
 rw [if_neg h2] at h
 by_cases h3 : x = "pick"
 ·rw [if_pos h3] at h; cases h; exact h3
 rw [if_neg h3] at h
 by_cases h4 : x = "let"
 ·rw [if_pos h4] at h; cases h; exact h4
 rw [if_neg h4] at h
 by_cases h5 : x = "set"
 ·rw [if_pos h5] at h; cases h; exact h5
 rw [if_neg h5] at h
 by_cases h6 : x = "say"
 ·rw [if_pos h6] at h; cases h; exact h6
 rw [if_neg h6] at h
 by_cases h7 : x = "take"
 ·rw [if_pos h7] at h; cases h; exact h7
 rw [if_neg h7] at h
 by_cases h8 : x = "do"
 ·rw [if_pos h8] at h; cases h; exact h8
 rw [if_neg h8] at h
 by_cases h9 : x = "again"
 ·rw [if_pos h9] at h; cases h; exact h9
 rw [if_neg h9] at h
 by_cases h10 : x = "call"
 ·rw [if_pos h10] at h; cases h; exact h10
 rw [if_neg h10] at h
 by_cases h11 : x = "own"
 ·rw [if_pos h11] at h; cases h; exact h11
 rw [if_neg h11] at h
 by_cases h12 : x = "hole"
 ·rw [if_pos h12] at h; cases h; exact h12
 rw [if_neg h12] at h
 cases h
theorem Zkv {x : Str} (h : kindOf x = none) : ∀ k : Wd, x ≠ Zii k := by
 intro k z
 subst z
 cases k <;> exact absurd h (by decide +kernel)
theorem Zmz : ∀ (kvs : List (Str × V)) {x : Str}, (∀ p ∈ kvs, p.1 ≠ x) -> Z6a (Zdv kvs) (Sum.inr x) = none := by
 intro kvs
 induction kvs with
 | nil => intro x _; rfl
 | cons p kvs ih =>
  intro x h
  show Z6a ((Sum.inr p.1, p.2) :: Zdv kvs) (Sum.inr x) = none
  rw [Z57 (by intro z; injection z with z; exact h p (List.mem_cons_self ..) z)]
  exact ih (fun q hq => h q (List.mem_cons_of_mem _ hq))
theorem Zkw {K : PySem.W.Frag} (kt_NoneType_int : PySem.W.kitOne K (.type "NoneType") (.type "int") = some false) (kt_bool_int : PySem.W.kitOne K (.type "bool") (.type "int") = some true) (kt_int_int : PySem.W.kitOne K (.type "int") (.type "int") = some true) (kt_str_int : PySem.W.kitOne K (.type "str") (.type "int") = some false) (kt_tuple_int : PySem.W.kitOne K (.type "tuple") (.type "int") = some false) (kt_list_int : PySem.W.kitOne K (.type "list") (.type "int") = some false) (kt_NoneType_bool : PySem.W.kitOne K (.type "NoneType") (.type "bool") = some false) (kt_bool_bool : PySem.W.kitOne K (.type "bool") (.type "bool") = some true) (kt_int_bool : PySem.W.kitOne K (.type "int") (.type "bool") = some false) (kt_str_bool : PySem.W.kitOne K (.type "str") (.type "bool") = some false) (kt_tuple_bool : PySem.W.kitOne K (.type "tuple") (.type "bool") = some false) (kt_list_bool : PySem.W.kitOne K (.type "list") (.type "bool") = some false) (kt_NoneType_str : PySem.W.kitOne K (.type "NoneType") (.type "str") = some false) (kt_bool_str : PySem.W.kitOne K (.type "bool") (.type "str") = some false) (kt_int_str : PySem.W.kitOne K (.type "int") (.type "str") = some false) (kt_str_str : PySem.W.kitOne K (.type "str") (.type "str") = some true) (kt_tuple_str : PySem.W.kitOne K (.type "tuple") (.type "str") = some false) (kt_list_str : PySem.W.kitOne K (.type "list") (.type "str") = some false) (kt_NoneType_tuple : PySem.W.kitOne K (.type "NoneType") (.type "tuple") = some false) (kt_bool_tuple : PySem.W.kitOne K (.type "bool") (.type "tuple") = some false) (kt_int_tuple : PySem.W.kitOne K (.type "int") (.type "tuple") = some false) (kt_str_tuple : PySem.W.kitOne K (.type "str") (.type "tuple") = some false) (kt_tuple_tuple : PySem.W.kitOne K (.type "tuple") (.type "tuple") = some true) (kt_list_tuple : PySem.W.kitOne K (.type "list") (.type "tuple") = some false) : Kits K := by
 refine ⟨⟨?i, ?b, ?t⟩, ?s⟩
 case i =>
  intro H v t h
  cases h with
  | «at» f =>
   cases v with
   | non => exact kt_NoneType_int
   | bl b => exact kt_bool_int
   | int i => exact kt_int_int
   | str x => exact kt_str_int
   | _ => exact absurd (show false = true from f) Bool.false_ne_true
  | tup e r => exact kt_tuple_int
  | lst e r => exact kt_list_int
 case b =>
  intro H v t h
  cases h with
  | «at» f =>
   cases v with
   | non => exact kt_NoneType_bool
   | bl b => exact kt_bool_bool
   | int i => exact kt_int_bool
   | str x => exact kt_str_bool
   | _ => exact absurd (show false = true from f) Bool.false_ne_true
  | tup e r => exact kt_tuple_bool
  | lst e r => exact kt_list_bool
 case s =>
  intro H v t h
  cases h with
  | «at» f =>
   cases v with
   | non => exact kt_NoneType_str
   | bl b => exact kt_bool_str
   | int i => exact kt_int_str
   | str x => exact kt_str_str
   | _ => exact absurd (show false = true from f) Bool.false_ne_true
  | tup e r => exact kt_tuple_str
  | lst e r => exact kt_list_str
 case t =>
  intro H v t h
  cases h with
  | «at» f =>
   cases v with
   | non => exact kt_NoneType_tuple
   | bl b => exact kt_bool_tuple
   | int i => exact kt_int_tuple
   | str x => exact kt_str_tuple
   | _ => exact absurd (show false = true from f) Bool.false_ne_true
  | tup e r => exact kt_tuple_tuple
  | lst e r => exact kt_list_tuple
def Z1b (fV fN fS fT : Addr) (g : Addr) : Th -> Bool :=
 if g = fV then fun t => Z0w t (some 999999999) else if g = fN then nameB else if g = fS then signB else if g = fT then fun t => Z0w t (some 5) else fun t => Z0w t none
def Zof (fV fN fS fT fM : Addr) (g : Addr) : Prop := g = fV ∨ g = fN ∨ g = fS ∨ g = fT ∨ g = fM
theorem Z3s {K : PySem.W.Frag} {r : Addr} {vs : List V} {od : Option Addr} {its : Array Value} {n : Nat} {sl : Array (Option Value)} (l : K.lookup r = some ⟨.type "tuple", od, .seq its n, sl⟩) (v : Vals vs its.toList) (hl : vs.length <= 1000) : ∀ H, SqT K H r vs := fun H => by
 have hsz : its.size <= sizeLine := by
  have h := v.length
  have e : its.toList.length = its.size := Array.length_toList
  have h2 : sizeLine = 16777216 := sizeLine_eq
  omega
 exact .inr ⟨_, its, n, l, rfl, rfl, hsz, v⟩
abbrev Zfm (r0 r1 r2 r3 r4 r5 r6 r7 r8 r9 r10 : Addr) : List (Str × V) := [("num", .ref r0), ("name", .ref r1), ("op", .ref r2), ("pick", .ref r3), ("let", .ref r4), ("set", .ref r5), ("say", .ref r6), ("take", .ref r7), ("do", .ref r8), ("again", .ref r9), ("call", .ref r10)]
abbrev Zfn (r11 r12 r13 : Addr) : List (Str × V) := [("let", .ref r11), ("own", .ref r12), ("hole", .ref r13)]
theorem Zpq : (["num", "name", "op", "pick", "let", "set", "say", "take", "do", "again", "call"] : List Str).Nodup := by decide +kernel
theorem Zpr : (["let", "own", "hole"] : List Str).Nodup := by decide +kernel
theorem Zij : ∀ (kvs : List (Str × V)) {x : Str}, (∀ p ∈ kvs, p.1 ≠ x) -> Zcx kvs x = none := fun kvs x h => Zmz kvs h
section
variable {K : PySem.W.Frag} {fV fN fS fT fM : Addr} {r0 r1 r2 r3 r4 r5 r6 r7 r8 r9 r10 r11 r12 r13 : Addr}
theorem Za8 (nd : [fV, fN, fS, fT, fM].Nodup) (s0 : ∀ H, SqT K H r0 [.ref fV, .int 0, .int 0]) (s1 : ∀ H, SqT K H r1 [.ref fN, .int 0, .int 0]) (s2 : ∀ H, SqT K H r2 [.ref fS, .int 2, .int 2]) (s3 : ∀ H, SqT K H r3 [.non, .int 3, .int 3])
  (s5 : ∀ H, SqT K H r5 [.ref fN, .int 1, .int 1]) (s6 : ∀ H, SqT K H r6 [.non, .int 1, .int 1]) (s7 : ∀ H, SqT K H r7 [.non, .int 0, .int 0]) (s8 : ∀ H, SqT K H r8 [.non, .int 1, .int 6]) (s9 : ∀ H, SqT K H r9 [.ref fT, .int 1, .int 1]) (s10 : ∀ H, SqT K H r10 [.ref fN, .int 0, .int 6])
  (s11 : ∀ H, SqT K H r11 [.non, .int 2, .int 2]) (s12 : ∀ H, SqT K H r12 [.ref fM, .int 0, .int 0]) (s13 : ∀ H, SqT K H r13 [.ref fM, .int 0, .int 0]) (x : Str) :
  Zb8 K (Z1b fV fN fS fT) (Zof fV fN fS fT fM) ((Zcx (Zfn r11 r12 r13) x).getD ((Zcx (Zfm r0 r1 r2 r3 r4 r5 r6 r7 r8 r9 r10) x).getD .non)) ((kindOf x).map (rule nameB signB)) := by
 simp only [List.nodup_cons, List.mem_cons, List.not_mem_nil, or_false, not_or, List.nodup_nil, and_true, not_false_eq_true] at nd
 obtain ⟨⟨nVN, nVS, nVT, nVM⟩, ⟨nNS, nNT, nNM⟩, ⟨nST, nSM⟩, nTM⟩ := nd
 have eV : Z1b fV fN fS fT fV = fun t => Z0w t (some 999999999) := by unfold Z1b; rw [if_pos rfl]
 have eN : Z1b fV fN fS fT fN = nameB := by unfold Z1b; rw [if_neg (Ne.symm nVN), if_pos rfl]
 have eS : Z1b fV fN fS fT fS = signB := by unfold Z1b; rw [if_neg (Ne.symm nVS), if_neg (Ne.symm nNS), if_pos rfl]
 have eT : Z1b fV fN fS fT fT = fun t => Z0w t (some 5) := by unfold Z1b; rw [if_neg (Ne.symm nVT), if_neg (Ne.symm nNT), if_neg (Ne.symm nST), if_pos rfl]
 have eM : Z1b fV fN fS fT fM = fun t => Z0w t none := by unfold Z1b; rw [if_neg (Ne.symm nVM), if_neg (Ne.symm nNM), if_neg (Ne.symm nSM), if_neg (Ne.symm nTM)]
 cases hk : kindOf x with
 | none =>
  have hn := Zkv hk
  have e1 : Zcx (Zfn r11 r12 r13) x = none := Zij _ (fun p hp z => by
   simp only [Zfn, List.mem_cons, List.not_mem_nil, or_false] at hp
   rcases hp with rfl | rfl | rfl
   ·exact hn .lett z.symm
   ·exact hn .own z.symm
   ·exact hn .hole z.symm)
  have e2 : Zcx (Zfm r0 r1 r2 r3 r4 r5 r6 r7 r8 r9 r10) x = none := Zij _ (fun p hp z => by
   simp only [Zfm, List.mem_cons, List.not_mem_nil, or_false] at hp
   rcases hp with rfl | rfl | rfl | rfl | rfl | rfl | rfl | rfl | rfl | rfl | rfl
   ·exact hn .num z.symm
   ·exact hn .name z.symm
   ·exact hn .op z.symm
   ·exact hn .pick z.symm
   ·exact hn .lett z.symm
   ·exact hn .sett z.symm
   ·exact hn .say z.symm
   ·exact hn .take z.symm
   ·exact hn .dow z.symm
   ·exact hn .again z.symm
   ·exact hn .call z.symm)
  rw [e1, e2]
  rfl
 | some kk =>
  have ex := Zfl hk
  subst ex
  cases kk with
  | num => exact ⟨r0, .ref fV, by with_unfolding_all rfl, s0, fV, rfl, .inl rfl, eV⟩
  | name => exact ⟨r1, .ref fN, by with_unfolding_all rfl, s1, fN, rfl, .inr (.inl rfl), eN⟩
  | op => exact ⟨r2, .ref fS, by with_unfolding_all rfl, s2, fS, rfl, .inr (.inr (.inl rfl)), eS⟩
  | pick => exact ⟨r3, .non, by with_unfolding_all rfl, s3, rfl⟩
  | lett => exact ⟨r11, .non, by with_unfolding_all rfl, s11, rfl⟩
  | sett => exact ⟨r5, .ref fN, by with_unfolding_all rfl, s5, fN, rfl, .inr (.inl rfl), eN⟩
  | say => exact ⟨r6, .non, by with_unfolding_all rfl, s6, rfl⟩
  | take => exact ⟨r7, .non, by with_unfolding_all rfl, s7, rfl⟩
  | dow => exact ⟨r8, .non, by with_unfolding_all rfl, s8, rfl⟩
  | again => exact ⟨r9, .ref fT, by with_unfolding_all rfl, s9, fT, rfl, .inr (.inr (.inr (.inl rfl))), eT⟩
  | call => exact ⟨r10, .ref fN, by with_unfolding_all rfl, s10, fN, rfl, .inr (.inl rfl), eN⟩
  | own => exact ⟨r12, .ref fM, by with_unfolding_all rfl, s12, fM, rfl, .inr (.inr (.inr (.inr rfl))), eM⟩
  | hole => exact ⟨r13, .ref fM, by with_unfolding_all rfl, s13, fM, rfl, .inr (.inr (.inr (.inr rfl))), eM⟩
end
abbrev hA (K : PySem.W.Frag) (n : Str) (f : Addr) : Prop := PySem.W.nsIn K mainGlobals n = some (some (.ref f))
abbrev hL (K : PySem.W.Frag) (n : Str) (S : Stmt) (f : Addr) (oc : Value) (od : Option Addr) (kV dc pm : Value) (an : Option Addr) (cd ct : Value) (sl : Array (Option Value)) : Prop := K.lookup f = some ⟨oc, od, .func (PySem.W.fnOf n n (Z0n S) (Z0m S) (Z03 S) .none kV dc pm an cd ct), sl⟩
abbrev hC (K : PySem.W.Frag) (cd : Value) (n : Str) : Prop := PySem.W.codeIn K cd n = true
abbrev hP (K : PySem.W.Frag) (f : Addr) : Prop := PySem.W.keepIn K (.ref f) = true
abbrev hZ (K : PySem.W.Frag) (n : Str) : Prop := PySem.W.nsIn K mainGlobals n = some none
abbrev hI (K : PySem.W.Frag) (a b : String) (v : Bool) : Prop := PySem.W.kitOne K (.type a) (.type b) = some v
theorem all_mk {l : PySem.W.OpenLaw} {w : World} {K : PySem.W.Frag} {h : Heap} {mg : Str -> Option Value} {fa f0 f1 f2 f3 f4 f5 f6 f7 f8 f9 f10 f11 f12 f13 f14 f15 f16 f17 f18 f19 f20 f21 f22 f23 f24 f25 f26 f27 f28 f29 f30 f31 f32 f33 f34 f35 f36 f37 f38 aW aS aR aB r0 r1 r2 r3 r4 r5 r6 r7 r8 r9 r10 r11 r12 r13 : Addr} (X : K.In h) (G : h.Ns mainGlobals mg) (hfa : mg "law" = some (.ref fa))
  {od0 an0 od1 an1 od2 an2 od3 an3 od4 an4 od5 an5 od6 an6 od7 an7 od8 an8 od9 an9 od10 an10 od11 an11 od12 an12 od13 an13 od14 an14 od15 an15 od16 an16 od17 an17 od18 an18 od19 an19 od20 an20 od21 an21 od22 an22 od23 an23 od24 an24 od25 an25 od26 an26 od27 an27 od28 an28 od29 an29 od30 an30 od31 an31 od32 an32 od33 an33 od34 an34 od35 an35 od36 an36 od37 an37 od38 an38 : Option Addr} {sl0 sl1 sl2 sl3 sl4 sl5 sl6 sl7 sl8 sl9 sl10 sl11 sl12 sl13 sl14 sl15 sl16 sl17 sl18 sl19 sl20 sl21 sl22 sl23 sl24 sl25 sl26 sl27 sl28 sl29 sl30 sl31 sl32 sl33 sl34 sl35 sl36 sl37 sl38 : Array (Option Value)} {oc0 kV0 dc0 pm0 cd0 ct0 oc1 kV1 dc1 pm1 cd1 ct1 oc2 kV2 dc2 pm2 cd2 ct2 oc3 kV3 dc3 pm3 cd3 ct3 oc4 kV4 dc4 pm4 cd4 ct4 oc5 kV5 dc5 pm5 cd5 ct5 oc6 kV6 dc6 pm6 cd6 ct6 oc7 kV7 dc7 pm7 cd7 ct7 oc8 kV8 dc8 pm8 cd8 ct8 oc9 kV9 dc9 pm9 cd9 ct9 oc10 kV10 dc10 pm10 cd10 ct10 oc11 kV11 dc11 pm11 cd11 ct11 oc12 kV12 dc12 pm12 cd12 ct12 oc13 kV13 dc13 pm13 cd13 ct13 oc14 kV14 dc14 pm14 cd14 ct14 oc15 kV15 dc15 pm15 cd15 ct15 oc16 kV16 dc16 pm16 cd16 ct16 oc17 kV17 dc17 pm17 cd17 ct17 oc18 kV18 dc18 pm18 cd18 ct18 oc19 kV19 dc19 pm19 cd19 ct19 oc20 kV20 dc20 pm20 cd20 ct20 oc21 kV21 dc21 pm21 cd21 ct21 oc22 kV22 dc22 pm22 cd22 ct22 oc23 kV23 dc23 pm23 cd23 ct23 oc24 kV24 dc24 pm24 cd24 ct24 oc25 kV25 dc25 pm25 cd25 ct25 oc26 kV26 dc26 pm26 cd26 ct26 oc27 kV27 dc27 pm27 cd27 ct27 oc28 kV28 dc28 pm28 cd28 ct28 oc29 kV29 dc29 pm29 cd29 ct29 oc30 kV30 dc30 pm30 cd30 ct30 oc31 kV31 dc31 pm31 cd31 ct31 oc32 kV32 dc32 pm32 cd32 ct32 oc33 kV33 dc33 pm33 cd33 ct33 oc34 kV34 dc34 pm34 cd34 ct34 oc35 kV35 dc35 pm35 cd35 ct35 oc36 kV36 dc36 pm36 cd36 ct36 oc37 kV37 dc37 pm37 cd37 ct37 oc38 kV38 dc38 pm38 cd38 ct38 : Value} {odW odS odr0 odr1 odr2 odr3 odr4 odr5 odr6 odr7 odr8 odr9 odr10 odr11 odr12 odr13 : Option Addr} {slW slS slr0 slr1 slr2 slr3 slr4 slr5 slr6 slr7 slr8 slr9 slr10 slr11 slr12 slr13 : Array (Option Value)} {itsW itsS its0 its1 its2 its3 its4 its5 its6 its7 its8 its9 its10 its11 its12 its13 : Array Value} {nW nS epR epB nr0 nr1 nr2 nr3 nr4 nr5 nr6 nr7 nr8 nr9 nr10 nr11 nr12 nr13 : Nat} {tkL tkV tkT : Tok} {esR esB : Array DictEntry} {tkN tkO tkC : Tok}
  (a0 : hA K "is_whole" f0) (l0 : hL K "is_whole" Z5w f0 oc0 od0 kV0 dc0 pm0 an0 cd0 ct0 sl0) (c0 : hC K cd0 "is_whole") (k0 : hP K f0)
  (a1 : hA K "is_name" f1) (l1 : hL K "is_name" Z4o f1 oc1 od1 kV1 dc1 pm1 an1 cd1 ct1 sl1) (c1 : hC K cd1 "is_name") (k1 : hP K f1)
  (a2 : hA K "is_value" f2) (l2 : hL K "is_value" Zaz f2 oc2 od2 kV2 dc2 pm2 an2 cd2 ct2 sl2) (c2 : hC K cd2 "is_value") (k2 : hP K f2)
  (a3 : hA K "is_sign" f3) (l3 : hL K "is_sign" Zgj f3 oc3 od3 kV3 dc3 pm3 an3 cd3 ct3 sl3) (c3 : hC K cd3 "is_sign") (k3 : hP K f3)
  (a4 : hA K "is_times" f4) (l4 : hL K "is_times" Zb0 f4 oc4 od4 kV4 dc4 pm4 an4 cd4 ct4 sl4) (c4 : hC K cd4 "is_times") (k4 : hP K f4)
  (a5 : hA K "expression_rule" f5) (l5 : hL K "expression_rule" Z2z f5 oc5 od5 kV5 dc5 pm5 an5 cd5 ct5 sl5) (c5 : hC K cd5 "expression_rule") (k5 : hP K f5)
  (a6 : hA K "is_node" f6) (l6 : hL K "is_node" Zck f6 oc6 od6 kV6 dc6 pm6 an6 cd6 ct6 sl6) (c6 : hC K cd6 "is_node") (k6 : hP K f6)
  (a7 : hA K "is_tree" f7) (l7 : hL K "is_tree" Zed f7 oc7 od7 kV7 dc7 pm7 an7 cd7 ct7 sl7) (c7 : hC K cd7 "is_tree") (k7 : hP K f7)
  (a8 : hA K "parts" f8) (l8 : hL K "parts" Z47 f8 oc8 od8 kV8 dc8 pm8 an8 cd8 ct8 sl8) (c8 : hC K cd8 "parts") (k8 : hP K f8)
  (a9 : hA K "is_number" f9) (l9 : hL K "is_number" Z7d f9 oc9 od9 kV9 dc9 pm9 an9 cd9 ct9 sl9) (c9 : hC K cd9 "is_number") (k9 : hP K f9)
  (a10 : hA K "bare_rule" f10) (l10 : hL K "bare_rule" Z49 f10 oc10 od10 kV10 dc10 pm10 an10 cd10 ct10 sl10) (c10 : hC K cd10 "bare_rule") (k10 : hP K f10)
  (a11 : hA K "is_bare" f11) (l11 : hL K "is_bare" Zee f11 oc11 od11 kV11 dc11 pm11 an11 cd11 ct11 sl11) (c11 : hC K cd11 "is_bare") (k11 : hP K f11)
  (a12 : hA K "head" f12) (l12 : hL K "head" Zch f12 oc12 od12 kV12 dc12 pm12 an12 cd12 ct12 sl12) (c12 : hC K cd12 "head") (k12 : hP K f12)
  (a13 : hA K "steps" f13) (l13 : hL K "steps" Z5v f13 oc13 od13 kV13 dc13 pm13 an13 cd13 ct13 sl13) (c13 : hC K cd13 "steps") (k13 : hP K f13)
  (a14 : hA K "flat" f14) (l14 : hL K "flat" Zci f14 oc14 od14 kV14 dc14 pm14 an14 cd14 ct14 sl14) (c14 : hC K cd14 "flat") (k14 : hP K f14)
  (a15 : hA K "loose" f15) (l15 : hL K "loose" Z8y f15 oc15 od15 kV15 dc15 pm15 an15 cd15 ct15 sl15) (c15 : hC K cd15 "loose") (k15 : hP K f15)
  (a16 : hA K "hole_numbers" f16) (l16 : hL K "hole_numbers" Z1a f16 oc16 od16 kV16 dc16 pm16 an16 cd16 ct16 sl16) (c16 : hC K cd16 "hole_numbers") (k16 : hP K f16)
  (a17 : hA K "is_pattern" f17) (l17 : hL K "is_pattern" Z2g f17 oc17 od17 kV17 dc17 pm17 an17 cd17 ct17 sl17) (c17 : hC K cd17 "is_pattern") (k17 : hP K f17)
  (a18 : hA K "hole_count" f18) (l18 : hL K "hole_count" Z2h f18 oc18 od18 kV18 dc18 pm18 an18 cd18 ct18 sl18) (c18 : hC K cd18 "hole_count") (k18 : hP K f18)
  (a19 : hA K "_law_feed" f19) (l19 : hL K "_law_feed" Ze9 f19 oc19 od19 kV19 dc19 pm19 an19 cd19 ct19 sl19) (c19 : hC K cd19 "_law_feed") (k19 : hP K f19)
  (a20 : hA K "_law_draw" f20) (l20 : hL K "_law_draw" Zea f20 oc20 od20 kV20 dc20 pm20 an20 cd20 ct20 sl20) (c20 : hC K cd20 "_law_draw") (k20 : hP K f20)
  (a21 : hA K "_law_value" f21) (l21 : hL K "_law_value" Z2y f21 oc21 od21 kV21 dc21 pm21 an21 cd21 ct21 sl21) (c21 : hC K cd21 "_law_value") (k21 : hP K f21)
  (a22 : hA K "_law_spelled" f22) (l22 : hL K "_law_spelled" Z48 f22 oc22 od22 kV22 dc22 pm22 an22 cd22 ct22 sl22) (c22 : hC K cd22 "_law_spelled") (k22 : hP K f22)
  (a23 : hA K "_law_name" f23) (l23 : hL K "_law_name" Zeb f23 oc23 od23 kV23 dc23 pm23 an23 cd23 ct23 sl23) (c23 : hC K cd23 "_law_name") (k23 : hP K f23)
  (a24 : hA K "_law_names" f24) (l24 : hL K "_law_names" Z8w f24 oc24 od24 kV24 dc24 pm24 an24 cd24 ct24 sl24) (c24 : hC K cd24 "_law_names") (k24 : hP K f24)
  (a25 : hA K "_law_parts" f25) (l25 : hL K "_law_parts" Z1o f25 oc25 od25 kV25 dc25 pm25 an25 cd25 ct25 sl25) (c25 : hC K cd25 "_law_parts") (k25 : hP K f25)
  (a26 : hA K "_law_with" f26) (l26 : hL K "_law_with" Zcj f26 oc26 od26 kV26 dc26 pm26 an26 cd26 ct26 sl26) (c26 : hC K cd26 "_law_with") (k26 : hP K f26)
  (a27 : hA K "_law_nodes" f27) (l27 : hL K "_law_nodes" Z50 f27 oc27 od27 kV27 dc27 pm27 an27 cd27 ct27 sl27) (c27 : hC K cd27 "_law_nodes") (k27 : hP K f27)
  (a28 : hA K "_law_world" f28) (l28 : hL K "_law_world" Z8x f28 oc28 od28 kV28 dc28 pm28 an28 cd28 ct28 sl28) (c28 : hC K cd28 "_law_world") (k28 : hP K f28)
  (a29 : hA K "_law_leaf" f29) (l29 : hL K "_law_leaf" Zec f29 oc29 od29 kV29 dc29 pm29 an29 cd29 ct29 sl29) (c29 : hC K cd29 "_law_leaf") (k29 : hP K f29)
  (a30 : hA K "_law_form" f30) (l30 : hL K "_law_form" Z9p f30 oc30 od30 kV30 dc30 pm30 an30 cd30 ct30 sl30) (c30 : hC K cd30 "_law_form") (k30 : hP K f30)
  (a31 : hA K "_law_dense" f31) (l31 : hL K "_law_dense" Z6u f31 oc31 od31 kV31 dc31 pm31 an31 cd31 ct31 sl31) (c31 : hC K cd31 "_law_dense") (k31 : hP K f31)
  (a32 : hA K "_law_turned_about" f32) (l32 : hL K "_law_turned_about" Z4n f32 oc32 od32 kV32 dc32 pm32 an32 cd32 ct32 sl32) (c32 : hC K cd32 "_law_turned_about") (k32 : hP K f32)
  (a33 : hA K "_law_numbers" f33) (l33 : hL K "_law_numbers" Z25 f33 oc33 od33 kV33 dc33 pm33 an33 cd33 ct33 sl33) (c33 : hC K cd33 "_law_numbers") (k33 : hP K f33)
  (a34 : hA K "_law_closed" f34) (l34 : hL K "_law_closed" Z4p f34 oc34 od34 kV34 dc34 pm34 an34 cd34 ct34 sl34) (c34 : hC K cd34 "_law_closed") (k34 : hP K f34)
  (a35 : hA K "_law_bent" f35) (l35 : hL K "_law_bent" Zef f35 oc35 od35 kV35 dc35 pm35 an35 cd35 ct35 sl35) (c35 : hC K cd35 "_law_bent") (k35 : hP K f35)
  (a36 : hA K "_law_bad" f36) (l36 : hL K "_law_bad" Zky f36 oc36 od36 kV36 dc36 pm36 an36 cd36 ct36 sl36) (c36 : hC K cd36 "_law_bad") (k36 : hP K f36)
  (a37 : hA K "_law_told" f37) (l37 : hL K "_law_told" Zeg f37 oc37 od37 kV37 dc37 pm37 an37 cd37 ct37 sl37) (c37 : hC K cd37 "_law_told") (k37 : hP K f37)
  (a38 : hA K "law" f38) (l38 : hL K "law" Zfo f38 oc38 od38 kV38 dc38 pm38 an38 cd38 ct38 sl38) (c38 : hC K cd38 "law") (k38 : hP K f38)
  (q_isinstance : hZ K "isinstance")
  (q_int : hZ K "int")
  (q_bool : hZ K "bool")
  (q_str : hZ K "str")
  (q_tuple : hZ K "tuple")
  (q_len : hZ K "len")
  (q_all : hZ K "all")
  (q_list : hZ K "list")
  (q_range : hZ K "range")
  (q_sum : hZ K "sum")
  (q_set : hZ K "set")
  (q_sorted : hZ K "sorted")
  (gN : PySem.W.nsIn K mainGlobals "NODE" = some (some (.str "node" tkN)))
  (gO : PySem.W.nsIn K mainGlobals "OPENED" = some (some (.str "opened" tkO)))
  (gC : PySem.W.nsIn K mainGlobals "CLOSED" = some (some (.str "closed" tkC)))
  (gW : hA K "WORDS" aW)
  (lW : K.lookup aW = some ⟨.type "tuple", odW, .seq itsW nW, slW⟩)
  (vW : Vals wordsV itsW.toList)
  (gS : hA K "SIGNS" aS)
  (lS : K.lookup aS = some ⟨.type "tuple", odS, .seq itsS nS, slS⟩)
  (vS : Vals (signsL.map V.str) itsS.toList)
  (gL : PySem.W.nsIn K mainGlobals "LONGEST_NAME" = some (some (.int 8 tkL)))
  (gV : PySem.W.nsIn K mainGlobals "GREATEST_VALUE" = some (some (.int 999999999 tkV)))
  (gT : PySem.W.nsIn K mainGlobals "MOST_TIMES" = some (some (.int 5 tkT)))
  (gR : hA K "RULES" aR)
  (lR : K.lookup aR = some ⟨.type "dict", none, .dict esR epR, #[]⟩)
  (eR : KEnt w esR.toList (Zfm r0 r1 r2 r3 r4 r5 r6 r7 r8 r9 r10))
  (gB : hA K "BARE_RULES" aB)
  (lB : K.lookup aB = some ⟨.type "dict", none, .dict esB epB, #[]⟩)
  (eB : KEnt w esB.toList (Zfn r11 r12 r13))
  (lr0 : K.lookup r0 = some ⟨.type "tuple", odr0, .seq its0 nr0, slr0⟩)
  (vr0 : Vals [(.ref f2), .int 0, .int 0] its0.toList)
  (lr1 : K.lookup r1 = some ⟨.type "tuple", odr1, .seq its1 nr1, slr1⟩)
  (vr1 : Vals [(.ref f1), .int 0, .int 0] its1.toList)
  (lr2 : K.lookup r2 = some ⟨.type "tuple", odr2, .seq its2 nr2, slr2⟩)
  (vr2 : Vals [(.ref f3), .int 2, .int 2] its2.toList)
  (lr3 : K.lookup r3 = some ⟨.type "tuple", odr3, .seq its3 nr3, slr3⟩)
  (vr3 : Vals [.non, .int 3, .int 3] its3.toList)
  (lr4 : K.lookup r4 = some ⟨.type "tuple", odr4, .seq its4 nr4, slr4⟩)
  (vr4 : Vals [(.ref f1), .int 2, .int 2] its4.toList)
  (lr5 : K.lookup r5 = some ⟨.type "tuple", odr5, .seq its5 nr5, slr5⟩)
  (vr5 : Vals [(.ref f1), .int 1, .int 1] its5.toList)
  (lr6 : K.lookup r6 = some ⟨.type "tuple", odr6, .seq its6 nr6, slr6⟩)
  (vr6 : Vals [.non, .int 1, .int 1] its6.toList)
  (lr7 : K.lookup r7 = some ⟨.type "tuple", odr7, .seq its7 nr7, slr7⟩)
  (vr7 : Vals [.non, .int 0, .int 0] its7.toList)
  (lr8 : K.lookup r8 = some ⟨.type "tuple", odr8, .seq its8 nr8, slr8⟩)
  (vr8 : Vals [.non, .int 1, .int 6] its8.toList)
  (lr9 : K.lookup r9 = some ⟨.type "tuple", odr9, .seq its9 nr9, slr9⟩)
  (vr9 : Vals [(.ref f4), .int 1, .int 1] its9.toList)
  (lr10 : K.lookup r10 = some ⟨.type "tuple", odr10, .seq its10 nr10, slr10⟩)
  (vr10 : Vals [(.ref f1), .int 0, .int 6] its10.toList)
  (lr11 : K.lookup r11 = some ⟨.type "tuple", odr11, .seq its11 nr11, slr11⟩)
  (vr11 : Vals [.non, .int 2, .int 2] its11.toList)
  (lr12 : K.lookup r12 = some ⟨.type "tuple", odr12, .seq its12 nr12, slr12⟩)
  (vr12 : Vals [(.ref f9), .int 0, .int 0] its12.toList)
  (lr13 : K.lookup r13 = some ⟨.type "tuple", odr13, .seq its13 nr13, slr13⟩)
  (vr13 : Vals [(.ref f9), .int 0, .int 0] its13.toList)
  (smR : (aR == sysModules) = false)
  (smB : (aB == sysModules) = false)
  (ndF : [f2, f1, f3, f4, f9].Nodup)
  (kt_NoneType_int : hI K "NoneType" "int" false)
  (kt_bool_int : hI K "bool" "int" true)
  (kt_int_int : hI K "int" "int" true)
  (kt_str_int : hI K "str" "int" false)
  (kt_tuple_int : hI K "tuple" "int" false)
  (kt_list_int : hI K "list" "int" false)
  (kt_NoneType_bool : hI K "NoneType" "bool" false)
  (kt_bool_bool : hI K "bool" "bool" true)
  (kt_int_bool : hI K "int" "bool" false)
  (kt_str_bool : hI K "str" "bool" false)
  (kt_tuple_bool : hI K "tuple" "bool" false)
  (kt_list_bool : hI K "list" "bool" false)
  (kt_NoneType_str : hI K "NoneType" "str" false)
  (kt_bool_str : hI K "bool" "str" false)
  (kt_int_str : hI K "int" "str" false)
  (kt_str_str : hI K "str" "str" true)
  (kt_tuple_str : hI K "tuple" "str" false)
  (kt_list_str : hI K "list" "str" false)
  (kt_NoneType_tuple : hI K "NoneType" "tuple" false)
  (kt_bool_tuple : hI K "bool" "tuple" false)
  (kt_int_tuple : hI K "int" "tuple" false)
  (kt_str_tuple : hI K "str" "tuple" false)
  (kt_tuple_tuple : hI K "tuple" "tuple" true)
  (kt_list_tuple : hI K "list" "tuple" false) :
  ∃ fd : FuncData, (∀ (s : Shared) (v : Value), BindsTo s fd ⟨[v], []⟩ [("_law_script", v)]) /\ ∀ base : Heap, K.In base -> base.Ns mainGlobals mg -> FnOk l.prog w K mg base CX0 13 fa fd ["_law_script"] (Zhg K) := by
 have e := hfa.symm.trans (PySem.W.mg_of X G a38)
 cases e
 have F0 := Z0r (st := Z5w) l0 c0 k0
 have b0 := F0.binds (ps := ["thing"]) fun _ _ _ _ _ _ => Z0y fun _ => rfl
 have m0 := PySem.W.mg_of X G a0
 have F1 := Z0r (st := Z4o) l1 c1 k1
 have b1 := F1.binds (ps := ["thing"]) fun _ _ _ _ _ _ => Z0y fun _ => rfl
 have m1 := PySem.W.mg_of X G a1
 have F2 := Z0r (st := Zaz) l2 c2 k2
 have b2 := F2.binds (ps := ["thing"]) fun _ _ _ _ _ _ => Z0y fun _ => rfl
 have m2 := PySem.W.mg_of X G a2
 have F3 := Z0r (st := Zgj) l3 c3 k3
 have b3 := F3.binds (ps := ["thing"]) fun _ _ _ _ _ _ => Z0y fun _ => rfl
 have m3 := PySem.W.mg_of X G a3
 have F4 := Z0r (st := Zb0) l4 c4 k4
 have b4 := F4.binds (ps := ["thing"]) fun _ _ _ _ _ _ => Z0y fun _ => rfl
 have m4 := PySem.W.mg_of X G a4
 have F5 := Z0r (st := Z2z) l5 c5 k5
 have b5 := F5.binds (ps := ["word"]) fun _ _ _ _ _ _ => Z0y fun _ => rfl
 have m5 := PySem.W.mg_of X G a5
 have F6 := Z0r (st := Zck) l6 c6 k6
 have b6 := F6.binds (ps := ["thing", "rule_of"]) fun _ _ _ _ _ _ => Z1q fun _ _ => rfl
 have m6 := PySem.W.mg_of X G a6
 have F7 := Z0r (st := Zed) l7 c7 k7
 have b7 := F7.binds (ps := ["thing", "rule_of"]) fun _ _ _ _ _ _ => Z1q fun _ _ => rfl
 have m7 := PySem.W.mg_of X G a7
 have F8 := Z0r (st := Z47) l8 c8 k8
 have b8 := F8.binds (ps := ["e"]) fun _ _ _ _ _ _ => Z0y fun _ => rfl
 have m8 := PySem.W.mg_of X G a8
 have F9 := Z0r (st := Z7d) l9 c9 k9
 have b9 := F9.binds (ps := ["thing"]) fun _ _ _ _ _ _ => Z0y fun _ => rfl
 have m9 := PySem.W.mg_of X G a9
 have F10 := Z0r (st := Z49) l10 c10 k10
 have b10 := F10.binds (ps := ["word"]) fun _ _ _ _ _ _ => Z0y fun _ => rfl
 have m10 := PySem.W.mg_of X G a10
 have F11 := Z0r (st := Zee) l11 c11 k11
 have b11 := F11.binds (ps := ["thing"]) fun _ _ _ _ _ _ => Z0y fun _ => rfl
 have m11 := PySem.W.mg_of X G a11
 have F12 := Z0r (st := Zch) l12 c12 k12
 have b12 := F12.binds (ps := ["node"]) fun _ _ _ _ _ _ => Z0y fun _ => rfl
 have m12 := PySem.W.mg_of X G a12
 have F13 := Z0r (st := Z5v) l13 c13 k13
 have b13 := F13.binds (ps := ["tree"]) fun _ _ _ _ _ _ => Z0y fun _ => rfl
 have m13 := PySem.W.mg_of X G a13
 have F14 := Z0r (st := Zci) l14 c14 k14
 have b14 := F14.binds (ps := ["tree"]) fun _ _ _ _ _ _ => Z0y fun _ => rfl
 have m14 := PySem.W.mg_of X G a14
 have F15 := Z0r (st := Z8y) l15 c15 k15
 have b15 := F15.binds (ps := ["b"]) fun _ _ _ _ _ _ => Z0y fun _ => rfl
 have m15 := PySem.W.mg_of X G a15
 have F16 := Z0r (st := Z1a) l16 c16 k16
 have b16 := F16.binds (ps := ["b"]) fun _ _ _ _ _ _ => Z0y fun _ => rfl
 have m16 := PySem.W.mg_of X G a16
 have F17 := Z0r (st := Z2g) l17 c17 k17
 have b17 := F17.binds (ps := ["thing"]) fun _ _ _ _ _ _ => Z0y fun _ => rfl
 have m17 := PySem.W.mg_of X G a17
 have F18 := Z0r (st := Z2h) l18 c18 k18
 have b18 := F18.binds (ps := ["pattern"]) fun _ _ _ _ _ _ => Z0y fun _ => rfl
 have m18 := PySem.W.mg_of X G a18
 have F19 := Z0r (st := Ze9) l19 c19 k19
 have b19 := F19.binds (ps := ["_law_script"]) fun _ _ _ _ _ _ => Z0y fun _ => rfl
 have m19 := PySem.W.mg_of X G a19
 have F20 := Z0r (st := Zea) l20 c20 k20
 have b20 := F20.binds (ps := ["_law_feed_here", "_law_many"]) fun _ _ _ _ _ _ => Z1q fun _ _ => rfl
 have m20 := PySem.W.mg_of X G a20
 have F21 := Z0r (st := Z2y) l21 c21 k21
 have b21 := F21.binds (ps := ["_law_feed_here"]) fun _ _ _ _ _ _ => Z0y fun _ => rfl
 have m21 := PySem.W.mg_of X G a21
 have F22 := Z0r (st := Z48) l22 c22 k22
 have b22 := F22.binds (ps := ["_law_number", "_law_long"]) fun _ _ _ _ _ _ => Z1q fun _ _ => rfl
 have m22 := PySem.W.mg_of X G a22
 have F23 := Z0r (st := Zeb) l23 c23 k23
 have b23 := F23.binds (ps := ["_law_feed_here", "_law_taken"]) fun _ _ _ _ _ _ => Z1q fun _ _ => rfl
 have m23 := PySem.W.mg_of X G a23
 have F24 := Z0r (st := Z8w) l24 c24 k24
 have b24 := F24.binds (ps := ["_law_feed_here", "_law_many"]) fun _ _ _ _ _ _ => Z1q fun _ _ => rfl
 have m24 := PySem.W.mg_of X G a24
 have F25 := Z0r (st := Z1o) l25 c25 k25
 have b25 := F25.binds (ps := ["_law_e"]) fun _ _ _ _ _ _ => Z0y fun _ => rfl
 have m25 := PySem.W.mg_of X G a25
 have F26 := Z0r (st := Zcj) l26 c26 k26
 have b26 := F26.binds (ps := ["_law_e", "_law_inner"]) fun _ _ _ _ _ _ => Z1q fun _ _ => rfl
 have m26 := PySem.W.mg_of X G a26
 have F27 := Z0r (st := Z50) l27 c27 k27
 have b27 := F27.binds (ps := ["_law_e"]) fun _ _ _ _ _ _ => Z0y fun _ => rfl
 have m27 := PySem.W.mg_of X G a27
 have F28 := Z0r (st := Z8x) l28 c28 k28
 have b28 := F28.binds (ps := ["_law_names_here", "_law_room", "_law_holes", "_law_astray"]) fun _ _ _ _ _ _ => Zfk fun _ _ _ _ => rfl
 have m28 := PySem.W.mg_of X G a28
 have F29 := Z0r (st := Zec) l29 c29 k29
 have b29 := F29.binds (ps := ["_law_feed_here", "_law_world_here", "_law_lets"]) fun _ _ _ _ _ _ => Za7 fun _ _ _ => rfl
 have m29 := PySem.W.mg_of X G a29
 have F30 := Z0r (st := Z9p) l30 c30 k30
 have b30 := F30.binds (ps := ["_law_feed_here", "_law_world_here", "_law_lets", "_law_below"]) fun _ _ _ _ _ _ => Zfk fun _ _ _ _ => rfl
 have m30 := PySem.W.mg_of X G a30
 have F31 := Z0r (st := Z6u) l31 c31 k31
 have b31 := F31.binds (ps := ["_law_b", "_law_seen"]) fun _ _ _ _ _ _ => Z1q fun _ _ => rfl
 have m31 := PySem.W.mg_of X G a31
 have F32 := Z0r (st := Z4n) l32 c32 k32
 have b32 := F32.binds (ps := ["_law_b", "_law_many"]) fun _ _ _ _ _ _ => Z1q fun _ _ => rfl
 have m32 := PySem.W.mg_of X G a32
 have F33 := Z0r (st := Z25) l33 c33 k33
 have b33 := F33.binds (ps := ["_law_b", "_law_word"]) fun _ _ _ _ _ _ => Z1q fun _ _ => rfl
 have m33 := PySem.W.mg_of X G a33
 have F34 := Z0r (st := Z4p) l34 c34 k34
 have b34 := F34.binds (ps := ["_law_b", "_law_lets"]) fun _ _ _ _ _ _ => Z1q fun _ _ => rfl
 have m34 := PySem.W.mg_of X G a34
 have F35 := Z0r (st := Zef) l35 c35 k35
 have b35 := F35.binds (ps := ["_law_b", "_law_at", "_law_bad_here"]) fun _ _ _ _ _ _ => Za7 fun _ _ _ => rfl
 have m35 := PySem.W.mg_of X G a35
 have F36 := Z0r (st := Zky) l36 c36 k36
 have b36 := F36.binds (ps := ["_law_feed_here"]) fun _ _ _ _ _ _ => Z0y fun _ => rfl
 have m36 := PySem.W.mg_of X G a36
 have F37 := Z0r (st := Zeg) l37 c37 k37
 have b37 := F37.binds (ps := ["_law_thing", "_law_due"]) fun _ _ _ _ _ _ => Z1q fun _ _ => rfl
 have m37 := PySem.W.mg_of X G a37
 have F38 := Z0r (st := Zfo) l38 c38 k38
 have z_isinstance := PySem.W.mg_none_of X G q_isinstance
 have z_int := PySem.W.mg_none_of X G q_int
 have z_bool := PySem.W.mg_none_of X G q_bool
 have z_str := PySem.W.mg_none_of X G q_str
 have z_tuple := PySem.W.mg_none_of X G q_tuple
 have z_len := PySem.W.mg_none_of X G q_len
 have z_all := PySem.W.mg_none_of X G q_all
 have z_list := PySem.W.mg_none_of X G q_list
 have z_range := PySem.W.mg_none_of X G q_range
 have z_sum := PySem.W.mg_none_of X G q_sum
 have z_set := PySem.W.mg_none_of X G q_set
 have z_sorted := PySem.W.mg_none_of X G q_sorted
 have T0 : Txt0 mg := ⟨z_len, z_list, z_range⟩
 have T : TxtT mg := ⟨z_isinstance, z_int, z_bool, z_tuple, z_len, z_str, z_all⟩
 have KI : Kits K := Zkw kt_NoneType_int kt_bool_int kt_int_int kt_str_int kt_tuple_int kt_list_int kt_NoneType_bool kt_bool_bool kt_int_bool kt_str_bool kt_tuple_bool kt_list_bool kt_NoneType_str kt_bool_str kt_int_str kt_str_str kt_tuple_str kt_list_str kt_NoneType_tuple kt_bool_tuple kt_int_tuple kt_str_tuple kt_tuple_tuple kt_list_tuple
 have TD : TxtD mg := ⟨⟨_, PySem.W.mg_of X G gN⟩, ⟨_, PySem.W.mg_of X G gO⟩, ⟨_, PySem.W.mg_of X G gC⟩⟩
 have mgW := PySem.W.mg_of X G gW
 have mgS := PySem.W.mg_of X G gS
 have mgL := PySem.W.mg_of X G gL
 have mgV := PySem.W.mg_of X G gV
 have mgT := PySem.W.mg_of X G gT
 have mgR := PySem.W.mg_of X G gR
 have mgB := PySem.W.mg_of X G gB
 have TN : TxtN K mg aW := ⟨z_len, z_isinstance, z_str, z_all, ⟨_, mgL⟩, mgW, Z3s lW vW (by decide +kernel)⟩
 have sqS := Z3s lS vS (by decide +kernel)
 have TA : Tables K w mg (Z1b f2 f1 f3 f4) (Zof f2 f1 f3 f4 f9) aR aB (Zfm r0 r1 r2 r3 r4 r5 r6 r7 r8 r9 r10) (Zfn r11 r12 r13) := ⟨mgR, mgB, ⟨⟨_, esR, epR, lR, rfl, rfl, rfl, rfl, eR⟩, Zpq, smR⟩, ⟨⟨_, esB, epB, lB, rfl, rfl, rfl, rfl, eB⟩, Zpr, smB⟩, Za8 ndF (Z3s lr0 vr0 (by show 3 <= 1000; decide)) (Z3s lr1 vr1 (by show 3 <= 1000; decide)) (Z3s lr2 vr2 (by show 3 <= 1000; decide)) (Z3s lr3 vr3 (by show 3 <= 1000; decide)) (Z3s lr5 vr5 (by show 3 <= 1000; decide)) (Z3s lr6 vr6 (by show 3 <= 1000; decide)) (Z3s lr7 vr7 (by show 3 <= 1000; decide)) (Z3s lr8 vr8 (by show 3 <= 1000; decide)) (Z3s lr9 vr9 (by show 3 <= 1000; decide)) (Z3s lr10 vr10 (by show 3 <= 1000; decide)) (Z3s lr11 vr11 (by show 3 <= 1000; decide)) (Z3s lr12 vr12 (by show 3 <= 1000; decide)) (Z3s lr13 vr13 (by show 3 <= 1000; decide))⟩
 have U : Helpers K mg f20 f22 _ _ := ⟨T0, F20, b20, m20, F22, b22, m22⟩
 have HTT : HT K mg f8 f12 f13 _ _ _ := ⟨T, TD, KI, F8, b8, m8, F12, b12, m12, F13, b13, m13⟩
 have HHH : HH K mg f8 f12 f13 f14 _ _ _ _ := ⟨HTT, F14, b14, m14, z_sorted⟩
 have HWW : HW K mg f25 f26 _ _ := ⟨T, KI, F25, b25, m25, F26, b26, m26⟩
 have PP : Pt K mg ⟨f11, f15, f16, _, _, _⟩ := ⟨F11, b11, m11, F15, b15, m15, F16, b16, m16, z_list, z_range, z_len⟩
 have Y : Lw K mg ⟨f20, f22, f19, f24, f28, f30, f31, f32, f33, f34, f37, f18, f35, f36, f27, _, _, _, _, _, _, _, _, _, _, _, _, _, _, _⟩ := ⟨U, T, KI, z_list, z_set, z_sorted, ⟨F19, b19, m19⟩, ⟨F24, b24, m24⟩, ⟨F28, b28, m28⟩, ⟨F30, b30, m30⟩, ⟨F31, b31, m31⟩, ⟨F32, b32, m32⟩, ⟨F33, b33, m33⟩, ⟨F34, b34, m34⟩, ⟨F37, b37, m37⟩, ⟨F18, b18, m18⟩, ⟨F35, b35, m35⟩, ⟨F36, b36, m36⟩, ⟨F27, b27, m27⟩⟩
 refine ⟨PySem.W.fnOf "law" "law" (Z0n Zfo) (Z0m Zfo) (Z03 Zfo) .none kV38 dc38 pm38 an38 cd38 ct38, fun s v => .of_eq rfl, fun base _ _ => ?_⟩
 have nd := ndF
 simp only [List.nodup_cons, List.mem_cons, List.not_mem_nil, or_false, not_or, List.nodup_nil, and_true, not_false_eq_true] at nd
 obtain ⟨⟨nVN, nVS, nVT, nVM⟩, ⟨nNS, nNT, nNM⟩, ⟨nST, nSM⟩, nTM⟩ := nd
 have GB := Z9s (P := l.prog) (w := w) (base := base) F10 TA F5 b5 m5
 have GNd := Zjo (P := l.prog) (w := w) (base := base) (fits := Z1b f2 f1 f3 f4) (Pf := Zof f2 f1 f3 f4 f9) (fR := f10) (dR := PySem.W.fnOf "law" "law" (Z0n Zfo) (Z0m Zfo) (Z03 Zfo) .none kV38 dc38 pm38 an38 cd38 ct38) F6 T KI (fun g hg => by subst hg; exact ⟨_, _, GB, F10.kp, b10⟩) (fun g hg => by
  rcases hg with rfl | rfl | rfl | rfl | rfl
  ·have e : Z1b g f1 f3 f4 g = fun t => Z0w t (some 999999999) := by unfold Z1b; rw [if_pos rfl]
   rw [e]; exact ⟨_, _, Zgn F2 T KI F0 b0 m0 mgV, F2.kp, b2⟩
  ·have e : Z1b f2 g f3 f4 g = nameB := by unfold Z1b; rw [if_neg (Ne.symm nVN), if_pos rfl]
   rw [e]; exact ⟨_, _, (Zgq F1 TN KI).mono (by decide), F1.kp, b1⟩
  ·have e : Z1b f2 f1 g f4 g = signB := by unfold Z1b; rw [if_neg (Ne.symm nVS), if_neg (Ne.symm nNS), if_pos rfl]
   rw [e]; exact ⟨_, _, (Zjl F3 T KI mgS sqS).mono (by decide), F3.kp, b3⟩
  ·have e : Z1b f2 f1 f3 g g = fun t => Z0w t (some 5) := by unfold Z1b; rw [if_neg (Ne.symm nVT), if_neg (Ne.symm nNT), if_neg (Ne.symm nST), if_pos rfl]
   rw [e]; exact ⟨_, _, Zgo F4 T KI F0 b0 m0 mgT, F4.kp, b4⟩
  ·have e : Z1b f2 f1 f3 f4 g = fun t => Z0w t none := by unfold Z1b; rw [if_neg (Ne.symm nVM), if_neg (Ne.symm nNM), if_neg (Ne.symm nSM), if_neg (Ne.symm nTM)]
   rw [e]; exact ⟨_, _, Zej F9 T KI F0 b0 m0, F9.kp, b9⟩)
 have GTr := Zjp (P := l.prog) (w := w) (base := base) (fR := f10) F7 T KI GNd F6 b6 m6 F8 b8 m8
 have GBr := Zjq (P := l.prog) (w := w) (base := base) F11 GTr F7 b7 m7 m10
 have GLo := Zh8 (P := l.prog) (w := w) (base := base) F15 T TD ⟨z_set, z_sorted⟩ KI F8 b8 m8 F13 b13 m13 9
 have GHn := Zbm (P := l.prog) (w := w) (base := base) F16 HHH 9
 have GPt := Zcv (P := l.prog) (w := w) (base := base) F17 PP 9 GBr GLo GHn
 have GNo := Zbe (P := l.prog) (w := w) (base := base) F27 b27 m27 T KI z_sum F25 b25 m25
 have GL := Zk5 (P := l.prog) (w := w) (base := base) F29 U F21 b21 m21
 exact Zmy F38 Y (Zgu F24 U F23 b23 m23) (Zka F30 b30 m30 U T GL F29 b29 m29 GNo F27 b27 m27 0 7) (Zgx F31 b31 m31 HWW 7) (Zev F32 b32 m32 HWW 8) (Zkm F33 b33 m33 T KI F25 b25 m25 9) (Zfi F34 b34 m34 T KI F25 b25 m25 9) (Zkl F37 T 9 GPt F17 b17 m17) (Zh3 F18 HHH F16 b16 m16 9) (Zkq F35 b35 m35 HWW z_range z_sum F27 b27 m27 9) (Zmu F36 U) (GNo 9)
theorem walk {l : PySem.W.OpenLaw} {q : Program} {loose : List Str} {XP : (Str -> Option Value) -> Heap -> Prop} {YP : World -> Heap -> Prop} {d : DefRec} {K : Params -> PySem.W.Frag} (hn : l.most = some 63) (hdf : d.params.defaults = [])
  (hY : ∀ (w : World) (h : Heap), YP w h -> (K w.params).In h)
  (F : ∀ (w : World) (mg : Str -> Option Value) (fa : Addr) (h : Heap), (K w.params).In h -> h.Ns mainGlobals mg -> mg d.name = some (.ref fa) →
   ∃ fd : FuncData, (∀ (s : Shared) (u : Value), BindsTo s fd ⟨[u], []⟩ [("_law_script", u)]) /\ ∀ base : Heap, (K w.params).In base -> base.Ns mainGlobals mg -> FnOk l.prog w (K w.params) mg base CX0 13 fa fd ["_law_script"] (Zhg (K w.params))) :
  PySem.W.WalkO q loose XP YP l.row.toRowW d [] (fun f vs => PySem.call f vs) :=
 L2.walk_of (n := 63) (k := 13) (x := "_law_script") (CX := fun _ => CX0) (sp := fun w => Zhg (K w.params)) hn (by decide) hdf ⟨rfl, rfl, by decide, by decide⟩ hY F (fun _ _ a ns hl _ hS => ⟨a, ns, rfl, hS, hl, fun _ => rfl⟩) fun _ _ _ _ _ z => z
end K15
namespace K15
open PySem L2
end K15
open PySem PySem.W PyProof.Rows
set_option maxRecDepth 100000 in
set_option maxHeartbeats 0 in
theorem PySem.Challenge.cw_likepieces_k15_patterns_told_holds : PySem.Challenge.rw_likepieces_k15_patterns_told.Holds := by
 w_on
 refine holds_law K15.hdS fun sd => ?_
 refine holds_open (q := K15.hdQ) (loose := K15.hdL) (Yf := K15.hdH.obs) (Ya := K15.hdH.val)
  (XP := XL K15.hdQ []) (YP := InK K15.hdK) (N := K15.hdN) K15.hdT K15.hdH.of
  K15.hdH.keeps (fun s e => xl_of s (Bool.and_eq_true_iff.mp e).1) XL.keeps (by rfl) (by rfl)
  (by rfl) (fun s e => recFacts_of (Bool.and_eq_true_iff.mp e).2) (by rfl) sd (by decide +kernel)
  ⟨rfl, rfl, rfl, rfl, rfl, by decide +kernel⟩ ?hw ?hc
 (case hw => w_witness2)
 k_fill
 refine K15.walk (l := PySem.Challenge.rw_likepieces_k15_patterns_told) rfl rfl (K := K15.hdK) (fun w h Y => Y) ?F
 case F =>
  intro w mg fa h KX G hmg
  refine' K15.all_mk KX G hmg ?a0 ?l0 ?c0 ?k0 ?a1 ?l1 ?c1 ?k1 ?a2 ?l2 ?c2 ?k2 ?a3 ?l3 ?c3 ?k3 ?a4 ?l4 ?c4 ?k4 ?a5 ?l5 ?c5 ?k5 ?a6 ?l6 ?c6 ?k6 ?a7 ?l7 ?c7 ?k7 ?a8 ?l8 ?c8 ?k8 ?a9 ?l9 ?c9 ?k9 ?a10 ?l10 ?c10 ?k10 ?a11 ?l11 ?c11 ?k11 ?a12 ?l12 ?c12 ?k12 ?a13 ?l13 ?c13 ?k13 ?a14 ?l14 ?c14 ?k14 ?a15 ?l15 ?c15 ?k15 ?a16 ?l16 ?c16 ?k16 ?a17 ?l17 ?c17 ?k17 ?a18 ?l18 ?c18 ?k18 ?a19 ?l19 ?c19 ?k19 ?a20 ?l20 ?c20 ?k20 ?a21 ?l21 ?c21 ?k21 ?a22 ?l22 ?c22 ?k22 ?a23 ?l23 ?c23 ?k23 ?a24 ?l24 ?c24 ?k24 ?a25 ?l25 ?c25 ?k25 ?a26 ?l26 ?c26 ?k26 ?a27 ?l27 ?c27 ?k27 ?a28 ?l28 ?c28 ?k28 ?a29 ?l29 ?c29 ?k29 ?a30 ?l30 ?c30 ?k30 ?a31 ?l31 ?c31 ?k31 ?a32 ?l32 ?c32 ?k32 ?a33 ?l33 ?c33 ?k33 ?a34 ?l34 ?c34 ?k34 ?a35 ?l35 ?c35 ?k35 ?a36 ?l36 ?c36 ?k36 ?a37 ?l37 ?c37 ?k37 ?a38 ?l38 ?c38 ?k38 ?q_isinstance ?q_int ?q_bool ?q_str ?q_tuple ?q_len ?q_all ?q_list ?q_range ?q_sum ?q_set ?q_sorted ?gN ?gO ?gC ?gW ?lW ?vW ?gS ?lS ?vS ?gL ?gV ?gT ?gR ?lR ?eR ?gB ?lB ?eB ?lr0 ?vr0 ?lr1 ?vr1 ?lr2 ?vr2 ?lr3 ?vr3 ?lr4 ?vr4 ?lr5 ?vr5 ?lr6 ?vr6 ?lr7 ?vr7 ?lr8 ?vr8 ?lr9 ?vr9 ?lr10 ?vr10 ?lr11 ?vr11 ?lr12 ?vr12 ?lr13 ?vr13 ?smR ?smB ?ndF ?kt_NoneType_int ?kt_bool_int ?kt_int_int ?kt_str_int ?kt_tuple_int ?kt_list_int ?kt_NoneType_bool ?kt_bool_bool ?kt_int_bool ?kt_str_bool ?kt_tuple_bool ?kt_list_bool ?kt_NoneType_str ?kt_bool_str ?kt_int_str ?kt_str_str ?kt_tuple_str ?kt_list_str ?kt_NoneType_tuple ?kt_bool_tuple ?kt_int_tuple ?kt_str_tuple ?kt_tuple_tuple ?kt_list_tuple
  all_goals first | unfold K15.hA | unfold K15.hL | unfold K15.hC | unfold K15.hP | unfold K15.hZ | unfold K15.hI | skip
  (case a0 | l0 | c0 | k0 | a1 | l1 | c1 | k1 | a2 | l2 | c2 | k2 | a3 | l3 | c3 | k3 | a4 | l4 | c4 | k4 | a5 | l5 | c5 | k5 | a6 | l6 | c6 | k6 | a7 | l7 | c7 | k7 | a8 | l8 | c8 | k8 | a9 | l9 | c9 | k9 | a10 | l10 | c10 | k10 | a11 | l11 | c11 | k11 | a12 | l12 | c12 | k12 | a13 | l13 | c13 | k13 | a14 | l14 | c14 | k14 | a15 | l15 | c15 | k15 | a16 | l16 | c16 | k16 | a17 | l17 | c17 | k17 | a18 | l18 | c18 | k18 | a19 | l19 | c19 | k19 | a20 | l20 | c20 | k20 | a21 | l21 | c21 | k21 | a22 | l22 | c22 | k22 | a23 | l23 | c23 | k23 | a24 | l24 | c24 | k24 | a25 | l25 | c25 | k25 | a26 | l26 | c26 | k26 | a27 | l27 | c27 | k27 | a28 | l28 | c28 | k28 | a29 | l29 | c29 | k29 | a30 | l30 | c30 | k30 | a31 | l31 | c31 | k31 | a32 | l32 | c32 | k32 | a33 | l33 | c33 | k33 | a34 | l34 | c34 | k34 | a35 | l35 | c35 | k35 | a36 | l36 | c36 | k36 | a37 | l37 | c37 | k37 | a38 | l38 | c38 | k38 | q_isinstance | q_int | q_bool | q_str | q_tuple | q_len | q_all | q_list | q_range | q_sum | q_set | q_sorted | gN | gO | gC | gW | lW => k_is)
  (case vW => exact .cons ⟨_, rfl⟩ (.cons ⟨_, rfl⟩ (.cons ⟨_, rfl⟩ (.cons ⟨_, rfl⟩ (.cons ⟨_, rfl⟩ (.cons ⟨_, rfl⟩ (.cons ⟨_, rfl⟩ (.cons ⟨_, rfl⟩ (.cons ⟨_, rfl⟩ (.cons ⟨_, rfl⟩ (.cons ⟨_, rfl⟩ (.cons ⟨_, rfl⟩ (.cons ⟨_, rfl⟩ (.nil))))))))))))))
  (case gS | lS => k_is)
  (case vS => exact .cons ⟨_, rfl⟩ (.cons ⟨_, rfl⟩ (.cons ⟨_, rfl⟩ (.cons ⟨_, rfl⟩ (.cons ⟨_, rfl⟩ (.cons ⟨_, rfl⟩ (.nil)))))))
  (case gL | gV | gT | gR | lR => k_is)
  (case eR => exact .cons rfl (.cons rfl (.cons rfl (.cons rfl (.cons rfl (.cons rfl (.cons rfl (.cons rfl (.cons rfl (.cons rfl (.cons rfl (.nil))))))))))))
  (case gB | lB => k_is)
  (case eB => exact .cons rfl (.cons rfl (.cons rfl .nil)))
  (case lr0 => k_is)
  (case vr0 => exact .cons rfl (.cons ⟨_, rfl⟩ (.cons ⟨_, rfl⟩ .nil)))
  (case lr1 => k_is)
  (case vr1 => exact .cons rfl (.cons ⟨_, rfl⟩ (.cons ⟨_, rfl⟩ .nil)))
  (case lr2 => k_is)
  (case vr2 => exact .cons rfl (.cons ⟨_, rfl⟩ (.cons ⟨_, rfl⟩ .nil)))
  (case lr3 => k_is)
  (case vr3 => exact .cons rfl (.cons ⟨_, rfl⟩ (.cons ⟨_, rfl⟩ .nil)))
  (case lr4 => k_is)
  (case vr4 => exact .cons rfl (.cons ⟨_, rfl⟩ (.cons ⟨_, rfl⟩ .nil)))
  (case lr5 => k_is)
  (case vr5 => exact .cons rfl (.cons ⟨_, rfl⟩ (.cons ⟨_, rfl⟩ .nil)))
  (case lr6 => k_is)
  (case vr6 => exact .cons rfl (.cons ⟨_, rfl⟩ (.cons ⟨_, rfl⟩ .nil)))
  (case lr7 => k_is)
  (case vr7 => exact .cons rfl (.cons ⟨_, rfl⟩ (.cons ⟨_, rfl⟩ .nil)))
  (case lr8 => k_is)
  (case vr8 => exact .cons rfl (.cons ⟨_, rfl⟩ (.cons ⟨_, rfl⟩ .nil)))
  (case lr9 => k_is)
  (case vr9 => exact .cons rfl (.cons ⟨_, rfl⟩ (.cons ⟨_, rfl⟩ .nil)))
  (case lr10 => k_is)
  (case vr10 => exact .cons rfl (.cons ⟨_, rfl⟩ (.cons ⟨_, rfl⟩ .nil)))
  (case lr11 => k_is)
  (case vr11 => exact .cons rfl (.cons ⟨_, rfl⟩ (.cons ⟨_, rfl⟩ .nil)))
  (case lr12 => k_is)
  (case vr12 => exact .cons rfl (.cons ⟨_, rfl⟩ (.cons ⟨_, rfl⟩ .nil)))
  (case lr13 => k_is)
  (case vr13 => exact .cons rfl (.cons ⟨_, rfl⟩ (.cons ⟨_, rfl⟩ .nil)))
  (case smR | smB | ndF => decide)
  (case kt_NoneType_int | kt_bool_int | kt_int_int | kt_str_int | kt_tuple_int | kt_list_int | kt_NoneType_bool | kt_bool_bool | kt_int_bool | kt_str_bool | kt_tuple_bool | kt_list_bool | kt_NoneType_str | kt_bool_str | kt_int_str | kt_str_str | kt_tuple_str | kt_list_str | kt_NoneType_tuple | kt_bool_tuple | kt_int_tuple | kt_str_tuple | kt_tuple_tuple | kt_list_tuple => first | k_is | rfl | decide)
