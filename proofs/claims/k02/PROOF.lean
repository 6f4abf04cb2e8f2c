import PyProof.Rows.All
import Wide.All
import OpenK.AllK
import Wide.FinOn
import Lean
import PyProof.EqAt
import PyProof.EqKinds
import PyProof.TupleCall
import PyProof.NeKinds
import PyProof.Rows.SortStr
import PyProof.Rows.SeqMore
import PyProof.Rows.CatFin
import PyProof.MeetsStr
import PyProof.Rows.SumAny
import PyProof.Rows.SortShell
import PyProof.Rows.SetFrom
import PyProof.DictWalks
import PyProof.Rows.SortReads
import KE.KDictSum
import PyProof.ZipIter
import PyProof.Rows.ZipGen
import PySem.Challenge.RW_likepieces_k02_expressions_known
import PyProof.TupleOfGen
import PyProof.TupleOfStr
import KE.KIsAll
set_option Elab.async false
set_option linter.all false
set_option maxRecDepth 100000
set_option maxHeartbeats 4000000
namespace L2
open PySem
def Z0q (s : Stmt) : Arguments := match s with
 | .FunctionDef _ a _ _ _ _ _ _ _ _ => a
 | _ => { posonlyargs := [], args := [], vararg := none, kwonlyargs := [], kw_defaults := [], kwarg := none, defaults := [] }
def Z0n (s : Stmt) : List Stmt := match s with
 | .FunctionDef _ _ b _ _ _ _ _ _ _ => b
 | _ => []
def Z03 (s : Stmt) : Scope := match s with
 | .FunctionDef _ _ _ _ _ _ sc _ _ _ => sc
 | _ => { kind := .function, names := [], isGenerator := false, isCoroutine := false }
end L2
namespace K02
open PySem L2
def top (i : Nat) : Stmt := PySem.Challenge.pw_likepieces_k02_expressions_known.main.body.getD i (.Pass ⟨0, 0, 0, 0⟩)
abbrev eT : Obj := ⟨(.type "tuple"), none, (.seq #[] 0), #[]⟩
abbrev eF (n : Str) (i : Nat) (r : Addr) : Obj := ⟨(.type "function"), none, (.func (PySem.W.fnOf n n (Z0q (top i)) (Z0n (top i)) (Z03 (top i)) .none .none .none (.str "likepieces.trees" 187) none (.ref r) .none)), #[]⟩
abbrev eC (n : Str) (a b c : Tok) (l k f : Int) (r s : Addr) (v w : Value) (t : Addr) (m : Int) (d : Tok) : Obj := ⟨(.type "code"), none, (.fields #[(.str n a), (.str n b), (.str "/claim/cut.py" c), (.int l 0), (.int k 0), (.int 0 0), (.int 0 0), (.int f 0), (.ref r), (.bool true), (.int 181 0), (.ref s), .none, v, w, (.ref t), (.int m 0), (.int l 0), (.str "/claim/cut.py" d)]), #[]⟩
def hdQ : Program := { PySem.Challenge.pw_likepieces_k02_expressions_known with main := { PySem.Challenge.pw_likepieces_k02_expressions_known.main with body := [top 1, top 2, top 3, top 4, top 5, top 6, top 7, top 8, top 9, top 10, top 11, top 12, top 13, top 14, top 15, top 16, top 17, top 18, top 19, top 20, top 21, top 23, top 24, top 25, top 26, top 27, top 28, top 29, top 30, top 31, top 32, top 33, top 34, top 35, top 36, top 37, top 38, top 39, top 40, top 41, top 42, top 43, top 44, top 45, top 46] } }
def hdK : Params -> PySem.W.Frag := fun P =>
 (nat_lit 2, ⟨.none, none, (.dict #[] 0), #[]⟩) ::
 (nat_lit 3, ⟨(.type "dict"), none, (.dict #[⟨(PySem.PyData.keyHash P "__name__"), (.str "__name__" 165), (.str "law_likepieces_k02_expressions_known" 353)⟩, ⟨(PySem.PyData.keyHash P "__doc__"), (.str "__doc__" 166), .none⟩, ⟨(PySem.PyData.keyHash P "__package__"), (.str "__package__" 167), .none⟩, ⟨(PySem.PyData.keyHash P "__loader__"), (.str "__loader__" 168), (.builtin "__main__.__loader__#opaque")⟩, ⟨(PySem.PyData.keyHash P "__spec__"), (.str "__spec__" 169), .none⟩, ⟨(PySem.PyData.keyHash P "__annotations__"), (.str "__annotations__" 170), (.ref 6)⟩, ⟨(PySem.PyData.keyHash P "__builtins__"), (.str "__builtins__" 171), (.ref 4)⟩, ⟨(PySem.PyData.keyHash P "__file__"), (.str "__file__" 173), (.str "/claim/cut.py" 172)⟩, ⟨(PySem.PyData.keyHash P "__cached__"), (.str "__cached__" 174), .none⟩, ⟨(PySem.PyData.keyHash P "WORDS"), (.str "WORDS" 202), (.ref 15)⟩, ⟨(PySem.PyData.keyHash P "SIGNS"), (.str "SIGNS" 209), (.ref 16)⟩, ⟨(PySem.PyData.keyHash P "LONGEST_NAME"), (.str "LONGEST_NAME" 211), (.int 8 210)⟩, ⟨(PySem.PyData.keyHash P "GREATEST_VALUE"), (.str "GREATEST_VALUE" 213), (.int 999999999 212)⟩, ⟨(PySem.PyData.keyHash P "MOST_TIMES"), (.str "MOST_TIMES" 215), (.int 5 214)⟩, ⟨(PySem.PyData.keyHash P "NODE"), (.str "NODE" 217), (.str "node" 216)⟩, ⟨(PySem.PyData.keyHash P "OPENED"), (.str "OPENED" 219), (.str "opened" 218)⟩, ⟨(PySem.PyData.keyHash P "CLOSED"), (.str "CLOSED" 221), (.str "closed" 220)⟩, ⟨(PySem.PyData.keyHash P "is_whole"), (.str "is_whole" 228), (.ref 23)⟩, ⟨(PySem.PyData.keyHash P "is_name"), (.str "is_name" 234), (.ref 28)⟩, ⟨(PySem.PyData.keyHash P "is_value"), (.str "is_value" 241), (.ref 35)⟩, ⟨(PySem.PyData.keyHash P "is_sign"), (.str "is_sign" 248), (.ref 42)⟩, ⟨(PySem.PyData.keyHash P "is_times"), (.str "is_times" 255), (.ref 49)⟩, ⟨(PySem.PyData.keyHash P "RULES"), (.str "RULES" 300), (.ref 50)⟩, ⟨(PySem.PyData.keyHash P "expression_rule"), (.str "expression_rule" 307), (.ref 68)⟩, ⟨(PySem.PyData.keyHash P "is_node"), (.str "is_node" 313), (.ref 73)⟩, ⟨(PySem.PyData.keyHash P "is_tree"), (.str "is_tree" 323), (.ref 80)⟩, ⟨(PySem.PyData.keyHash P "sets_bound"), (.str "sets_bound" 333), (.ref 87)⟩, ⟨(PySem.PyData.keyHash P "is_expression"), (.str "is_expression" 340), (.ref 94)⟩, ⟨(PySem.PyData.keyHash P "parts"), (.str "parts" 346), (.ref 99)⟩, ⟨(PySem.PyData.keyHash P "steps"), (.str "steps" 352), (.ref 104)⟩, ⟨(PySem.PyData.keyHash P "_law_feed"), (.str "_law_feed" 361), (.ref 111)⟩, ⟨(PySem.PyData.keyHash P "_law_draw"), (.str "_law_draw" 373), (.ref 118)⟩, ⟨(PySem.PyData.keyHash P "_law_one"), (.str "_law_one" 381), (.ref 125)⟩, ⟨(PySem.PyData.keyHash P "_law_value"), (.str "_law_value" 389), (.ref 132)⟩, ⟨(PySem.PyData.keyHash P "_law_spelled"), (.str "_law_spelled" 399), (.ref 139)⟩, ⟨(PySem.PyData.keyHash P "_law_words"), (.str "_law_words" 405), (.ref 146)⟩, ⟨(PySem.PyData.keyHash P "_law_name"), (.str "_law_name" 411), (.ref 151)⟩, ⟨(PySem.PyData.keyHash P "_law_names"), (.str "_law_names" 421), (.ref 158)⟩, ⟨(PySem.PyData.keyHash P "_law_parts"), (.str "_law_parts" 427), (.ref 163)⟩, ⟨(PySem.PyData.keyHash P "_law_with"), (.str "_law_with" 433), (.ref 168)⟩, ⟨(PySem.PyData.keyHash P "_law_leaf"), (.str "_law_leaf" 443), (.ref 175)⟩, ⟨(PySem.PyData.keyHash P "_law_expr"), (.str "_law_expr" 449), (.ref 180)⟩, ⟨(PySem.PyData.keyHash P "_law_world"), (.str "_law_world" 461), (.ref 187)⟩, ⟨(PySem.PyData.keyHash P "_law_is_name"), (.str "_law_is_name" 467), (.ref 192)⟩, ⟨(PySem.PyData.keyHash P "_law_whole"), (.str "_law_whole" 475), (.ref 199)⟩, ⟨(PySem.PyData.keyHash P "_law_is"), (.str "_law_is" 481), (.ref 204)⟩, ⟨(PySem.PyData.keyHash P "_law_all_paths"), (.str "_law_all_paths" 487), (.ref 209)⟩, ⟨(PySem.PyData.keyHash P "_law_swapped"), (.str "_law_swapped" 497), (.ref 216)⟩, ⟨(PySem.PyData.keyHash P "_law_odd"), (.str "_law_odd" 506), (.ref 223)⟩, ⟨(PySem.PyData.keyHash P "_law_bent"), (.str "_law_bent" 512), (.ref 228)⟩, ⟨(PySem.PyData.keyHash P "_law_within"), (.str "_law_within" 521), (.ref 235)⟩, ⟨(PySem.PyData.keyHash P "_law_wide"), (.str "_law_wide" 527), (.ref 240)⟩, ⟨(PySem.PyData.keyHash P "_law_right"), (.str "_law_right" 535), (.ref 247)⟩, ⟨(PySem.PyData.keyHash P "law"), (.str "law" 550), (.ref 254)⟩] 54), #[]⟩) ::
 (nat_lit 15, ⟨(.type "tuple"), none, (.seq #[(.str "num" 189), (.str "name" 190), (.str "op" 191), (.str "pick" 192), (.str "let" 193), (.str "set" 194), (.str "say" 195), (.str "take" 196), (.str "do" 197), (.str "again" 198), (.str "call" 199), (.str "own" 200), (.str "hole" 201)] 0), #[]⟩) ::
 (nat_lit 16, ⟨(.type "tuple"), none, (.seq #[(.str "+" 203), (.str "-" 204), (.str "*" 205), (.str "/" 206), (.str "<" 207), (.str "=" 208)] 0), #[]⟩) ::
 (nat_lit 17, eT) ::
 (nat_lit 19, ⟨(.type "tuple"), none, (.seq #[(.str "thing" 225)] 0), #[]⟩) ::
 (nat_lit 20, eT) ::
 (nat_lit 22, eC "is_whole" 222 223 224 10 1 3 17 18 (.ref 19) (.ref 20) 21 226 227) ::
 (nat_lit 23, eF "is_whole" 9 22) ::
 (nat_lit 24, eT) ::
 (nat_lit 27, eC "is_name" 229 230 231 12 1 3 24 25 .none .none 26 232 233) ::
 (nat_lit 28, eF "is_name" 10 27) ::
 (nat_lit 29, eT) ::
 (nat_lit 31, ⟨(.type "tuple"), none, (.seq #[(.str "thing" 238)] 0), #[]⟩) ::
 (nat_lit 32, eT) ::
 (nat_lit 34, eC "is_value" 235 236 237 16 1 3 29 30 (.ref 31) (.ref 32) 33 239 240) ::
 (nat_lit 35, eF "is_value" 11 34) ::
 (nat_lit 36, eT) ::
 (nat_lit 38, ⟨(.type "tuple"), none, (.seq #[(.str "thing" 245)] 0), #[]⟩) ::
 (nat_lit 39, eT) ::
 (nat_lit 41, eC "is_sign" 242 243 244 18 1 3 36 37 (.ref 38) (.ref 39) 40 246 247) ::
 (nat_lit 42, eF "is_sign" 12 41) ::
 (nat_lit 43, eT) ::
 (nat_lit 45, ⟨(.type "tuple"), none, (.seq #[(.str "thing" 252)] 0), #[]⟩) ::
 (nat_lit 46, eT) ::
 (nat_lit 48, eC "is_times" 249 250 251 20 1 3 43 44 (.ref 45) (.ref 46) 47 253 254) ::
 (nat_lit 49, eF "is_times" 13 48) ::
 (nat_lit 50, ⟨(.type "dict"), none, (.dict #[⟨(PySem.PyData.keyHash P "num"), (.str "num" 256), (.ref 51)⟩, ⟨(PySem.PyData.keyHash P "name"), (.str "name" 259), (.ref 52)⟩, ⟨(PySem.PyData.keyHash P "op"), (.str "op" 262), (.ref 53)⟩, ⟨(PySem.PyData.keyHash P "pick"), (.str "pick" 265), (.ref 54)⟩, ⟨(PySem.PyData.keyHash P "let"), (.str "let" 268), (.ref 55)⟩, ⟨(PySem.PyData.keyHash P "set"), (.str "set" 271), (.ref 56)⟩, ⟨(PySem.PyData.keyHash P "say"), (.str "say" 274), (.ref 57)⟩, ⟨(PySem.PyData.keyHash P "take"), (.str "take" 277), (.ref 58)⟩, ⟨(PySem.PyData.keyHash P "do"), (.str "do" 280), (.ref 59)⟩, ⟨(PySem.PyData.keyHash P "again"), (.str "again" 283), (.ref 60)⟩, ⟨(PySem.PyData.keyHash P "call"), (.str "call" 286), (.ref 61)⟩] 11), #[]⟩) ::
 (nat_lit 51, ⟨(.type "tuple"), none, (.seq #[(.ref 35), (.int 0 257), (.int 0 258)] 0), #[]⟩) ::
 (nat_lit 52, ⟨(.type "tuple"), none, (.seq #[(.ref 28), (.int 0 260), (.int 0 261)] 0), #[]⟩) ::
 (nat_lit 53, ⟨(.type "tuple"), none, (.seq #[(.ref 42), (.int 2 263), (.int 2 264)] 0), #[]⟩) ::
 (nat_lit 54, ⟨(.type "tuple"), none, (.seq #[.none, (.int 3 266), (.int 3 267)] 0), #[]⟩) ::
 (nat_lit 55, ⟨(.type "tuple"), none, (.seq #[(.ref 28), (.int 2 269), (.int 2 270)] 0), #[]⟩) ::
 (nat_lit 56, ⟨(.type "tuple"), none, (.seq #[(.ref 28), (.int 1 272), (.int 1 273)] 0), #[]⟩) ::
 (nat_lit 57, ⟨(.type "tuple"), none, (.seq #[.none, (.int 1 275), (.int 1 276)] 0), #[]⟩) ::
 (nat_lit 58, ⟨(.type "tuple"), none, (.seq #[.none, (.int 0 278), (.int 0 279)] 0), #[]⟩) ::
 (nat_lit 59, ⟨(.type "tuple"), none, (.seq #[.none, (.int 1 281), (.int 6 282)] 0), #[]⟩) ::
 (nat_lit 60, ⟨(.type "tuple"), none, (.seq #[(.ref 49), (.int 1 284), (.int 1 285)] 0), #[]⟩) ::
 (nat_lit 61, ⟨(.type "tuple"), none, (.seq #[(.ref 28), (.int 0 287), (.int 6 288)] 0), #[]⟩) ::
 (nat_lit 62, eT) ::
 (nat_lit 64, ⟨(.type "tuple"), none, (.seq #[(.str "word" 304)] 0), #[]⟩) ::
 (nat_lit 65, eT) ::
 (nat_lit 67, eC "expression_rule" 301 302 303 23 1 3 62 63 (.ref 64) (.ref 65) 66 305 306) ::
 (nat_lit 68, eF "expression_rule" 15 67) ::
 (nat_lit 69, eT) ::
 (nat_lit 72, eC "is_node" 308 309 310 25 2 3 69 70 .none .none 71 311 312) ::
 (nat_lit 73, eF "is_node" 16 72) ::
 (nat_lit 74, eT) ::
 (nat_lit 76, ⟨(.type "tuple"), none, (.seq #[(.str "thing" 317), (.str "rule_of" 318), (.str "waiting" 319), (.str "node" 320)] 0), #[]⟩) ::
 (nat_lit 77, eT) ::
 (nat_lit 79, eC "is_tree" 314 315 316 38 2 3 74 75 (.ref 76) (.ref 77) 78 321 322) ::
 (nat_lit 80, eF "is_tree" 17 79) ::
 (nat_lit 81, eT) ::
 (nat_lit 83, ⟨(.type "tuple"), none, (.seq #[(.str "e" 327), (.str "lets" 328), (.str "deed" 329), (.str "node" 330)] 0), #[]⟩) ::
 (nat_lit 84, eT) ::
 (nat_lit 86, eC "sets_bound" 324 325 326 46 1 3 81 82 (.ref 83) (.ref 84) 85 331 332) ::
 (nat_lit 87, eF "sets_bound" 18 86) ::
 (nat_lit 88, eT) ::
 (nat_lit 90, ⟨(.type "tuple"), none, (.seq #[(.str "thing" 337)] 0), #[]⟩) ::
 (nat_lit 91, eT) ::
 (nat_lit 93, eC "is_expression" 334 335 336 56 1 3 88 89 (.ref 90) (.ref 91) 92 338 339) ::
 (nat_lit 94, eF "is_expression" 19 93) ::
 (nat_lit 95, eT) ::
 (nat_lit 98, eC "parts" 341 342 343 58 1 3 95 96 .none .none 97 344 345) ::
 (nat_lit 99, eF "parts" 20 98) ::
 (nat_lit 100, eT) ::
 (nat_lit 103, eC "steps" 347 348 349 60 1 3 100 101 .none .none 102 350 351) ::
 (nat_lit 104, eF "steps" 21 103) ::
 (nat_lit 105, eT) ::
 (nat_lit 107, ⟨(.type "tuple"), none, (.seq #[(.str "_law_script" 358)] 0), #[]⟩) ::
 (nat_lit 108, eT) ::
 (nat_lit 110, eC "_law_feed" 355 356 357 73 1 3 105 106 (.ref 107) (.ref 108) 109 359 360) ::
 (nat_lit 111, ⟨(.type "function"), none, (.func (PySem.W.fnOf "_law_feed" "_law_feed" (Z0q (top 23)) (Z0n (top 23)) (Z03 (top 23)) .none .none .none (.str "law_likepieces_k02_expressions_known" 353) none (.ref 110) .none)), #[]⟩) ::
 (nat_lit 112, eT) ::
 (nat_lit 114, ⟨(.type "tuple"), none, (.seq #[(.str "_law_feed_here" 365), (.str "_law_many" 366), (.str "_law_found" 367), (.str "_law_at" 368), (.str "_law_cell" 369), (.str "_law_number" 370)] 0), #[]⟩) ::
 (nat_lit 115, eT) ::
 (nat_lit 117, eC "_law_draw" 362 363 364 75 2 3 112 113 (.ref 114) (.ref 115) 116 371 372) ::
 (nat_lit 118, ⟨(.type "function"), none, (.func (PySem.W.fnOf "_law_draw" "_law_draw" (Z0q (top 24)) (Z0n (top 24)) (Z03 (top 24)) .none .none .none (.str "law_likepieces_k02_expressions_known" 353) none (.ref 117) .none)), #[]⟩) ::
 (nat_lit 119, eT) ::
 (nat_lit 121, ⟨(.type "tuple"), none, (.seq #[(.str "_law_feed_here" 377), (.str "_law_some" 378)] 0), #[]⟩) ::
 (nat_lit 122, eT) ::
 (nat_lit 124, eC "_law_one" 374 375 376 92 2 3 119 120 (.ref 121) (.ref 122) 123 379 380) ::
 (nat_lit 125, ⟨(.type "function"), none, (.func (PySem.W.fnOf "_law_one" "_law_one" (Z0q (top 25)) (Z0n (top 25)) (Z03 (top 25)) .none .none .none (.str "law_likepieces_k02_expressions_known" 353) none (.ref 124) .none)), #[]⟩) ::
 (nat_lit 126, eT) ::
 (nat_lit 128, ⟨(.type "tuple"), none, (.seq #[(.str "_law_feed_here" 385), (.str "_law_way" 386)] 0), #[]⟩) ::
 (nat_lit 129, eT) ::
 (nat_lit 131, eC "_law_value" 382 383 384 94 1 3 126 127 (.ref 128) (.ref 129) 130 387 388) ::
 (nat_lit 132, ⟨(.type "function"), none, (.func (PySem.W.fnOf "_law_value" "_law_value" (Z0q (top 26)) (Z0n (top 26)) (Z03 (top 26)) .none .none .none (.str "law_likepieces_k02_expressions_known" 353) none (.ref 131) .none)), #[]⟩) ::
 (nat_lit 133, eT) ::
 (nat_lit 135, ⟨(.type "tuple"), none, (.seq #[(.str "_law_number" 393), (.str "_law_long" 394), (.str "_law_word" 395), (.str "_law_k" 396)] 0), #[]⟩) ::
 (nat_lit 136, eT) ::
 (nat_lit 138, eC "_law_spelled" 390 391 392 101 2 3 133 134 (.ref 135) (.ref 136) 137 397 398) ::
 (nat_lit 139, ⟨(.type "function"), none, (.func (PySem.W.fnOf "_law_spelled" "_law_spelled" (Z0q (top 27)) (Z0n (top 27)) (Z03 (top 27)) .none .none .none (.str "law_likepieces_k02_expressions_known" 353) none (.ref 138) .none)), #[]⟩) ::
 (nat_lit 140, eT) ::
 (nat_lit 142, eT) ::
 (nat_lit 143, eT) ::
 (nat_lit 145, eC "_law_words" 400 401 402 107 0 3 140 141 (.ref 142) (.ref 143) 144 403 404) ::
 (nat_lit 146, ⟨(.type "function"), none, (.func (PySem.W.fnOf "_law_words" "_law_words" (Z0q (top 28)) (Z0n (top 28)) (Z03 (top 28)) .none .none .none (.str "law_likepieces_k02_expressions_known" 353) none (.ref 145) .none)), #[]⟩) ::
 (nat_lit 147, eT) ::
 (nat_lit 150, eC "_law_name" 406 407 408 109 2 3 147 148 .none .none 149 409 410) ::
 (nat_lit 151, ⟨(.type "function"), none, (.func (PySem.W.fnOf "_law_name" "_law_name" (Z0q (top 29)) (Z0n (top 29)) (Z03 (top 29)) .none .none .none (.str "law_likepieces_k02_expressions_known" 353) none (.ref 150) .none)), #[]⟩) ::
 (nat_lit 152, eT) ::
 (nat_lit 154, ⟨(.type "tuple"), none, (.seq #[(.str "_law_feed_here" 415), (.str "_law_many" 416), (.str "_law_names_here" 417), (.str "_law_k" 418)] 0), #[]⟩) ::
 (nat_lit 155, eT) ::
 (nat_lit 157, eC "_law_names" 412 413 414 132 2 3 152 153 (.ref 154) (.ref 155) 156 419 420) ::
 (nat_lit 158, ⟨(.type "function"), none, (.func (PySem.W.fnOf "_law_names" "_law_names" (Z0q (top 30)) (Z0n (top 30)) (Z03 (top 30)) .none .none .none (.str "law_likepieces_k02_expressions_known" 353) none (.ref 157) .none)), #[]⟩) ::
 (nat_lit 159, eT) ::
 (nat_lit 162, eC "_law_parts" 422 423 424 137 1 3 159 160 .none .none 161 425 426) ::
 (nat_lit 163, ⟨(.type "function"), none, (.func (PySem.W.fnOf "_law_parts" "_law_parts" (Z0q (top 31)) (Z0n (top 31)) (Z03 (top 31)) .none .none .none (.str "law_likepieces_k02_expressions_known" 353) none (.ref 162) .none)), #[]⟩) ::
 (nat_lit 164, eT) ::
 (nat_lit 167, eC "_law_with" 428 429 430 139 2 3 164 165 .none .none 166 431 432) ::
 (nat_lit 168, ⟨(.type "function"), none, (.func (PySem.W.fnOf "_law_with" "_law_with" (Z0q (top 32)) (Z0n (top 32)) (Z03 (top 32)) .none .none .none (.str "law_likepieces_k02_expressions_known" 353) none (.ref 167) .none)), #[]⟩) ::
 (nat_lit 169, eT) ::
 (nat_lit 171, ⟨(.type "tuple"), none, (.seq #[(.str "_law_feed_here" 437), (.str "_law_world_here" 438), (.str "_law_bound" 439), (.str "_law_way" 440)] 0), #[]⟩) ::
 (nat_lit 172, eT) ::
 (nat_lit 174, eC "_law_leaf" 434 435 436 141 3 3 169 170 (.ref 171) (.ref 172) 173 441 442) ::
 (nat_lit 175, ⟨(.type "function"), none, (.func (PySem.W.fnOf "_law_leaf" "_law_leaf" (Z0q (top 33)) (Z0n (top 33)) (Z03 (top 33)) .none .none .none (.str "law_likepieces_k02_expressions_known" 353) none (.ref 174) .none)), #[]⟩) ::
 (nat_lit 176, eT) ::
 (nat_lit 179, eC "_law_expr" 444 445 446 150 4 3 176 177 .none .none 178 447 448) ::
 (nat_lit 180, ⟨(.type "function"), none, (.func (PySem.W.fnOf "_law_expr" "_law_expr" (Z0q (top 34)) (Z0n (top 34)) (Z03 (top 34)) .none .none .none (.str "law_likepieces_k02_expressions_known" 353) none (.ref 179) .none)), #[]⟩) ::
 (nat_lit 181, eT) ::
 (nat_lit 183, ⟨(.type "tuple"), none, (.seq #[(.str "_law_feed_here" 453), (.str "_law_room" 454), (.str "_law_names_here" 455), (.str "_law_lets" 456), (.str "_law_k" 457), (.str "_law_calls" 458)] 0), #[]⟩) ::
 (nat_lit 184, eT) ::
 (nat_lit 186, eC "_law_world" 450 451 452 175 2 3 181 182 (.ref 183) (.ref 184) 185 459 460) ::
 (nat_lit 187, ⟨(.type "function"), none, (.func (PySem.W.fnOf "_law_world" "_law_world" (Z0q (top 35)) (Z0n (top 35)) (Z03 (top 35)) .none .none .none (.str "law_likepieces_k02_expressions_known" 353) none (.ref 186) .none)), #[]⟩) ::
 (nat_lit 188, eT) ::
 (nat_lit 191, eC "_law_is_name" 462 463 464 183 1 3 188 189 .none .none 190 465 466) ::
 (nat_lit 192, ⟨(.type "function"), none, (.func (PySem.W.fnOf "_law_is_name" "_law_is_name" (Z0q (top 36)) (Z0n (top 36)) (Z03 (top 36)) .none .none .none (.str "law_likepieces_k02_expressions_known" 353) none (.ref 191) .none)), #[]⟩) ::
 (nat_lit 193, eT) ::
 (nat_lit 195, ⟨(.type "tuple"), none, (.seq #[(.str "_law_thing" 471), (.str "_law_most" 472)] 0), #[]⟩) ::
 (nat_lit 196, eT) ::
 (nat_lit 198, eC "_law_whole" 468 469 470 187 2 3 193 194 (.ref 195) (.ref 196) 197 473 474) ::
 (nat_lit 199, ⟨(.type "function"), none, (.func (PySem.W.fnOf "_law_whole" "_law_whole" (Z0q (top 37)) (Z0n (top 37)) (Z03 (top 37)) .none .none .none (.str "law_likepieces_k02_expressions_known" 353) none (.ref 198) .none)), #[]⟩) ::
 (nat_lit 200, eT) ::
 (nat_lit 203, eC "_law_is" 476 477 478 189 2 3 200 201 .none .none 202 479 480) ::
 (nat_lit 204, ⟨(.type "function"), none, (.func (PySem.W.fnOf "_law_is" "_law_is" (Z0q (top 38)) (Z0n (top 38)) (Z03 (top 38)) .none .none .none (.str "law_likepieces_k02_expressions_known" 353) none (.ref 203) .none)), #[]⟩) ::
 (nat_lit 205, eT) ::
 (nat_lit 208, eC "_law_all_paths" 482 483 484 212 1 3 205 206 .none .none 207 485 486) ::
 (nat_lit 209, ⟨(.type "function"), none, (.func (PySem.W.fnOf "_law_all_paths" "_law_all_paths" (Z0q (top 39)) (Z0n (top 39)) (Z03 (top 39)) .none .none .none (.str "law_likepieces_k02_expressions_known" 353) none (.ref 208) .none)), #[]⟩) ::
 (nat_lit 210, eT) ::
 (nat_lit 212, ⟨(.type "tuple"), none, (.seq #[(.str "_law_e" 491), (.str "_law_path" 492), (.str "_law_other" 493), (.str "_law_some" 494)] 0), #[]⟩) ::
 (nat_lit 213, eT) ::
 (nat_lit 215, eC "_law_swapped" 488 489 490 217 3 3 210 211 (.ref 212) (.ref 213) 214 495 496) ::
 (nat_lit 216, ⟨(.type "function"), none, (.func (PySem.W.fnOf "_law_swapped" "_law_swapped" (Z0q (top 40)) (Z0n (top 40)) (Z03 (top 40)) .none .none .none (.str "law_likepieces_k02_expressions_known" 353) none (.ref 215) .none)), #[]⟩) ::
 (nat_lit 217, eT) ::
 (nat_lit 219, ⟨(.type "tuple"), none, (.seq #[(.str "_law_feed_here" 501), (.str "_law_name_here" 502), (.str "_law_some" 503)] 0), #[]⟩) ::
 (nat_lit 220, eT) ::
 (nat_lit 222, eC "_law_odd" 498 499 500 223 2 3 217 218 (.ref 219) (.ref 220) 221 504 505) ::
 (nat_lit 223, ⟨(.type "function"), none, (.func (PySem.W.fnOf "_law_odd" "_law_odd" (Z0q (top 41)) (Z0n (top 41)) (Z03 (top 41)) .none .none .none (.str "law_likepieces_k02_expressions_known" 353) none (.ref 222) .none)), #[]⟩) ::
 (nat_lit 224, eT) ::
 (nat_lit 227, eC "_law_bent" 507 508 509 226 3 3 224 225 .none .none 226 510 511) ::
 (nat_lit 228, ⟨(.type "function"), none, (.func (PySem.W.fnOf "_law_bent" "_law_bent" (Z0q (top 42)) (Z0n (top 42)) (Z03 (top 42)) .none .none .none (.str "law_likepieces_k02_expressions_known" 353) none (.ref 227) .none)), #[]⟩) ::
 (nat_lit 229, eT) ::
 (nat_lit 231, ⟨(.type "tuple"), none, (.seq #[(.str "_law_feed_here" 516), (.str "_law_e" 517), (.str "_law_k" 518)] 0), #[]⟩) ::
 (nat_lit 232, eT) ::
 (nat_lit 234, eC "_law_within" 513 514 515 250 2 3 229 230 (.ref 231) (.ref 232) 233 519 520) ::
 (nat_lit 235, ⟨(.type "function"), none, (.func (PySem.W.fnOf "_law_within" "_law_within" (Z0q (top 43)) (Z0n (top 43)) (Z03 (top 43)) .none .none .none (.str "law_likepieces_k02_expressions_known" 353) none (.ref 234) .none)), #[]⟩) ::
 (nat_lit 236, eT) ::
 (nat_lit 239, eC "_law_wide" 522 523 524 254 2 3 236 237 .none .none 238 525 526) ::
 (nat_lit 240, ⟨(.type "function"), none, (.func (PySem.W.fnOf "_law_wide" "_law_wide" (Z0q (top 44)) (Z0n (top 44)) (Z03 (top 44)) .none .none .none (.str "law_likepieces_k02_expressions_known" 353) none (.ref 239) .none)), #[]⟩) ::
 (nat_lit 241, eT) ::
 (nat_lit 243, ⟨(.type "tuple"), none, (.seq #[(.str "_law_thing" 531), (.str "_law_found" 532)] 0), #[]⟩) ::
 (nat_lit 244, eT) ::
 (nat_lit 246, eC "_law_right" 528 529 530 261 1 3 241 242 (.ref 243) (.ref 244) 245 533 534) ::
 (nat_lit 247, ⟨(.type "function"), none, (.func (PySem.W.fnOf "_law_right" "_law_right" (Z0q (top 45)) (Z0n (top 45)) (Z03 (top 45)) .none .none .none (.str "law_likepieces_k02_expressions_known" 353) none (.ref 246) .none)), #[]⟩) ::
 (nat_lit 248, eT) ::
 (nat_lit 250, ⟨(.type "tuple"), none, (.seq #[(.str "_law_script" 539), (.str "_law_feed_here" 540), (.str "_law_world_here" 541), (.str "_law_e" 542), (.str "_law_some" 543), (.str "_law_turn" 544), (.str "_law_path" 545), (.str "_law_here" 546), (.str "_law_thing" 547)] 0), #[]⟩) ::
 (nat_lit 251, eT) ::
 (nat_lit 253, eC "law" 536 537 538 264 1 3 248 249 (.ref 250) (.ref 251) 252 548 549) ::
 (nat_lit 254, ⟨(.type "function"), none, (.func (PySem.W.fnOf "law" "law" (Z0q (top 46)) (Z0n (top 46)) (Z03 (top 46)) .none .none .none (.str "law_likepieces_k02_expressions_known" 353) none (.ref 253) .none)), #[]⟩) :: []
def hdA : List Addr := [2, 3, 15, 16, 17, 19, 20, 22, 23, 24, 27, 28, 29, 31, 32, 34, 35, 36, 38, 39, 41, 42, 43, 45, 46, 48, 49, 50, 51, 52, 53, 54, 55, 56, 57, 58, 59, 60, 61, 62, 64, 65, 67, 68, 69, 72, 73, 74, 76, 77, 79, 80, 81, 83, 84, 86, 87, 88, 90, 91, 93, 94, 95, 98, 99, 100, 103, 104, 105, 107, 108, 110, 111, 112, 114, 115, 117, 118, 119, 121, 122, 124, 125, 126, 128, 129, 131, 132, 133, 135, 136, 138, 139, 140, 142, 143, 145, 146, 147, 150, 151, 152, 154, 155, 157, 158, 159, 162, 163, 164, 167, 168, 169, 171, 172, 174, 175, 176, 179, 180, 181, 183, 184, 186, 187, 188, 191, 192, 193, 195, 196, 198, 199, 200, 203, 204, 205, 208, 209, 210, 212, 213, 215, 216, 217, 219, 220, 222, 223, 224, 227, 228, 229, 231, 232, 234, 235, 236, 239, 240, 241, 243, 244, 246, 247, 248, 250, 251, 253, 254]
abbrev hdL : List Str := ["RULES"]
abbrev hdN : Nat := 2888
abbrev hdH : PySem.W.Hook := PySem.W.kHook hdK hdA (fun _ => by kernel_rfl)
theorem hdS : PySem.Challenge.rw_likepieces_k02_expressions_known.wellSaid = true := by decide +kernel
set_option maxHeartbeats 0 in
open PySem.W.Fast in
theorem hdT : PySem.W.LeftO (PySem.Challenge.rw_likepieces_k02_expressions_known).row.toRowW.prog hdQ hdL (fun s => PySem.W.xlAt hdQ [] s && PySem.W.recOk (PySem.W.RowW.records (PySem.Challenge.rw_likepieces_k02_expressions_known).row.toRowW) s) (PySem.W.Hook.obs hdH) (PySem.W.Hook.val hdH) hdN := by
 refine PySem.W.LeftO.of_split "special-get-raises" ?_
 intro w
 unfold PySem.W.fencedOpening PySem.W.topFrom
 rw [te10274390034422433532, te1435165496053646825, te14289696077712309145, te14082659384304107361, te4187177175401517315, te14364793385576792824, te8920871248978507458, te5923862056798008813]
 kernel_rfl
end K02
namespace L2
open PySem PySem.Spec PyProof.Rows
abbrev Key := Sum Int Str
def Zbl : Key -> Value -> Bool
 | .inl k, v => Value.isInt k v
 | .inr x, v => Value.isStrOf x v
def Zny (w : World) : Key -> Int
 | .inl k => hashInt k
 | .inr x => hashStr w x
theorem Z15 : ∀ {k : Key} {v : Value}, Zbl k v = true -> (∃ i t, k = Sum.inl i /\ v = Value.int i t) ∨ (∃ x t, k = Sum.inr x /\ v = Value.str x t)
 | .inl i, v, h => by
  obtain ⟨t, e⟩ := Value.isInt_shape (k := i) (v := v) h
  exact .inl ⟨i, t, rfl, e⟩
 | .inr x, v, h => by
  obtain ⟨t, e⟩ := Value.isStrOf_shape (x := x) (v := v) h
  exact .inr ⟨x, t, rfl, e⟩
theorem Zce (i : Int) (t : Tok) : Zbl (.inl i) (.int i t) = true := by simp [Zbl, Value.isInt]
theorem Zcf (x : Str) (t : Tok) : Zbl (.inr x) (.str x t) = true := by simp [Zbl, Value.isStrOf]
theorem Zk2 (a b : Int) : decide ((Sum.inl a : Key) = Sum.inl b) = (a == b) := by
 by_cases e : a = b
 ·subst e; simp
 ·have h : ¬ (Sum.inl a : Key) = Sum.inl b := fun q => e (Sum.inl.inj q)
  rw [decide_eq_false h]
  exact (beq_eq_false_iff_ne.mpr e).symm
theorem Zk3 (a b : Str) : decide ((Sum.inr a : Key) = Sum.inr b) = decide (a = b) := by
 by_cases e : a = b
 ·subst e; simp
 ·have h : ¬ (Sum.inr a : Key) = Sum.inr b := fun q => e (Sum.inr.inj q)
  rw [decide_eq_false h, decide_eq_false e]
theorem Zk4 (a : Int) (b : Str) : decide ((Sum.inl a : Key) = Sum.inr b) = false := decide_eq_false (fun q => nomatch q)
theorem Zk5 (a : Str) (b : Int) : decide ((Sum.inr a : Key) = Sum.inl b) = false := decide_eq_false (fun q => nomatch q)
def Z0x (prog : Program) (w : World) : PySem.KeyKind prog w Key where
 is := Zbl
 hash := Zny w
 inj := fun v a b ha hb => by
  rcases Z15 ha with ⟨i, t, rfl, rfl⟩ | ⟨x, t, rfl, rfl⟩
  ·rcases Z15 hb with ⟨j, u, rfl, e⟩ | ⟨y, u, rfl, e⟩
   ·injection e with e1 _; rw [e1]
   ·exact nomatch e
  ·rcases Z15 hb with ⟨j, u, rfl, e⟩ | ⟨y, u, rfl, e⟩
   ·exact nomatch e
   ·injection e with e1 _; rw [e1]
 byValue := fun k v h => by
  rcases Z15 h with ⟨i, t, rfl, rfl⟩ | ⟨x, t, rfl, rfl⟩ <;> rfl
 pyHash := fun hv h => by
  rcases Z15 hv with ⟨i, t, rfl, rfl⟩ | ⟨x, t, rfl, rfl⟩
  ·exact wpAny_pyHash_int h
  ·exact wpAny_pyHash_str h
 eqBool := fun hu hv h => by
  rcases Z15 hu with ⟨i, t, rfl, rfl⟩ | ⟨x, t, rfl, rfl⟩
  ·rcases Z15 hv with ⟨j, u, rfl, rfl⟩ | ⟨y, u, rfl, rfl⟩
   ·rw [Zk2] at h; exact wpAny_eqBool_int h
   ·rw [Zk4] at h; exact SeqAt.EqAt.int_str i t y u _ _ _ _ h
  ·rcases Z15 hv with ⟨j, u, rfl, rfl⟩ | ⟨y, u, rfl, rfl⟩
   ·rw [Zk5] at h; exact SeqAt.EqAt.str_int x t j u _ _ _ _ h
   ·rw [Zk3] at h; exact wpAny_eqBool_str h
 «strs» := fun k x t v h => by
  rcases Z15 h with ⟨i, u, rfl, e⟩ | ⟨y, u, rfl, e⟩
  ·exact nomatch e
  ·injection e with e1 _
   subst e1
   cases v <;> rfl
theorem Z9a (prog : Program) (w : World) (i : Int) (t : Tok) : (Z0x prog w).is (.inl i) (.int i t) = true := Zce i t
theorem Z3z (prog : Program) (w : World) (x : Str) (t : Tok) : (Z0x prog w).is (.inr x) (.str x t) = true := Zcf x t
inductive V where
 | non | bl (b : Bool) | int (i : Int) | str (x : Str) | byt (b : Array UInt8) | flt (b : UInt64) | ref (a : Addr) | ty (n : String)
 deriving DecidableEq
def RelV : V -> Value -> Prop
 | .non, u => u = Value.none
 | .bl b, u => u = Value.bool b
 | .int i, u => ∃ t, u = Value.int i t
 | .str x, u => ∃ t, u = Value.str x t
 | .byt b, u => ∃ t, u = Value.bytes b t
 | .flt b, u => ∃ t, u = Value.float b t
 | .ref a, u => u = Value.ref a
 | .ty n, u => u = Value.type n
abbrev Vals : List V -> List Value -> Prop := Paired RelV
theorem Vals.length {xs : List V} {us : List Value} (r : Vals xs us) : xs.length = us.length := Paired.length r
theorem Vals.get : ∀ {xs : List V} {us : List Value} {i : Nat} {x : V}, Vals xs us -> xs[i]? = some x -> ∃ u, us[i]? = some u /\ RelV x u
 | _, _, _, _, .nil, e => by simp at e
 | _, _, 0, _, .cons r _, e => by simp at e; subst e; exact ⟨_, rfl, r⟩
 | _, _, i + 1, x, .cons _ t, e => by
  obtain ⟨u, h1, h2⟩ := Vals.get (i := i) (x := x) t (by simpa using e)
  exact ⟨u, by simpa using h1, h2⟩
theorem Vals.set {x : V} {u : Value} (r : RelV x u) : ∀ {xs : List V} {us : List Value} (i : Nat), Vals xs us -> Vals (xs.set i x) (us.set i u)
 | _, _, _, .nil => .nil
 | _, _, 0, .cons _ t => .cons r t
 | _, _, i + 1, .cons q t => .cons q (Vals.set r i t)
theorem Vals.append : ∀ {xs ys : List V} {us ws : List Value}, Vals xs us -> Vals ys ws -> Vals (xs ++ ys) (us ++ ws)
 | _, _, _, _, .nil, s => s
 | _, _, _, _, .cons r t, s => .cons r (Vals.append t s)
theorem Vals.take : ∀ {xs : List V} {us : List Value} (n : Nat), Vals xs us -> Vals (xs.take n) (us.take n)
 | _, _, 0, _ => .nil
 | _, _, _ + 1, .nil => .nil
 | _, _, n + 1, .cons r t => .cons r (Vals.take n t)
theorem Vals.drop : ∀ {xs : List V} {us : List Value} (n : Nat), Vals xs us -> Vals (xs.drop n) (us.drop n)
 | _, _, 0, r => r
 | _, _, _ + 1, .nil => .nil
 | _, _, n + 1, .cons _ t => Vals.drop n t
def RelO : Option V -> Option Value -> Prop
 | some v, some u => RelV v u
 | none, none => True
 | _, _ => False
def KV {κ : Type} : List (κ × V) -> List (κ × Value) -> Prop := Paired fun (p : κ × V) (q : κ × Value) => p.1 = q.1 /\ RelV p.2 q.2
def kV : Key -> V
 | .inl i => .int i
 | .inr x => .str x
inductive HO where
 | lst (xs : List V)
 | tup (xs : List V)
 | dK (kvs : List (Key × V)) | dT (kvs : List (List Key × V))
 | set (S : Int -> Bool) (n : Nat)
 | ins (C dx : Addr) (fs : List (Str × V))
 | own (x : Addr)
 | xd (fs : List (Str × V))
 | met (f x : Addr)
 | rng (lo hi : Int)
 | frz (o : Obj) (u : HO)
 | tbl (ps : Array Value)
 | ext (φ : Heap -> Prop)
abbrev Hp := Addr -> Option HO
def upd (H : Hp) (a : Addr) (o : HO) : Hp := fun b => if b = a then some o else H b
theorem Z00 {H : Hp} {a : Addr} {o : HO} : upd H a o a = some o := by unfold upd; rw [if_pos rfl]
theorem Z0a {H : Hp} {a b : Addr} {o : HO} (h : b ≠ a) : upd H a o b = H b := by unfold upd; rw [if_neg h]
theorem Zi1 {H : Hp} {a : Addr} {o u : HO} : upd (upd H a o) a u = upd H a u := by
 funext b; unfold upd; split <;> rfl
theorem Z4r {H : Hp} {a b : Addr} {o u : HO} (h : H a = some o) (h' : H b = some u) (d : o ≠ u) : a ≠ b := by
 intro e; subst e; rw [h] at h'; exact d (Option.some.inj h')
theorem Z0h {H : Hp} {a b : Addr} {o : HO} (h : H a = some o) (h' : H b = none) : a ≠ b := by
 intro e; subst e; rw [h] at h'; cases h'
section
variable (P : Program) (w : World)
def ObjOk (H : Hp) (h : Heap) (a : Addr) : HO -> Prop
 | .lst xs => xs.length <= sizeLine /\ ∃ (its : List Value) (n : Nat), Vals xs its /\ h.get? a = some { cls := .type "list", data := .seq its.toArray n }
 | .tup xs => xs.length <= sizeLine /\ ∃ its : List Value, Vals xs its /\ IsTup h a its.toArray
 | .dK kvs => kvs.length <= sizeLine /\ (a == sysModules) = false /\ ∃ vs, KV kvs vs /\ h.DictOf (Z0x P w) a vs
 | .dT kvs => kvs.length <= sizeLine /\ (a == sysModules) = false /\ ∃ xs : List (List Key × Addr × Value),
   Paired (fun (p : List Key × V) (q : List Key × Addr × Value) => p.1 = q.1 /\ H q.2.1 = some (.tup (p.1.map kV)) /\ RelV p.2 q.2.2) kvs xs ∧
   ∃ o es ep, h.get? a = some o /\ o.ExactDict /\ o.data = .dict es ep /\ es.toList = xs.map (entryOfKey (tupleKind (Z0x P w))) /\ (xs.map (·.1)).Nodup
 | .set S n => h.SetOf (intKind P w) a S n
 | .ins C dx fs => H dx = some (.own a) /\ fs.length <= 1000 /\ dx ≠ a /\ h.get? a = some (PySem.W.instObj C dx) ∧
   ∃ mA, h.Ns1 dx mA /\ (∀ f, RelO (fs.lookup f) (mA f)) /\ PySem.Within mA (fs.map (·.1))
 | .own _ => ∃ o, h.get? a = some o
 | .xd fs => ∃ mA, h.Ns1 a mA /\ ∀ f, RelO (fs.lookup f) (mA f)
 | .rng lo hi => ∃ t u v, h.get? a = some { cls := .type "range", data := .fields #[.int lo t, .int hi u, .int 1 v] }
 | .frz o u => h.get? a = some o /\ ObjOk H h a u
 | .tbl ps => h.get? a = some { cls := .none, data := .fields ps }
 | .met f x => h.get? a = some (PySem.W.methodObj (.ref f) (.ref x))
 | .ext φ => φ h /\ (∃ o, h.get? a = some o) /\ ∀ h1 h2 : Heap, φ h1 -> (∀ o, h1.get? a = some o -> h2.get? a = some o) -> φ h2
def HOk (H : Hp) (h : Heap) : Prop := ∀ a o, H a = some o -> ObjOk P w H h a o
end
section
variable {P : Program} {w : World} {H H' : Hp} {h h' : Heap} {a : Addr} {o : HO}
theorem ObjOk.lt (x : ObjOk P w H h a o) : a < h.objs.size := by
 cases o with
 | lst xs => obtain ⟨_, _, _, _, e⟩ := x; exact Heap.lt_size e
 | tup xs => obtain ⟨_, _, _, p⟩ := x; exact p.lt
 | dK kvs => obtain ⟨_, _, _, _, o, _, _, e, _⟩ := x; exact Heap.lt_size e
 | dT kvs => obtain ⟨_, _, _, _, o, _, _, e, _⟩ := x; exact Heap.lt_size e
 | set S n => obtain ⟨o, _, _, _, e, _⟩ := x; exact Heap.lt_size e
 | ins C dx fs => obtain ⟨_, _, _, e, _⟩ := x; exact Heap.lt_size e
 | own y => obtain ⟨_, e⟩ := x; exact Heap.lt_size e
 | xd fs => obtain ⟨_, ⟨_, _, _, e, _⟩, _⟩ := x; exact Heap.lt_size e
 | rng lo hi => obtain ⟨_, _, _, e⟩ := x; exact Heap.lt_size e
 | frz ob u => obtain ⟨e, _⟩ := x; exact Heap.lt_size e
 | tbl ps => exact Heap.lt_size (show h.get? a = some _ from x)
 | met f y => exact Heap.lt_size (show h.get? a = some _ from x)
 | ext φ => obtain ⟨_, ⟨_, e⟩, _⟩ := x; exact Heap.lt_size e
theorem Paired.mapP {α β : Type} {F G : α -> β -> Prop} : ∀ {l₁ : List α} {l₂ : List β}, Paired F l₁ l₂ -> (∀ a b, F a b -> G a b) -> Paired G l₁ l₂
 | _, _, .nil, _ => .nil
 | _, _, .cons r t, f => .cons (f _ _ r) (Paired.mapP t f)
theorem ObjOk.stay (x : ObjOk P w H h a o) (k : ∀ b u, (b = a ∨ H b = some (.own a)) -> h.get? b = some u -> h'.get? b = some u)
  (ho : ∀ b, H b = some (.own a) -> H' b = some (.own a)) (ht : ∀ b xs, H b = some (.tup xs) -> H' b = some (.tup xs)) : ObjOk P w H' h' a o := by
 induction o with
 | lst xs => obtain ⟨z, its, n, r, e⟩ := x; exact ⟨z, its, n, r, k _ _ (.inl rfl) e⟩
 | tup xs => obtain ⟨z, its, r, ob, e, c⟩ := x; exact ⟨z, its, r, ob, k _ _ (.inl rfl) e, c⟩
 | dK kvs => obtain ⟨z, y, vs, r, ob, es, ep, e, c⟩ := x; exact ⟨z, y, vs, r, ob, es, ep, k _ _ (.inl rfl) e, c⟩
 | dT kvs =>
  obtain ⟨z, y, xs, r, ob, es, ep, e, c⟩ := x
  exact ⟨z, y, xs, Paired.mapP r fun p q z => ⟨z.1, ht _ _ z.2.1, z.2.2⟩, ob, es, ep, k _ _ (.inl rfl) e, c⟩
 | set S n => obtain ⟨ob, es, ep, t, e, c⟩ := x; exact ⟨ob, es, ep, t, k _ _ (.inl rfl) e, c⟩
 | ins C dx fs =>
  obtain ⟨d, z, ne, e, mA, ⟨od, es, ep, e2, c⟩, r⟩ := x
  exact ⟨ho _ d, z, ne, k _ _ (.inl rfl) e, mA, ⟨od, es, ep, k _ _ (.inr d) e2, c⟩, r⟩
 | own y => obtain ⟨ob, e⟩ := x; exact ⟨ob, k _ _ (.inl rfl) e⟩
 | xd fs => obtain ⟨mA, ⟨od, es, ep, e, c⟩, r⟩ := x; exact ⟨mA, ⟨od, es, ep, k _ _ (.inl rfl) e, c⟩, r⟩
 | rng lo hi => obtain ⟨t, u, v, e⟩ := x; exact ⟨t, u, v, k _ _ (.inl rfl) e⟩
 | frz ob u ih => obtain ⟨e, q⟩ := x; exact ⟨k _ _ (.inl rfl) e, ih q⟩
 | tbl ps =>
  have e : h.get? a = some { cls := .none, data := .fields ps } := x
  show h'.get? a = some { cls := .none, data := .fields ps }
  exact k a _ (.inl rfl) e
 | met f y =>
  have e : h.get? a = some (PySem.W.methodObj (.ref f) (.ref y)) := x
  show h'.get? a = some (PySem.W.methodObj (.ref f) (.ref y))
  exact k a _ (.inl rfl) e
 | ext φ => obtain ⟨p, ⟨o, e⟩, st⟩ := x; exact ⟨st _ _ p fun o q => k _ _ (.inl rfl) q, ⟨o, k _ _ (.inl rfl) e⟩, st⟩
theorem HOk.lt (x : HOk P w H h) (e : H a = some o) : a < h.objs.size := (x a o e).lt
theorem HOk.fresh (x : HOk P w H h) (e : h.objs.size <= a) : H a = none := by
 cases q : H a with
 | none => rfl
 | some u => exact absurd (Nat.lt_of_lt_of_le (x.lt q) e) (Nat.lt_irrefl _)
theorem HOk.kept (x : HOk P w H h) (k : ∀ b u, h.get? b = some u -> h'.get? b = some u) : HOk P w H h' := fun a o e =>
 (x a o e).stay (fun b u _ q => k b u q) (fun _ q => q) fun _ _ q => q
theorem HOk.laid (x : HOk P w H h) (k : ∀ b u, h.get? b = some u -> h'.get? b = some u) (hp : h.objs.size <= a) (new : ObjOk P w (upd H a o) h' a o) : HOk P w (upd H a o) h' := fun b u e => by
 have hn := x.fresh hp
 by_cases hb : b = a
 ·subst hb; rw [Z00] at e; cases e; exact new
 ·rw [Z0a hb] at e
  exact (x b u e).stay (fun c v _ q => k c v q) (fun c q => by rw [Z0a (Z0h q hn)]; exact q) fun c xs q => by rw [Z0a (Z0h q hn)]; exact q
end
def Rd (H : Hp) (a : Addr) (u : HO) : Prop := H a = some u ∨ ∃ o, H a = some (.frz o u)
theorem Rd.ok {P : Program} {w : World} {H : Hp} {h : Heap} {a : Addr} {u : HO} (r : Rd H a u) (x : HOk P w H h) : ObjOk P w H h a u := by
 rcases r with r | ⟨o, r⟩
 ·exact x a u r
 ·obtain ⟨_, q⟩ := x a _ r
  exact q
def Mut : Option HO -> Prop
 | some (.lst _) => True
 | some (.dK _) => True
 | some (.dT _) => True
 | some (.set _ _) => True
 | some (.ins _ _ _) => True
 | some (.ext _) => True
 | _ => False
section
variable {P : Program} {w : World} {H : Hp} {h h' : Heap} {x e : Addr} {o' : HO}
theorem HOk.write (ok : HOk P w H h) (mu : Mut (H x)) (he : e = x ∨ H e = some (.own x)) (k : ∀ b u, b ≠ e -> h.get? b = some u -> h'.get? b = some u) (heo : ∃ u, h'.get? e = some u)
  (new : ObjOk P w (upd H x o') h' x o') : HOk P w (upd H x o') h' := fun b u q => by
 have nown : ∀ c y, H c = some (.own y) -> c ≠ x := fun c y r z => by subst z; rw [r] at mu; exact mu
 have ntup : ∀ c xs, H c = some (.tup xs) -> c ≠ x := fun c xs r z => by subst z; rw [r] at mu; exact mu
 by_cases hb : b = x
 ·subst hb; rw [Z00] at q; cases q; exact new
 ·rw [Z0a hb] at q
  by_cases hbe : b = e
  ·have q' : H b = some (.own x) := by
    rcases he with z | z
    ·exact absurd (hbe.trans z) hb
    ·rw [hbe]; exact z
   rw [q] at q'; cases q'
   obtain ⟨v, hv⟩ := heo
   exact ⟨v, by rw [hbe]; exact hv⟩
  ·refine (ok b u q).stay (fun c v hc r => k c v ?_ r) (fun c r => by rw [Z0a (nown c b r)]; exact r) fun c xs r => by rw [Z0a (ntup c xs r)]; exact r
   rcases hc with rfl | hc
   ·exact hbe
   ·rintro rfl
    rcases he with z | z
    ·exact nown c b hc z
    ·rw [hc] at z; cases z; exact hb rfl
end
structure Un (fs ex : List Addr) (H H' : Hp) (h h' : Heap) : Prop where
 keep : ∀ b o, h.get? b = some o -> H b = none -> b ∉ fs -> b ∉ ex -> h'.get? b = some o
 slot : ∀ b o, h.get? b = some o -> H b = none -> b ∈ fs -> b ∉ ex -> ∃ sl, h'.get? b = some { o with slots := sl }
 free : ∀ b o, h.get? b = some o -> H b = none -> b ∉ ex -> H' b = none
 there : ∀ b o, h.get? b = some o -> b ∉ ex -> ∃ o', h'.get? b = some o'
 tups : ∀ b xs, H b = some (.tup xs) -> H' b = some (.tup xs)
 frzs : ∀ b o u, H b = some (.frz o u) -> H' b = some (.frz o u)
 tbls : ∀ b ps, H b = some (.tbl ps) -> ∃ more, H' b = some (.tbl (ps ++ more))
section
variable {fs fs' ex ex' : List Addr} {H H1 H2 : Hp} {h h1 h2 h' : Heap} {a x e : Addr} {o : HO}
theorem Un.any (u : Un fs ex H H1 h h1) {b : Addr} {ob : Obj} (q : h.get? b = some ob) (n : H b = none) (hx : b ∉ ex) : ∃ sl, h1.get? b = some { ob with slots := sl } := by
 by_cases hb : b ∈ fs
 ·exact u.slot b ob q n hb hx
 ·exact ⟨ob.slots, u.keep b ob q n hb hx⟩
theorem Un.kept (k : ∀ b u, h.get? b = some u -> h'.get? b = some u) : Un fs ex H H h h' :=
 ⟨fun b ob q _ _ _ => k b ob q, fun b ob q _ _ _ => ⟨ob.slots, k b ob q⟩, fun _ _ _ n _ => n, fun b ob q _ => ⟨ob, k b ob q⟩, fun _ _ q => q, fun _ _ _ q => q, fun _ ps q => ⟨#[], by rw [q]; simp⟩⟩
theorem Un.refl : Un fs ex H H h h := Un.kept fun _ _ q => q
theorem Un.laid (k : ∀ b u, h.get? b = some u -> h'.get? b = some u) (hp : h.objs.size <= a) (hn : H a = none) : Un fs ex H (upd H a o) h h' where
 keep := fun b u q _ _ _ => k b u q
 slot := fun b u q _ _ _ => ⟨u.slots, k b u q⟩
 free := fun b u q n _ => by rw [Z0a (Nat.ne_of_lt (Nat.lt_of_lt_of_le (Heap.lt_size q) hp))]; exact n
 there := fun b u q _ => ⟨u, k b u q⟩
 tups := fun b xs q => by rw [Z0a (Z0h q hn)]; exact q
 frzs := fun b u xs q => by rw [Z0a (Z0h q hn)]; exact q
 tbls := fun b ps q => ⟨#[], by rw [Z0a (Z0h q hn), q]; simp⟩
theorem Un.write (mu : Mut (H x)) (he : e = x ∨ H e = some (.own x)) (k : ∀ b u, b ≠ e -> h.get? b = some u -> h'.get? b = some u) (heo : ∃ u, h'.get? e = some u) : Un fs ex H (upd H x o) h h' := by
 have hx : ∀ b, H b = none -> b ≠ x := fun b n z => by subst z; rw [n] at mu; exact mu
 have hb : ∀ b, H b = none -> b ≠ e := fun b n z => by
  subst z
  rcases he with r | r
  ·exact hx b n r
  ·rw [n] at r; cases r
 have hm : ∀ b u, H b = some u -> ¬ Mut (some u) -> b ≠ x := fun b u q nm z => by subst z; rw [q] at mu; exact nm mu
 refine ⟨fun b u q n _ _ => k b u (hb b n) q, fun b u q n _ _ => ⟨u.slots, k b u (hb b n) q⟩, fun b u q n _ => by rw [Z0a (hx b n)]; exact n, fun b u q _ => ?_,
  fun b xs q => by rw [Z0a (hm b _ q fun z => z)]; exact q, fun b u xs q => by rw [Z0a (hm b _ q fun z => z)]; exact q, fun b ps q => ⟨#[], by rw [Z0a (hm b _ q fun z => z), q]; simp⟩⟩
 by_cases hbe : b = e
 ·subst hbe; exact heo
 ·exact ⟨u, k b u hbe q⟩
end
def trk (h : Heap) (H : Hp) : List Addr := (List.range h.objs.size).filter fun a => (H a).isSome
def Zew (h : Heap) (H : Hp) : Heap := PySem.W.hideAll h (trk h H)
theorem Zcg (h : Heap) (H : Hp) : (Zew h H).objs.size = h.objs.size := PySem.W.hideAll_size _ _
theorem Zex {h : Heap} {H : Hp} {b : Addr} {o : Obj} (e : h.get? b = some o) (n : H b = none) : (Zew h H).get? b = some o :=
 PySem.W.hideAll_get _ e fun hm => by
  have q : (H b).isSome = true := (List.mem_filter.mp hm).2
  rw [n] at q; simp at q
theorem Zi2 {h : Heap} {H : Hp} {b : Addr} {o : Obj} (e : (Zew h H).get? b = some o) : h.get? b = some o /\ H b = none := by
 have e' : h.get? b = some o := PySem.W.of_hideAll (trk h H) e
 refine ⟨e', ?_⟩
 cases q : H b with
 | none => rfl
 | some x =>
  have hm : b ∈ trk h H := List.mem_filter.mpr ⟨List.mem_range.mpr (Heap.lt_size e'), by simp [q]⟩
  have z : (Zew h H).get? b = none := PySem.W.hideAll_none (trk h H) hm
  rw [z] at e; cases e
structure Mod (K : PySem.W.Frag) (mg : Str -> Option Value) (base : Heap) : Prop where
 kin : K.In base
 glob : base.Ns mainGlobals mg
 blt : ∃ mb, base.Ns builtinsNs mb /\ ∀ x : Str, x ≠ "__name__" -> mb x = bootBuiltins x
 nolimit : base.NoLimit
structure Cx where
 prog : Program
 w : World
 K : PySem.W.Frag
 mg : Str -> Option Value
 base : Heap
 A : Around
 N : List Str
 s₀ : Shared
 H₀ : Hp
 env : Env
 outer : List Env
 stack : List Env
 ex : List Addr
 fn : Str -> Bool
 calm : Bool
 pn : List (Addr × Obj)
 xe : Value -> Shared -> Prop
def frs (l : List Env) : List Addr := l.filterMap (·.frame)
abbrev Cx.fs (X : Cx) : List Addr := frs X.outer
def Vis (sc : Scope) (x : Str) : Prop := sc.names.lookup x = some .local ∨ sc.names.lookup x = some .cell ∨ sc.names.lookup x = some .free
def Loc (sc : Scope) (x : Str) : Prop := sc.names.lookup x = some .local ∨ sc.names.lookup x = some .cell
def Znz (env : Env) (h : Heap) (m : Str -> Option Value) (x : Str) (u : Value) : Prop :=
 (env.kindOf x = some .local /\ m x = some u) ∨ ((env.kindOf x = some .cell ∨ env.kindOf x = some .free) /\ ∃ c, env.cells.lookup x = some c /\ h.IsCell c (some u))
structure Cx.Ok (X : Cx) : Prop where
 mod : Mod X.K X.mg X.base
 kind : X.env.scope.kind = .function
 glob : X.env.globals = mainGlobals
 blt : X.env.builtins = builtinsNs
 above : X.s₀.heap.objs.size <= X.env.locals
 inj : ∀ x y c, X.env.cells.lookup x = some c -> X.env.cells.lookup y = some c -> x = y
 has : ∀ x, (X.env.kindOf x = some .cell ∨ X.env.kindOf x = some .free) -> ∃ c, X.env.cells.lookup x = some c
 cab : ∀ x c, X.fn x = true -> X.env.cells.lookup x = some c -> X.s₀.heap.objs.size <= c
 hd : X.calm = true -> X.A.handled = none
 frames : X.A.frames = some X.stack
 stk : X.stack = X.outer ∨ (X.stack = X.env :: X.outer /\ X.env.frame = some X.env.locals)
 exf : ∀ b ∈ X.ex, b ≠ X.env.locals /\ ∀ x c, X.env.cells.lookup x = some c -> c ≠ b
 bs : ∀ b o, X.base.get? b = some o -> X.s₀.heap.get? b = some o /\ X.H₀ b = none
 bsz : X.base.objs.size <= X.s₀.heap.objs.size
 noex : ∀ b o, X.base.get? b = some o -> b ∉ X.ex
 exfs : ∀ b ∈ X.ex, b ∉ X.fs
 funs : X.s₀.heap.FunFrames X.base X.outer
 frf : ∀ b ∈ X.fs, X.H₀ b = none
structure Inv (X : Cx) (pins : List (Addr × Obj)) (σ : List (Option V)) (H : Hp) (s : Shared) : Prop where
 ok : X.Ok
 os : s.os = X.s₀.os
 bare : AllBare s.gens
 base : Un X.fs X.ex X.H₀ H X.s₀.heap s.heap
 loc : ∃ m, s.heap.Ns X.env.locals m /\ ∀ (i : Nat) (x : Str) (v : V), X.N[i]? = some x -> σ[i]? = some (some v) -> Vis X.env.scope x -> ∃ u, RelV v u /\ Znz X.env s.heap m x u
 cell : ∀ x c, X.env.cells.lookup x = some c -> ∃ v, s.heap.IsCell c v
 free : H X.env.locals = none
 freeC : ∀ x c, X.env.cells.lookup x = some c -> H c = none
 pin : ∀ p ∈ X.pn ++ pins, s.heap.get? p.1 = some p.2 /\ H p.1 = none /\ p.1 ≠ X.env.locals /\ p.1 ∉ X.fs /\ ∀ v, p.2.data ≠ .cell v
 hok : HOk X.prog X.w H s.heap
 len : σ.length = X.N.length
section
variable {X : Cx} {pins : List (Addr × Obj)} {σ : List (Option V)} {H H' : Hp} {s : Shared} {h' : Heap}
theorem Cx.Ok.nofr (ok : X.Ok) {b : Addr} {o : Obj} (e : X.base.get? b = some o) : b ∉ X.fs := fun hb => by
 have := (ok.funs.mem hb).1
 rw [e] at this; cases this
theorem Inv.bs (I : Inv X pins σ H s) : ∀ b o, X.base.get? b = some o -> s.heap.get? b = some o /\ H b = none := fun b o e =>
 ⟨I.base.keep b o (I.ok.bs b o e).1 (I.ok.bs b o e).2 (I.ok.nofr e) (I.ok.noex b o e), I.base.free b o (I.ok.bs b o e).1 (I.ok.bs b o e).2 (I.ok.noex b o e)⟩
theorem Inv.bk (I : Inv X pins σ H s) : ∀ b o, X.base.get? b = some o -> s.heap.get? b = some o := fun b o e => (I.bs b o e).1
theorem Inv.mod (I : Inv X pins σ H s) : Mod X.K X.mg X.base := I.ok.mod
theorem Inv.kIn (I : Inv X pins σ H s) : X.K.In s.heap := I.ok.mod.kin.keeps I.bk
theorem Inv.lt (I : Inv X pins σ H s) : X.env.locals < s.heap.objs.size := let ⟨_, hn, _⟩ := I.loc; hn.lt
theorem Inv.sz (I : Inv X pins σ H s) : X.s₀.heap.objs.size <= s.heap.objs.size := Nat.le_trans I.ok.above (Nat.le_of_lt I.lt)
theorem Inv.nofs (I : Inv X pins σ H s) {a : Addr} (h : s.heap.objs.size <= a) : a ∉ X.fs := fun hb => by
 obtain ⟨_, o, ho, _⟩ := I.ok.funs.mem hb
 exact absurd (Nat.lt_of_lt_of_le (Heap.lt_size ho) (Nat.le_trans I.sz h)) (Nat.lt_irrefl _)
theorem Inv.cne (I : Inv X pins σ H s) : ∀ x c, X.env.cells.lookup x = some c -> c ≠ X.env.locals := fun x c e z => by
 obtain ⟨v, o, ho, hd⟩ := I.cell x c e
 obtain ⟨m, ⟨o', es, ep, ho', hd', _⟩, _⟩ := I.loc
 rw [z, ho'] at ho; cases ho; rw [hd'] at hd; cases hd
theorem Inv.funs (I : Inv X pins σ H s) : s.heap.FunFrames X.base X.outer := by
 have all : ∀ (l : List Env), (∀ b ∈ frs l, b ∈ X.fs) -> X.s₀.heap.FunFrames X.base l -> s.heap.FunFrames X.base l := by
  intro l
  induction l with
  | nil => intro _ _; trivial
  | cons env r ih =>
   intro hs hl
   obtain ⟨hk, ⟨L, o, hf, hn, ho, hd⟩, hr⟩ := hl
   have hL : L ∈ X.fs := hs L (by unfold frs; rw [List.filterMap_cons, hf]; exact List.mem_cons_self)
   obtain ⟨sl, e⟩ := I.base.slot L o ho (I.ok.frf L hL) hL fun z => I.ok.exfs L z hL
   exact ⟨hk, ⟨L, _, hf, hn, e, hd⟩, ih (fun b hb => hs b (by unfold frs; rw [List.filterMap_cons, hf]; exact List.mem_cons_of_mem _ hb)) hr⟩
 exact all X.outer (fun _ hb => hb) I.ok.funs
theorem Inv.stack (I : Inv X pins σ H s) : s.heap.FunFrames X.base X.stack := by
 rcases I.ok.stk with e | ⟨e, hf⟩
 ·rw [e]; exact I.funs
 ·rw [e]
  obtain ⟨m, hn, _⟩ := I.loc
  refine .cons (by rw [I.ok.kind]; decide) hf hn ?_ I.funs
  exact Heap.get?_none_of_le (Nat.le_trans I.ok.bsz I.ok.above)
theorem Inv.stkSub (I : Inv X pins σ H s) : ∀ b ∈ frs X.stack, b ∈ X.env.locals :: X.fs := fun b hb => by
 rcases I.ok.stk with e | ⟨e, hf⟩
 ·rw [e] at hb; exact List.mem_cons_of_mem _ hb
 ·rw [e] at hb
  unfold frs at hb
  rw [List.filterMap_cons, hf] at hb
  exact hb
theorem Inv.stkFree (I : Inv X pins σ H s) : ∀ b ∈ frs X.stack, H b = none := fun b hb => by
 rcases List.mem_cons.mp (I.stkSub b hb) with e | hb
 ·rw [e]; exact I.free
 ·obtain ⟨_, o, ho, _⟩ := I.ok.funs.mem hb
  exact I.base.free b o ho (I.ok.frf b hb) fun z => I.ok.exfs b z hb
theorem Inv.step {g' : Array GenState} {t' : Nat} {d' : Drawn} {ch : List Addr} (I : Inv X pins σ H s)
  (hch : ∀ b ∈ ch, (b ∈ X.ex ∨ X.s₀.heap.objs.size <= b) /\ b ≠ X.env.locals /\ (∀ x c, X.env.cells.lookup x = some c -> c ≠ b) /\ ∀ p ∈ X.pn ++ pins, p.1 ≠ b)
  (keep : ∀ b o, b ≠ X.env.locals -> b ∉ X.fs -> b ∉ ch -> s.heap.get? b = some o -> H b = none -> h'.get? b = some o)
  (slot : ∀ b o, b ≠ X.env.locals -> b ∈ X.fs -> b ∉ ch -> s.heap.get? b = some o -> H b = none -> ∃ sl, h'.get? b = some { o with slots := sl }) (free : ∀ b o, b ∉ ch -> s.heap.get? b = some o -> H b = none -> H' b = none)
  (there : ∀ b o, b ∉ ch -> s.heap.get? b = some o -> ∃ o', h'.get? b = some o')
  (tups : ∀ b xs, H b = some (.tup xs) -> H' b = some (.tup xs)) (frzs : ∀ b o u, H b = some (.frz o u) -> H' b = some (.frz o u)) (tbls : ∀ b ps, H b = some (.tbl ps) -> ∃ more, H' b = some (.tbl (ps ++ more)))
  (ns : ∀ m, s.heap.Ns X.env.locals m -> h'.Ns X.env.locals m) (hok : HOk X.prog X.w H' h') (hg : AllBare g') :
  Inv X pins σ H' { s with heap := h', gens := g', drawn := d', toks := t' } := by
 have neL : ∀ b o, X.s₀.heap.get? b = some o -> b ≠ X.env.locals := fun b o e => Nat.ne_of_lt (Nat.lt_of_lt_of_le (Heap.lt_size e) I.ok.above)
 have neC : ∀ b o, X.s₀.heap.get? b = some o -> b ∉ X.ex -> b ∉ ch := fun b o e hx hb => by
  rcases (hch b hb).1 with z | z
  ·exact hx z
  ·exact absurd (Nat.lt_of_lt_of_le (Heap.lt_size e) z) (Nat.lt_irrefl _)
 have cellK : ∀ x c, X.env.cells.lookup x = some c -> ∀ v, s.heap.IsCell c v -> h'.IsCell c v := fun x c e v ⟨o, ho, hd⟩ => by
  have nch : c ∉ ch := fun z => (hch c z).2.2.1 x c e rfl
  by_cases hc : c ∈ X.fs
  ·obtain ⟨sl, q⟩ := slot c o (I.cne x c e) hc nch ho (I.freeC x c e)
   exact ⟨_, q, hd⟩
  ·exact ⟨o, keep c o (I.cne x c e) hc nch ho (I.freeC x c e), hd⟩
 refine ⟨I.ok, I.os, hg, ⟨fun b o e n hb hx => ?_, fun b o e n hb hx => ?_, fun b o e n hx => ?_, fun b o e hx => ?_, fun b xs e => tups b xs (I.base.tups b xs e), fun b o xs e => frzs b o xs (I.base.frzs b o xs e), fun b ps e => ?_⟩, ?_, fun x c e => ?_, ?_, fun x c e => ?_, fun p hp => ?_, hok, I.len⟩
 ·exact keep b o (neL b o e) hb (neC b o e hx) (I.base.keep b o e n hb hx) (I.base.free b o e n hx)
 ·obtain ⟨sl, e1⟩ := I.base.slot b o e n hb hx
  obtain ⟨sl', e2⟩ := slot b _ (neL b o e) hb (neC b o e hx) e1 (I.base.free b o e n hx)
  exact ⟨sl', e2⟩
 ·obtain ⟨o', e1⟩ := I.base.there b o e hx
  exact free b o' (neC b o e hx) e1 (I.base.free b o e n hx)
 ·obtain ⟨o', e1⟩ := I.base.there b o e hx
  exact there b o' (neC b o e hx) e1
 ·obtain ⟨m1, e1⟩ := I.base.tbls b ps e
  obtain ⟨m2, e2⟩ := tbls b _ e1
  exact ⟨m1 ++ m2, by rw [e2, Array.append_assoc]⟩
 ·obtain ⟨m, hn, hl⟩ := I.loc
  refine ⟨m, ns m hn, fun i x v e1 e2 e3 => ?_⟩
  obtain ⟨u, r, l⟩ := hl i x v e1 e2 e3
  refine ⟨u, r, ?_⟩
  rcases l with l | ⟨k, c, e, z⟩
  ·exact .inl l
  ·exact .inr ⟨k, c, e, cellK x c e _ z⟩
 ·obtain ⟨v, z⟩ := I.cell x c e
  exact ⟨v, cellK x c e v z⟩
 ·obtain ⟨m, ⟨o, _, _, ho, _⟩, _⟩ := I.loc
  exact free _ o (fun z => (hch _ z).2.1 rfl) ho I.free
 ·obtain ⟨v, o, ho, hd⟩ := I.cell x c e
  exact free c o (fun z => (hch c z).2.2.1 x c e rfl) ho (I.freeC x c e)
 ·obtain ⟨e, n, ne, nf, d⟩ := I.pin p hp
  have nch : p.1 ∉ ch := fun z => (hch p.1 z).2.2.2 p hp rfl
  exact ⟨keep p.1 p.2 ne nf nch e n, free p.1 p.2 nch e n, ne, nf, d⟩
theorem Inv.un {t' : Nat} (I : Inv X pins σ H s) (u : Un X.fs [] H H' s.heap h') (hok : HOk X.prog X.w H' h') : Inv X pins σ H' { s with heap := h', toks := t' } := by
 obtain ⟨m, ⟨o, es, ep, ho, r⟩, _⟩ := id I.loc
 obtain ⟨sl, hL⟩ := u.any ho I.free (by simp)
 exact I.step (g' := s.gens) (d' := s.drawn) (ch := []) (fun _ z => nomatch z) (fun b o _ hb _ e n => u.keep b o e n hb (by simp)) (fun b o _ hb _ e n => u.slot b o e n hb (by simp)) (fun b o _ e n => u.free b o e n (by simp)) (fun b o _ e => u.there b o e (by simp)) u.tups u.frzs u.tbls (fun m' hm => by
  obtain ⟨o', es', ep', ho', r'⟩ := hm
  rw [ho] at ho'; cases ho'
  exact ⟨_, es', ep', hL, r'⟩) hok I.bare
theorem Inv.call {g' : Array GenState} {t' : Nat} {d' : Drawn} {ch : List Addr} (I : Inv X pins σ H s) (u : Un (frs X.stack) ch H H' s.heap h') (hok : HOk X.prog X.w H' h') (hg : AllBare g')
  (hch : ∀ b ∈ ch, (b ∈ X.ex ∨ X.s₀.heap.objs.size <= b) /\ b ≠ X.env.locals /\ (∀ x c, X.env.cells.lookup x = some c -> c ≠ b) /\ ∀ p ∈ X.pn ++ pins, p.1 ≠ b) :
  Inv X pins σ H' { s with heap := h', gens := g', drawn := d', toks := t' } := by
 obtain ⟨m, ⟨o, es, ep, ho, r⟩, _⟩ := id I.loc
 obtain ⟨sl, hL⟩ := u.any ho I.free fun z => (hch _ z).2.1 rfl
 exact I.step (ch := ch) hch (fun b o hL hb hc e n => u.keep b o e n (fun z => (List.mem_cons.mp (I.stkSub b z)).elim hL hb) hc) (fun b o _ _ hc e n => u.any e n hc) (fun b o hc e n => u.free b o e n hc) (fun b o hc e => u.there b o e hc) u.tups u.frzs u.tbls (fun m' hm => by
  obtain ⟨o', es', ep', ho', r'⟩ := hm
  rw [ho] at ho'; cases ho'
  exact ⟨_, es', ep', hL, r'⟩) hok hg
theorem Inv.turned {t' : Nat} {it : Addr} (I : Inv X pins σ H s) (k : ∀ b o, b ≠ it -> s.heap.get? b = some o -> h'.get? b = some o) (hn : H it = none) (hL : it ≠ X.env.locals)
  (h1 : it ∈ X.ex ∨ X.s₀.heap.objs.size <= it) (h2 : ∀ x c, X.env.cells.lookup x = some c -> c ≠ it) (h3 : ∀ p ∈ X.pn ++ pins, p.1 ≠ it) : Inv X pins σ H { s with heap := h', toks := t' } := by
 have nit : ∀ b u, H b = some u -> b ≠ it := fun b u e z => by rw [z, hn] at e; cases e
 refine I.step (g' := s.gens) (d' := s.drawn) (ch := [it]) (fun b hb => ?_) (fun b o _ _ hc e _ => k b o (fun z => hc (by simp [z])) e) (fun b o _ _ hc e _ => ⟨o.slots, k b o (fun z => hc (by simp [z])) e⟩) (fun _ _ _ _ n => n)
  (fun b o hc e => ⟨o, k b o (fun z => hc (by simp [z])) e⟩) (fun _ _ e => e) (fun _ _ _ e => e) (fun b ps e => ⟨#[], by rw [e]; simp⟩) (fun m hm => ?_) (fun b u e => ?_) I.bare
 ·have e : b = it := by simpa using hb
  subst e
  exact ⟨h1, hL, h2, h3⟩
 ·obtain ⟨o, es, ep, ho, r⟩ := hm
  exact ⟨o, es, ep, k _ o (Ne.symm hL) ho, r⟩
 ·refine (I.hok b u e).stay (fun c v hc q => k c v ?_ q) (fun _ q => q) fun _ _ q => q
  rcases hc with z | z
  ·rw [z]; exact nit b u e
  ·exact nit c _ z
theorem Inv.tok (I : Inv X pins σ H s) (t : Nat) : Inv X pins σ H { s with toks := t } := I.un (h' := s.heap) (t' := t) Un.refl I.hok
theorem Inv.kept {t' : Nat} (I : Inv X pins σ H s) (k : ∀ b u, s.heap.get? b = some u -> h'.get? b = some u) : Inv X pins σ H { s with heap := h', toks := t' } := I.un (Un.kept k) (I.hok.kept k)
theorem Inv.laid {a : Addr} {o : HO} {t' : Nat} (I : Inv X pins σ H s) (k : ∀ b u, s.heap.get? b = some u -> h'.get? b = some u) (hp : s.heap.objs.size <= a) (new : ObjOk X.prog X.w (upd H a o) h' a o) :
  Inv X pins σ (upd H a o) { s with heap := h', toks := t' } := I.un (Un.laid k hp (I.hok.fresh hp)) (I.hok.laid k hp new)
theorem Inv.write {x e : Addr} {o : HO} {t' : Nat} (I : Inv X pins σ H s) (mu : Mut (H x)) (he : e = x ∨ H e = some (.own x)) (k : ∀ b u, b ≠ e -> s.heap.get? b = some u -> h'.get? b = some u) (heo : ∃ u, h'.get? e = some u)
  (new : ObjOk X.prog X.w (upd H x o) h' x o) : Inv X pins σ (upd H x o) { s with heap := h', toks := t' } := I.un (Un.write mu he k heo) (I.hok.write mu he k heo new)
theorem Inv.pins_of {pins' : List (Addr × Obj)} (I : Inv X pins σ H s) (h : ∀ p ∈ pins', s.heap.get? p.1 = some p.2 /\ H p.1 = none /\ p.1 ≠ X.env.locals /\ p.1 ∉ X.fs /\ ∀ v, p.2.data ≠ .cell v) : Inv X pins' σ H s :=
 ⟨I.ok, I.os, I.bare, I.base, I.loc, I.cell, I.free, I.freeC, fun p hp => (List.mem_append.mp hp).elim (fun z => I.pin p (List.mem_append_left _ z)) (h p), I.hok, I.len⟩
theorem Za7 {N : List Str} (hN : N.Nodup) {i j : Nat} {x : Str} (a : N[i]? = some x) (b : N[j]? = some x) : i = j := by
 obtain ⟨h1, e1⟩ := List.getElem?_eq_some_iff.mp a
 obtain ⟨h2, e2⟩ := List.getElem?_eq_some_iff.mp b
 exact (List.getElem_inj hN).mp (e1.trans e2.symm)
theorem Z80 {M : Model} {A : Around} {E : Value -> Shared -> Prop} {i : Nat} {x : Str} {v : V} {u : Value} {Q : Unit -> Shared -> Prop} (I : Inv X pins σ H s) (hN : X.N.Nodup) (hi : X.N[i]? = some x) (hx : Loc X.env.scope x) (r : RelV v u)
  (h : ∀ s', Inv X pins (σ.set i (some v)) H s' -> (∃ a, Heap.SameBut a s.heap s'.heap /\ (a = X.env.locals ∨ X.env.cells.lookup x = some a)) -> Q () s') (hf : X.fn x = true ∨ X.env.scope.names.lookup x = some .local := by first | exact .inl rfl | exact .inr rfl | assumption) : wpAny M A (storeName X.env x u) Q E s := by
 obtain ⟨m, hn, hl⟩ := id I.loc
 have hcls : (X.env.scope.kind == .class || (X.env.scope.kind == .module && X.env.locals != X.env.globals)) = false := by rw [I.ok.kind]; rfl
 have hiσ : i < σ.length := by rw [I.len]; exact (List.getElem?_eq_some_iff.mp hi).1
 have cne := I.cne
 have tracked : ∀ {a : Addr} {h' : Heap}, (∃ o, s.heap.get? a = some o /\ H a = none) -> Heap.SameBut a s.heap h' -> HOk X.prog X.w H h' := fun {a h'} ha hs b ob e => by
  obtain ⟨_, _, hfree⟩ := ha
  refine (I.hok b ob e).stay (fun c w' hc q => (hs.2 c ?_).trans q) (fun _ q => q) fun _ _ q => q
  rintro rfl
  rcases hc with rfl | hc
  ·rw [hfree] at e; cases e
  ·rw [hfree] at hc; cases hc
 rcases hx with hk | hk
 ·refine wpAny_storeName_local hk hn (fun h' hn' hs => ?_) hcls
  obtain ⟨oL, _, _, hoL, _⟩ := id hn
  refine h _ ⟨I.ok, I.os, I.bare, ⟨fun b o e n hb hx => ?_, fun b o e n hb hx => ?_, I.base.free, fun b o e hx => ?_, I.base.tups, I.base.frzs, I.base.tbls⟩, ⟨_, hn', fun j y v' e1 e2 e3 => ?_⟩, fun y c e => ?_, I.free, I.freeC, fun p hp => ?_, tracked ⟨oL, hoL, I.free⟩ hs, by simpa using I.len⟩ ⟨_, hs, .inl rfl⟩
  ·exact (hs.2 b (Nat.ne_of_lt (Nat.lt_of_lt_of_le (Heap.lt_size e) I.ok.above))).trans (I.base.keep b o e n hb hx)
  ·obtain ⟨sl, e1⟩ := I.base.slot b o e n hb hx
   exact ⟨sl, (hs.2 b (Nat.ne_of_lt (Nat.lt_of_lt_of_le (Heap.lt_size e) I.ok.above))).trans e1⟩
  ·obtain ⟨o', e1⟩ := I.base.there b o e hx
   exact ⟨o', (hs.2 b (Nat.ne_of_lt (Nat.lt_of_lt_of_le (Heap.lt_size e) I.ok.above))).trans e1⟩
  ·by_cases hj : j = i
   ·subst hj
    rw [hi] at e1; cases e1
    rw [List.getElem?_set_self hiσ] at e2
    cases e2
    exact ⟨u, r, .inl ⟨hk, by simp⟩⟩
   ·rw [List.getElem?_set_ne (Ne.symm hj)] at e2
    obtain ⟨u', r', q⟩ := hl j y v' e1 e2 e3
    refine ⟨u', r', ?_⟩
    rcases q with ⟨k, e⟩ | ⟨k, c, e, z⟩
    ·refine .inl ⟨k, ?_⟩
     have : y ≠ x := fun e => hj (Za7 hN e1 (e ▸ hi))
     simp [this, e]
    ·exact .inr ⟨k, c, e, z.sameBut hs (cne y c e)⟩
  ·obtain ⟨w', z⟩ := I.cell y c e
   exact ⟨w', z.sameBut hs (cne y c e)⟩
  ·obtain ⟨e, n, ne, nf, d⟩ := I.pin p hp
   exact ⟨(hs.2 p.1 ne).trans e, n, ne, nf, d⟩
 ·have hfn : X.fn x = true := by
   rcases hf with z | z
   ·exact z
   ·rw [z] at hk; cases hk
  obtain ⟨c, hc⟩ := I.ok.has x (.inl hk)
  obtain ⟨w', z⟩ := I.cell x c hc
  refine wpAny_storeName_cell I.ok.kind hk hc z (fun h' hc' hs => ?_)
  obtain ⟨oc, hoc, hocd⟩ := id z
  refine h { s with heap := h' } ⟨I.ok, I.os, I.bare, ⟨fun b o e n hb hx => ?_, fun b o e n hb hx => ?_, I.base.free, fun b o e hx => ?_, I.base.tups, I.base.frzs, I.base.tbls⟩, ⟨m, hn.sameBut hs (Ne.symm (cne x c hc)), fun j y v' e1 e2 e3 => ?_⟩, fun y c' e => ?_, I.free, I.freeC, fun p hp => ?_, tracked ⟨oc, hoc, I.freeC x c hc⟩ hs, by simpa using I.len⟩ ⟨c, hs, .inr hc⟩
  ·exact (hs.2 b (Nat.ne_of_lt (Nat.lt_of_lt_of_le (Heap.lt_size e) (I.ok.cab x c hfn hc)))).trans (I.base.keep b o e n hb hx)
  ·obtain ⟨sl, e1⟩ := I.base.slot b o e n hb hx
   exact ⟨sl, (hs.2 b (Nat.ne_of_lt (Nat.lt_of_lt_of_le (Heap.lt_size e) (I.ok.cab x c hfn hc)))).trans e1⟩
  ·obtain ⟨o', e1⟩ := I.base.there b o e hx
   exact ⟨o', (hs.2 b (Nat.ne_of_lt (Nat.lt_of_lt_of_le (Heap.lt_size e) (I.ok.cab x c hfn hc)))).trans e1⟩
  ·by_cases hj : j = i
   ·subst hj
    rw [hi] at e1; cases e1
    rw [List.getElem?_set_self hiσ] at e2
    cases e2
    exact ⟨u, r, .inr ⟨.inl hk, c, hc, hc'⟩⟩
   ·rw [List.getElem?_set_ne (Ne.symm hj)] at e2
    obtain ⟨u', r', q⟩ := hl j y v' e1 e2 e3
    refine ⟨u', r', ?_⟩
    rcases q with q | ⟨k, c', e, z'⟩
    ·exact .inl q
    ·refine .inr ⟨k, c', e, z'.sameBut hs ?_⟩
     rintro rfl
     exact hj (Za7 hN e1 (I.ok.inj _ _ _ e hc ▸ hi))
  ·by_cases hcc : c' = c
   ·subst hcc; exact ⟨_, hc'⟩
   ·obtain ⟨w2, z2⟩ := I.cell y c' e
    exact ⟨w2, z2.sameBut hs hcc⟩
  ·obtain ⟨e, n, ne, nf, d⟩ := I.pin p hp
   refine ⟨(hs.2 p.1 ?_).trans e, n, ne, nf, d⟩
   intro q
   rw [q, hoc] at e
   have q' : oc = p.2 := Option.some.inj e
   exact d w' (by rw [<- q']; exact hocd)
theorem Za8 {M : Model} {A : Around} {E : Value -> Shared -> Prop} {i : Nat} {x : Str} {v : V} {u : Value} {Q : Unit -> Shared -> Prop} (I : Inv X pins σ H s) (hN : X.N.Nodup) (hi : X.N[i]? = some x) (hx : Loc X.env.scope x) (r : RelV v u)
  (h : ∀ s', Inv X pins (σ.set i (some v)) H s' -> Q () s') (hf : X.fn x = true ∨ X.env.scope.names.lookup x = some .local := by first | exact .inl rfl | exact .inr rfl | assumption) : wpAny M A (storeName X.env x u) Q E s :=
 Z80 I hN hi hx r (fun s' I' _ => h s' I') hf
theorem Inv.call' {s' : Shared} {ch : List Addr} (I : Inv X pins σ H s) (ho : s'.os = s.os) (u : Un (frs X.stack) ch H H' s.heap s'.heap) (hok : HOk X.prog X.w H' s'.heap) (hg : AllBare s'.gens)
  (hch : ∀ b ∈ ch, (b ∈ X.ex ∨ X.s₀.heap.objs.size <= b) /\ b ≠ X.env.locals /\ (∀ x c, X.env.cells.lookup x = some c -> c ≠ b) /\ ∀ p ∈ X.pn ++ pins, p.1 ≠ b) : Inv X pins σ H' s' := by
 obtain ⟨h', g', d', t', o'⟩ := s'
 have e : o' = s.os := ho
 subst e
 exact I.call (g' := g') (t' := t') (d' := d') u hok hg hch
end
abbrev XK := Value -> Option Addr -> Hp -> Prop
abbrev St := List (Option V)
abbrev VK := V -> Hp -> Prop
abbrev TE := St -> Hp -> VK -> Prop
abbrev TT := St -> Hp -> (Bool -> Hp -> Prop) -> Prop
abbrev TA := St -> Hp -> (List V -> Hp -> Prop) -> Prop
structure Ends where
 nx : St -> Hp -> Prop
 rt : VK
 bk : St -> Hp -> Prop := fun _ _ => False
 ct : St -> Hp -> Prop := fun _ _ => False
abbrev TS := Ends -> St -> Hp -> Prop
def EP (X : Cx) (pins : List (Addr × Obj)) (σ : St) (Q : VK) (u : Value) (s' : Shared) : Prop := ∃ v H', Inv X pins σ H' s' /\ RelV v u /\ Q v H'
def TP (X : Cx) (pins : List (Addr × Obj)) (σ : St) (Q : Bool -> Hp -> Prop) (b : Bool) (s' : Shared) : Prop := ∃ H', Inv X pins σ H' s' /\ Q b H'
def AP (X : Cx) (pins : List (Addr × Obj)) (σ : St) (Q : List V -> Hp -> Prop) (us : List Value) (s' : Shared) : Prop := ∃ vs H', Inv X pins σ H' s' /\ Vals vs us /\ Q vs H'
def SP (X : Cx) (pins : List (Addr × Obj)) (D : Ends) (f : Flow) (s' : Shared) : Prop :=
 match f with
 | .next => ∃ σ' H', Inv X pins σ' H' s' /\ D.nx σ' H'
 | .brk => ∃ σ' H', Inv X pins σ' H' s' /\ D.bk σ' H'
 | .cont => ∃ σ' H', Inv X pins σ' H' s' /\ D.ct σ' H'
 | .ret u => ∃ v σ' H', Inv X pins σ' H' s' /\ RelV v u /\ D.rt v H'
def PE (X : Cx) (e : Expr) (t : TE) : Prop :=
 ∀ (pins : List (Addr × Obj)) (s : Shared) (σ : St) (H : Hp) (Q : VK), Inv X pins σ H s -> t σ H Q -> wpAny (model X.prog X.w) X.A (eval e X.env) (EP X pins σ Q) X.xe s
def PT (X : Cx) (e : Expr) (t : TT) : Prop :=
 ∀ (pins : List (Addr × Obj)) (s : Shared) (σ : St) (H : Hp) (Q : Bool -> Hp -> Prop), Inv X pins σ H s -> t σ H Q -> wpAny (model X.prog X.w) X.A (isTrue e X.env (eval e X.env)) (TP X pins σ Q) X.xe s
def PW (X : Cx) (e : Expr) (t : TT) : Prop :=
 ∀ (whole : Sem Value) (pins : List (Addr × Obj)) (s : Shared) (σ : St) (H : Hp) (Q : Bool -> Hp -> Prop), Inv X pins σ H s -> t σ H Q -> wpAny (model X.prog X.w) X.A (isTrue e X.env whole) (TP X pins σ Q) X.xe s
theorem PW.pt {X : Cx} {e : Expr} {t : TT} (h : PW X e t) : PT X e t := h _
def PA (X : Cx) (es : List Expr) (t : TA) : Prop :=
 ∀ (pos : Pos) (pins : List (Addr × Obj)) (s : Shared) (σ : St) (H : Hp) (Q : List V -> Hp -> Prop), Inv X pins σ H s -> t σ H Q -> wpAny (model X.prog X.w) X.A (spliced (backTo pos (starEach es X.env))) (AP X pins σ Q) X.xe s
def PS (X : Cx) (st : Stmt) (t : TS) : Prop :=
 ∀ (pins : List (Addr × Obj)) (s : Shared) (σ : St) (H : Hp) (D : Ends), Inv X pins σ H s -> t D σ H -> wpAny (model X.prog X.w) X.A (exec st X.env) (SP X pins D) X.xe s
def PSs (X : Cx) (st : List Stmt) (t : TS) : Prop :=
 ∀ (pins : List (Addr × Obj)) (s : Shared) (σ : St) (H : Hp) (D : Ends), Inv X pins σ H s -> t D σ H -> wpAny (model X.prog X.w) X.A (execs st X.env) (SP X pins D) X.xe s
theorem thn {α : Type} {t : Sem α} {Q Q' : α -> Shared -> Prop} {M : Model} {A : Around} {E : Value -> Shared -> Prop} {s : Shared} (h : wpAny M A t Q E s) (hQ : ∀ a s, Q a s -> Q' a s) : wpAny M A t Q' E s := wpAny_mono h hQ fun _ _ x => x
section
variable {X : Cx}
def Zk6 (i : Nat) : TE := fun σ H Q => ∃ v, σ[i]? = some (some v) /\ Q v H
def tC (v : V) : TE := fun _ H Q => Q v H
theorem Z81 {i : Nat} {x : Str} {pos : Pos} (hN : X.N[i]? = some x) (hv : Vis X.env.scope x) (hd : (x == ("__debug__" : Str)) = false := by decide) (hcd : (x == ("__classdict__" : Str)) = false := by decide) : PE X (.Name x pos) (Zk6 i) := by
 intro pins s σ H Q I h
 obtain ⟨v, e, h⟩ := h
 obtain ⟨m, hn, hl⟩ := I.loc
 obtain ⟨u, r, l⟩ := hl i x v hN e hv
 have fin : EP X pins σ Q u s := ⟨v, H, I, r, h⟩
 rcases l with ⟨hk, hm⟩ | ⟨hk, c, hc, hcell⟩
 ·exact wpAny_Name (wpAny_loadName_local I.ok.kind hk hn hm fin) hd
 ·rcases hk with hk | hk
  ·exact wpAny_Name (wpAny_loadName_cell I.ok.kind hk hc hcell fin) hd
  ·exact wpAny_Name (wpAny_loadName_free I.ok.kind hk hc hcell fin hcd) hd
theorem Z05 {i j pos} : PE X (.Constant (.int i) j pos) (tC (.int i)) := fun _ _ _ H _ I h => wpAny_Constant_int ⟨.int i, H, I.tok _, ⟨_, rfl⟩, h⟩
theorem Z28 {b j pos} : PE X (.Constant (.bool b) j pos) (tC (.bl b)) := fun _ _ _ H _ I h => Constant_bool ⟨.bl b, H, I, rfl, h⟩
theorem Za9 {j pos} : PE X (.Constant .none j pos) (tC .non) := fun _ _ _ H _ I h => Constant_none ⟨.non, H, I, rfl, h⟩
theorem Z09 {x j pos} : PE X (.Constant (.str x) j pos) (tC (.str x)) := fun _ _ _ H _ I h => Calls.Constant_str ⟨.str x, H, I.tok _, ⟨_, rfl⟩, h⟩
def Gl (X : Cx) (x : Str) : Prop := X.env.kindOf x = some .globalImplicit
theorem Z9b {E : Value -> Shared -> Prop} {pins : List (Addr × Obj)} {s : Shared} {σ : St} {H : Hp} {x : Str} {u : Value} {pos : Pos} {Q : Value -> Shared -> Prop} (I : Inv X pins σ H s) (hg : Gl X x) (hm : X.mg x = some u) (h : Q u s)
  (hd : (x == ("__debug__" : Str)) = false := by decide) : wpAny (model X.prog X.w) X.A (eval (.Name x pos) X.env) Q E s :=
 Calls.Name_function_global I.ok.kind hg (Calls.loadGlobal_global (by rw [I.ok.glob]; exact I.mod.glob.keeps I.bk) hm h) hd
theorem Z82 {E : Value -> Shared -> Prop} {pins : List (Addr × Obj)} {s : Shared} {σ : St} {H : Hp} {x : Str} {u : Value} {pos : Pos} {Q : Value -> Shared -> Prop} (I : Inv X pins σ H s) (hg : Gl X x) (hm : X.mg x = none) (hv : bootBuiltins x = some u) (h : Q u s)
  (hn : x ≠ "__name__" := by decide) (hd : (x == ("__debug__" : Str)) = false := by decide) : wpAny (model X.prog X.w) X.A (eval (.Name x pos) X.env) Q E s := by
 obtain ⟨mb, h1, h2⟩ := I.mod.blt
 exact Calls.Name_function_global I.ok.kind hg (Calls.loadGlobal_builtin (by rw [I.ok.glob]; exact I.mod.glob.keeps I.bk) hm (by rw [I.ok.blt]; exact h1.keeps I.bk) ((h2 x hn).trans hv) h) hd
theorem Z1t {x : Str} {v : V} {u : Value} {pos : Pos} (hg : Gl X x) (hm : X.mg x = some u) (r : RelV v u) (hd : (x == ("__debug__" : Str)) = false := by decide) : PE X (.Name x pos) (tC v) :=
 fun _ _ _ H _ I h => Z9b I hg hm ⟨v, H, I, r, h⟩ hd
theorem Z1i {x : Str} {v : V} {u : Value} {pos : Pos} (hg : Gl X x) (hm : X.mg x = none) (hv : bootBuiltins x = some u) (r : RelV v u) (hn : x ≠ "__name__" := by decide) (hd : (x == ("__debug__" : Str)) = false := by decide) : PE X (.Name x pos) (tC v) :=
 fun _ _ _ H _ I h => Z82 I hg hm hv ⟨v, H, I, r, h⟩ hn hd
variable {a b : Expr} {ta tb : TE} {pos : Pos}
def PC (X : Cx) (op : CmpOp) (a b : Expr) (t : TE) : Prop :=
 ∀ (pins : List (Addr × Obj)) (s : Shared) (σ : St) (H : Hp) (Q : VK), Inv X pins σ H s -> t σ H Q →
  wpAny (model X.prog X.w) X.A (eval a X.env) (fun v s₁ => wpAny (model X.prog X.w) X.A (eval b X.env) (fun u s₂ => wpAny (model X.prog X.w) X.A (compareOp op v u) (EP X pins σ Q) X.xe s₂) X.xe s₁) X.xe s
theorem Zey (b : Expr) {op : CmpOp} (h : op ≠ .In) (h2 : op ≠ .NotIn) : behindInMarks op b = false := by
 have e1 : (op == CmpOp.In) = false := by cases op <;> first | rfl | exact absurd rfl h
 have e2 : (op == CmpOp.NotIn) = false := by cases op <;> first | rfl | exact absurd rfl h2
 cases b <;> simp [behindInMarks, e1, e2]
def Zo0 (ta : TE) : TE := fun σ H Q => ta σ H fun x H1 => Q (.bl (decide (x = .non))) H1
def Zmb (ta : TE) : TE := fun σ H Q => ta σ H fun x H1 => Q (.bl (!decide (x = .non))) H1
theorem RelV.none_iff {x : V} {v : Value} (r : RelV x v) : (v == Value.none) = decide (x = .non) := by
 cases x with
 | non => cases r; rfl
 | bl _ => cases r; rfl
 | int _ => obtain ⟨t, rfl⟩ := r; rfl
 | str _ => obtain ⟨t, rfl⟩ := r; rfl
 | byt _ => obtain ⟨t, rfl⟩ := r; rfl
 | flt _ => obtain ⟨t, rfl⟩ := r; rfl
 | ref _ => cases r; rfl
 | ty _ => cases r; rfl
theorem Zk7 {j pos'} (ha : PE X a ta) : PC X .Is a (.Constant .none j pos') (Zo0 ta) := by
 intro pins s σ H Q I h
 refine thn (ha pins s σ H _ I h) fun v s1 ⟨x, H1, I1, r1, q1⟩ => ?_
 exact Constant_none (is_none_gen ⟨.bl _, H1, I1, by rw [r1.none_iff]; rfl, q1⟩)
theorem Zi3 {j pos'} (ha : PE X a ta) : PC X .IsNot a (.Constant .none j pos') (Zmb ta) := by
 intro pins s σ H Q I h
 refine thn (ha pins s σ H _ I h) fun v s1 ⟨x, H1, I1, r1, q1⟩ => ?_
 exact Constant_none (isnot_none_gen ⟨.bl _, H1, I1, by rw [r1.none_iff]; rfl, q1⟩)
def tB (t : TE) : TT := fun σ H Q => t σ H fun x H1 => ∃ c, x = .bl c /\ Q c H1
theorem Zh0 {op : CmpOp} {t : TE} (h : PC X op a b t) (h1 : behindInMarks op b = false := by first | exact Zey _ (by decide) (by decide) | rfl) : PT X (.Compare a [op] [b] pos) (tB t) := by
 intro pins s σ H Q I hw
 refine wpAny_isTrue_Compare1 (thn (h pins s σ H _ I hw) fun v s1 h1 => thn h1 fun u s2 h2 => thn h2 fun c s3 ⟨x, H1, I1, r1, q1⟩ => ?_) h1
 obtain ⟨d, rfl, q⟩ := q1
 cases r1
 exact wpAny_truthy_bool ⟨H1, I1, q⟩
theorem Z2c {e : Expr} {t : TE} (h : PE X e t) (he : ∀ whole, isTrue e X.env whole = (do let v ← whole; standAt e.pos; holding [v] (truthy v)) := by intro _; rfl) : PT X e (tB t) := by
 intro pins s σ H Q I hw
 refine isTrue_plain (thn (h pins s σ H _ I hw) fun v s1 ⟨x, H1, I1, r1, q1⟩ => ?_) (he _)
 obtain ⟨d, rfl, q⟩ := q1
 cases r1
 exact wpAny_truthy_bool ⟨H1, I1, q⟩
variable {tA tB' : TT} {rest : List Expr}
def Zo1 (t u : TT) : TT := fun σ H Q => t σ H fun c H1 => if c = true then u σ H1 Q else Q false H1
def tOr (t u : TT) : TT := fun σ H Q => t σ H fun c H1 => if c = true then Q true H1 else u σ H1 Q
def Zo2 (t : TT) : TT := fun σ H Q => t σ H fun c H1 => Q (!c) H1
theorem Z4s (ha : PT X a tA) : PW X (.BoolOp .And [a] pos) tA := by
 intro wh pins s σ H Q I h
 refine isTrue_and (thn (ha pins s σ H Q I h) fun c s1 e => ?_)
 cases c with
 | true => exact isTrue_and_nil e
 | false => exact e
theorem Z3u (ha : PT X a tA) : PW X (.BoolOp .Or [a] pos) tA := by
 intro wh pins s σ H Q I h
 refine isTrue_or (thn (ha pins s σ H Q I h) fun c s1 e => ?_)
 cases c with
 | false => exact isTrue_or_nil e
 | true => exact e
theorem Z6n (ha : PT X a tA) (hb : PW X (.BoolOp .And (b :: rest) pos) tB') : PW X (.BoolOp .And (a :: b :: rest) pos) (Zo1 tA tB') := by
 intro wh pins s σ H Q I h
 refine isTrue_and (thn (ha pins s σ H _ I h) fun c s1 ⟨H1, I1, q1⟩ => ?_)
 cases c with
 | true => exact hb wh pins s1 σ H1 Q I1 q1
 | false => exact ⟨H1, I1, q1⟩
theorem Z3r (ha : PT X a tA) (hb : PW X (.BoolOp .Or (b :: rest) pos) tB') : PW X (.BoolOp .Or (a :: b :: rest) pos) (tOr tA tB') := by
 intro wh pins s σ H Q I h
 refine isTrue_or (thn (ha pins s σ H _ I h) fun c s1 ⟨H1, I1, q1⟩ => ?_)
 cases c with
 | true => exact ⟨H1, I1, q1⟩
 | false => exact hb wh pins s1 σ H1 Q I1 q1
theorem Z2q (ha : PT X a tA) : PT X (.UnaryOp .Not a pos) (Zo2 tA) := by
 intro pins s σ H Q I h
 exact isTrue_not (ha pins s σ H (fun c H1 => Q (!c) H1) I h)
def Zmc (ta tb : TE) : TE := fun σ H Q => ta σ H fun x H1 => ∃ c, x = .bl c /\ if c = true then tb σ H1 Q else Q (.bl false) H1
def Zmd (ta : TE) : TE := fun σ H Q => ta σ H fun x H1 => ∃ c, x = .bl c /\ Q (.bl (!c)) H1
theorem Z39 {op} {t : TE} (h : PE X a t) : PE X (.BoolOp op [a] pos) t := fun pins s σ H Q I hw => BoolOp_one (h pins s σ H Q I hw)
theorem Z2r (ha : PE X a ta) (hb : PE X (.BoolOp .And (b :: rest) pos) tb) : PE X (.BoolOp .And (a :: b :: rest) pos) (Zmc ta tb) := by
 intro pins s σ H Q I h
 refine BoolOp_and (thn (ha pins s σ H _ I h) fun v s1 ⟨x, H1, I1, r1, q1⟩ => ?_)
 obtain ⟨c, rfl, q1⟩ := q1
 cases r1
 refine wpAny_truthy_bool ?_
 cases c with
 | true => exact hb pins s1 σ H1 Q I1 q1
 | false => exact ⟨.bl false, H1, I1, rfl, q1⟩
theorem Zch (ha : PE X a ta) : PE X (.UnaryOp .Not a pos) (Zmd ta) := by
 intro pins s σ H Q I h
 refine UnaryOp_ (thn (ha pins s σ H _ I h) fun v s1 ⟨x, H1, I1, r1, q1⟩ => ?_)
 obtain ⟨c, rfl, q1⟩ := q1
 cases r1
 exact not_of (wpAny_truthy_bool ⟨.bl (!c), H1, I1, rfl, q1⟩)
end
def SqL (K : PySem.W.Frag) (H : Hp) (a : Addr) (xs : List V) : Prop :=
 Rd H a (.lst xs) ∨
  ∃ (o : Obj) (its : Array Value) (n : Nat), K.lookup a = some o /\ o.cls = .type "list" /\ o.dict = none /\ o.data = .seq its n /\ its.size <= sizeLine /\ Vals xs its.toList
def SqT (K : PySem.W.Frag) (H : Hp) (a : Addr) (xs : List V) : Prop :=
 Rd H a (.tup xs) ∨
  ∃ (o : Obj) (its : Array Value) (n : Nat), K.lookup a = some o /\ o.cls = .type "tuple" /\ o.data = .seq its n /\ its.size <= sizeLine /\ Vals xs its.toList
def Zo3 : Value -> Option V
 | .none => some .non
 | .bool b => some (.bl b)
 | .int i _ => some (.int i)
 | .str x _ => some (.str x)
 | .bytes b _ => some (.byt b)
 | .float b _ => some (.flt b)
 | .ref a => some (.ref a)
 | .type n => some (.ty n)
 | _ => none
theorem RelV.abs {x : V} {u : Value} (r : RelV x u) : Zo3 u = some x := by
 cases x with
 | non => cases r; rfl
 | bl _ => cases r; rfl
 | int _ => obtain ⟨t, rfl⟩ := r; rfl
 | str _ => obtain ⟨t, rfl⟩ := r; rfl
 | byt _ => obtain ⟨t, rfl⟩ := r; rfl
 | flt _ => obtain ⟨t, rfl⟩ := r; rfl
 | ref _ => cases r; rfl
 | ty _ => cases r; rfl
theorem RelV.inj {x y : V} {u : Value} (r : RelV x u) (q : RelV y u) : x = y := Option.some.inj (r.abs.symm.trans q.abs)
theorem Vals.inj : ∀ {xs ys : List V} {us : List Value}, Vals xs us -> Vals ys us -> xs = ys
 | _, _, _, .nil, .nil => rfl
 | _, _, _, .cons r t, .cons r' t' => by rw [r.inj r', Vals.inj t t']
section
variable {X : Cx} {pins : List (Addr × Obj)} {σ : St} {H : Hp} {s : Shared} {a : Addr} {xs ys : List V}
theorem SqL.of {K : PySem.W.Frag} (h : H a = some (.lst xs)) : SqL K H a xs := .inl (.inl h)
theorem SqT.of {K : PySem.W.Frag} (h : H a = some (.tup xs)) : SqT K H a xs := .inl (.inl h)
theorem Inv.list (I : Inv X pins σ H s) (h : SqL X.K H a xs) : ∃ its : List Value, Vals xs its /\ PlainL s.heap a its.toArray /\ xs.length <= sizeLine := by
 rcases h with h | ⟨o, its, n, hk, hc, hd, hs, hz, r⟩
 ·obtain ⟨z, its, n, r, e⟩ := h.ok I.hok
  exact ⟨its, r, ⟨_, n, e, rfl, rfl, rfl⟩, z⟩
 ·refine ⟨its.toList, r, ⟨o, n, I.kIn a o hk, hc, hd, by simpa using hs⟩, ?_⟩
  have e := r.length
  simp only [Array.length_toList] at e
  omega
theorem Inv.tuple (I : Inv X pins σ H s) (h : SqT X.K H a xs) : ∃ its : List Value, Vals xs its /\ IsTup s.heap a its.toArray /\ xs.length <= sizeLine := by
 rcases h with h | ⟨o, its, n, hk, hc, hs, hz, r⟩
 ·obtain ⟨z, its, r, p⟩ := h.ok I.hok
  exact ⟨its, r, p, z⟩
 ·refine ⟨its.toList, r, ⟨o, I.kIn a o hk, hc, n, by simpa using hs⟩, ?_⟩
  have e := r.length
  simp only [Array.length_toList] at e
  omega
theorem Inv.list_inj (I : Inv X pins σ H s) (h : SqL X.K H a xs) (h' : SqL X.K H a ys) : xs = ys := by
 obtain ⟨its, r, ⟨o, n, e, _, _, d⟩, _⟩ := I.list h
 obtain ⟨its', r', ⟨o', n', e', _, _, d'⟩, _⟩ := I.list h'
 rw [e] at e'; cases e'
 rw [d] at d'
 injection d' with d1 _
 have : its = its' := by simpa using congrArg Array.toList d1
 subst this
 exact r.inj r'
theorem Inv.tuple_inj (I : Inv X pins σ H s) (h : SqT X.K H a xs) (h' : SqT X.K H a ys) : xs = ys := by
 obtain ⟨its, r, ⟨o, e, _, n, d⟩, _⟩ := I.tuple h
 obtain ⟨its', r', ⟨o', e', _, n', d'⟩, _⟩ := I.tuple h'
 rw [e] at e'; cases e'
 rw [d] at d'
 injection d' with d1 _
 have : its = its' := by simpa using congrArg Array.toList d1
 subst this
 exact r.inj r'
end
abbrev Cx.wish (X : Cx) (E : Value -> Shared -> Prop) : Cx := { X with xe := E }
abbrev Cx.nox (X : Cx) : Cx := X.wish fun _ _ => False
theorem Cx.Ok.wish {X : Cx} (ok : X.Ok) (E : Value -> Shared -> Prop) : (X.wish E).Ok :=
 ⟨ok.mod, ok.kind, ok.glob, ok.blt, ok.above, ok.inj, ok.has, ok.cab, ok.hd, ok.frames, ok.stk, ok.exf, ok.bs, ok.bsz, ok.noex, ok.exfs, ok.funs, ok.frf⟩
theorem Cx.Ok.unwish {X : Cx} {E : Value -> Shared -> Prop} (ok : (X.wish E).Ok) : X.Ok :=
 ⟨ok.mod, ok.kind, ok.glob, ok.blt, ok.above, ok.inj, ok.has, ok.cab, ok.hd, ok.frames, ok.stk, ok.exf, ok.bs, ok.bsz, ok.noex, ok.exfs, ok.funs, ok.frf⟩
section
variable {X : Cx} {pins : List (Addr × Obj)} {σ : St} {H : Hp} {s : Shared} {E : Value -> Shared -> Prop}
theorem Inv.wish (I : Inv X pins σ H s) (E : Value -> Shared -> Prop) : Inv (X.wish E) pins σ H s := ⟨I.ok.wish E, I.os, I.bare, I.base, I.loc, I.cell, I.free, I.freeC, I.pin, I.hok, I.len⟩
theorem Inv.unwish (I : Inv (X.wish E) pins σ H s) : Inv X pins σ H s := ⟨I.ok.unwish, I.os, I.bare, I.base, I.loc, I.cell, I.free, I.freeC, I.pin, I.hok, I.len⟩
theorem SP.unwish {D : Ends} {f : Flow} {s' : Shared} (h : SP (X.wish E) pins D f s') : SP X pins D f s' := by
 cases f with
 | next => obtain ⟨σ', H', I, q⟩ := h; exact ⟨σ', H', I.unwish, q⟩
 | brk => obtain ⟨σ', H', I, q⟩ := h; exact ⟨σ', H', I.unwish, q⟩
 | cont => obtain ⟨σ', H', I, q⟩ := h; exact ⟨σ', H', I.unwish, q⟩
 | ret u => obtain ⟨v, σ', H', I, r, q⟩ := h; exact ⟨v, σ', H', I.unwish, r, q⟩
theorem PSs.nox {st : List Stmt} {t : TS} (h : PSs X.nox st t) : PSs X st t := fun pins s σ H D I hw =>
 wpAny_mono (h pins s σ H D (I.wish _) hw) (fun _ _ q => q.unwish) fun _ _ z => False.elim z
end
section
variable {X : Cx} {st : Stmt} {rest : List Stmt} {t u : TS} {e : Expr} {te : TE} {pos : Pos}
def tNext : TS := fun D σ H => D.nx σ H
def Zo4 (t u : TS) : TS := fun D σ H => t { D with nx := u D } σ H
theorem Z0g : PSs X [] tNext := fun _ _ σ H _ I h => wpAny_execs_nil ⟨σ, H, I, h⟩
theorem Z04 (h1 : PS X st t) (h2 : PSs X rest u) : PSs X (st :: rest) (Zo4 t u) := by
 intro pins s σ H D I h
 refine wpAny_execs_cons (thn (h1 pins s σ H { D with nx := u D } I h) fun f s1 q => ?_)
 cases f with
 | next =>
  obtain ⟨σ', H', I', q⟩ := q
  exact h2 pins s1 σ' H' D I' q
 | ret v => exact q
 | brk => exact q
 | cont => exact q
theorem Z06 (h1 : PS X st t) : PSs X [st] t := by
 intro pins s σ H D I h
 refine wpAny_execs_cons (thn (h1 pins s σ H D I h) fun f s1 q => ?_)
 cases f with
 | next => exact wpAny_execs_nil q
 | ret v => exact q
 | brk => exact q
 | cont => exact q
theorem Inv.quiet {pins : List (Addr × Obj)} {σ : St} {H : Hp} {s : Shared} (I : Inv X pins σ H s) : interactive X.env = false := by simp [interactive, I.ok.kind]
def Zme (te : TE) : TS := fun D σ H => te σ H fun _ H1 => D.nx σ H1
theorem Z31 (he : PE X e te) (hs : swapsWith e none pos.line X.env = pure false := by rfl) : PS X (.Expr e pos) (Zme te) := by
 intro pins s σ H D I h
 exact wpAny_Expr_any (thn (he pins s σ H _ I h) fun v s1 ⟨x, H1, I1, r1, q1⟩ => ⟨σ, H1, I1, q1⟩) I.quiet hs
def Zo5 (te : TE) : TS := fun D σ H => te σ H D.rt
theorem Z0d (he : PE X e te) : PS X (.Return (some e) pos) (Zo5 te) := by
 intro pins s σ H D I h
 exact wpAny_Return_some (thn (he pins s σ H _ I h) fun v s1 ⟨x, H1, I1, r1, q1⟩ => ⟨x, σ, H1, I1, r1, q1⟩)
def Zo6 (c : TT) (t u : TS) : TS := fun D σ H => c σ H fun b H1 => if b = true then t D σ H1 else u D σ H1
theorem Z10 {c : Expr} {a b : List Stmt} {tc : TT} (hc : PT X c tc) (ha : PSs X a t) (hb : PSs X b u) : PS X (.If c a b pos) (Zo6 tc t u) := by
 intro pins s σ H D I h
 refine wpAny_If (thn (hc pins s σ H _ I h) fun d s1 ⟨H1, I1, q1⟩ => ?_)
 cases d with
 | true => exact ha pins s1 σ H1 D I1 q1
 | false => exact hb pins s1 σ H1 D I1 q1
end
abbrev TG := V -> St -> Hp -> (St -> Hp -> Prop) -> Prop
abbrev TGs := List V -> St -> Hp -> (St -> Hp -> Prop) -> Prop
def PG (X : Cx) (target : Expr) (t : TG) : Prop :=
 ∀ (pins : List (Addr × Obj)) (s : Shared) (σ : St) (H : Hp) (v : V) (u : Value) (Q : St -> Hp -> Prop), Inv X pins σ H s -> RelV v u -> t v σ H Q →
  wpAny (model X.prog X.w) X.A (assign target X.env u) (fun _ s' => ∃ σ' H', Inv X pins σ' H' s' /\ Q σ' H') X.xe s
def PGs (X : Cx) (ts : List Expr) (t : TGs) : Prop :=
 ∀ (pins : List (Addr × Obj)) (s : Shared) (σ : St) (H : Hp) (vs : List V) (us : List Value) (Q : St -> Hp -> Prop), Inv X pins σ H s -> Vals vs us -> t vs σ H Q →
  wpAny (model X.prog X.w) X.A (assignInOrder ((assignEach ts X.env).map (·.2)) us) (fun _ s' => ∃ σ' H', Inv X pins σ' H' s' /\ Q σ' H') X.xe s
abbrev TSet := V -> V -> V -> Hp -> (Hp -> Prop) -> Prop
def Znl (X : Cx) (t : TSet) : Prop :=
 ∀ (pins : List (Addr × Obj)) (s : Shared) (σ : St) (H : Hp) (o i v : V) (ov iv u : Value) (Q : Hp -> Prop), Inv X pins σ H s -> RelV o ov -> RelV i iv -> RelV v u -> t o i v H Q →
  wpAny (model X.prog X.w) X.A (setItem ov iv u) (fun _ s' => ∃ H', Inv X pins σ H' s' /\ Q H') X.xe s
section
variable {X : Cx} {pos : Pos}
def Z83 (i : Nat) : TG := fun v σ H Q => Q (σ.set i (some v)) H
theorem Z0o {i : Nat} {x : Str} (hN : X.N.Nodup) (hi : X.N[i]? = some x) (hx : Loc X.env.scope x) (hf : X.fn x = true ∨ X.env.scope.names.lookup x = some .local := by first | exact .inl rfl | exact .inr rfl | assumption) : PG X (.Name x pos) (Z83 i) := by
 intro pins s σ H v u Q I r h
 exact wpAny_assign_Name (Za8 I hN hi hx r (fun s' I' => ⟨_, H, I', h⟩) hf)
def gNil : TGs := fun vs σ H Q => vs = [] /\ Q σ H
def Zi4 (t : TG) (u : TGs) : TGs := fun vs σ H Q => ∃ v r, vs = v :: r /\ t v σ H fun σ' H' => u r σ' H' Q
theorem Z4t : PGs X [] gNil := by
 intro pins s σ H vs us Q I r h
 obtain ⟨e, h⟩ := h
 subst e
 cases r
 exact assignInOrder_nil ⟨σ, H, I, h⟩
theorem Z1e {e : Expr} {es : List Expr} {t : TG} {u : TGs} (h1 : PG X e t) (h2 : PGs X es u)
  (hs : (assignEach (e :: es) X.env).map (·.2) = assign e X.env :: (assignEach es X.env).map (·.2) := by rfl) : PGs X (e :: es) (Zi4 t u) := by
 intro pins s σ H vs us Q I r h
 obtain ⟨v, vr, e1, h⟩ := h
 subst e1
 cases r with
 | cons r rr =>
  rw [hs]
  refine assignInOrder_cons (thn (h1 pins s σ H _ _ _ I r h) fun _ s1 ⟨σ1, H1, I1, q1⟩ => ?_)
  exact h2 pins s1 σ1 H1 _ _ Q I1 rr q1
def Znm (K : PySem.W.Frag) (n : Nat) (t : TGs) : TG := fun v σ H Q => ∃ a xs, v = .ref a /\ SqT K H a xs /\ xs.length = n /\ t xs σ H Q
theorem Z6o {es : List Expr} {k : Nat} {t : TGs} {n : Nat} (hc : X.calm = true) (h : PGs X es t)
  (hn : (assignEach es X.env).length = n := by rfl) (hst : (assignEach es X.env).findIdx? (·.1) = none := by rfl) : PG X (.Tuple es k pos) (Znm X.K n t) := by
 intro pins s σ H v u Q I r hw
 obtain ⟨a, xs, e1, hq, hl, hw⟩ := hw
 subst e1
 cases r
 obtain ⟨its, rv, ht, hz⟩ := I.tuple hq
 refine assign_Tuple_tuple (I.ok.hd hc) ht (by simp [hn, <- hl, rv.length]) hst fun h' hx => ?_
 have I1 : Inv X pins σ H { s with heap := h' } := I.kept (t' := s.toks) fun b o e => hx b o (Nat.ne_of_lt (Heap.lt_size e)) e
 exact h pins _ σ H xs _ Q I1 (by simpa using rv) hw
def Zo7 (to ti : TE) (t : TSet) : TG := fun v σ H Q => to σ H fun o H1 => ti σ H1 fun i H2 => t o i v H2 fun H3 => Q σ H3
theorem Zk8 {o i : Expr} {to ti : TE} {t : TSet} (ho : PE X o to) (hi : PE X i ti) (hs : Znl X t)
  (ha : ∀ v, assign (.Subscript o i pos) X.env v = (do
   let ov ← holding [v] (eval o X.env)
   let iv ← holding [v, ov] (eval i X.env)
   standAt pos
   holding [v, ov, iv] (setItem ov iv v)
   release [v, ov, iv] []) := by intro _; rfl) : PG X (.Subscript o i pos) (Zo7 to ti t) := by
 intro pins s σ H v u Q I r h
 rw [ha]
 refine wpAny_bind (wpAny_holding (thn (ho pins s σ H _ I h) fun ov s1 ⟨x, H1, I1, r1, q1⟩ => ?_))
 refine wpAny_bind (wpAny_holding (thn (hi pins s1 σ H1 _ I1 q1) fun iv s2 ⟨y, H2, I2, r2, q2⟩ => ?_))
 refine wpAny_bind (wpAny_standAt (wpAny_bind (wpAny_holding (thn (hs pins s2 σ H2 x y v ov iv u _ I2 r1 r2 r q2) fun _ s3 ⟨H3, I3, q3⟩ => ?_))))
 exact wpAny_release ⟨σ, H3, I3, q3⟩
def Zk9 (te : TE) (g : TG) : TS := fun D σ H => te σ H fun x H1 => g x σ H1 D.nx
theorem Zaa {tg e : Expr} {te : TE} {g : TG} (he : PE X e te) (hg : PG X tg g) (hs : swapsWithSole [tg] e pos.line X.env = pure false := by rfl) (hw : swappedStores [tg] e X.env = pure none := by rfl)
  (h1 : (assignEach [tg] X.env).map (·.2) = [assign tg X.env] := by rfl) : PS X (.Assign [tg] e pos) (Zk9 te g) := by
 intro pins s σ H D I h
 refine wpAny_Assign_stores (thn (he pins s σ H _ I h) fun v s1 ⟨x, H1, I1, r1, q1⟩ => ?_) hs hw
 rw [h1]
 exact thn (hg pins s1 σ H1 x v _ I1 r1 q1) fun _ s2 q => q
theorem Z0c {i : Nat} {x : Str} {e : Expr} {te : TE} {pos' : Pos} (hN : X.N.Nodup) (hi : X.N[i]? = some x) (hx : Loc X.env.scope x) (he : PE X e te) (hs : swapsWith e (some (.Name x pos')) pos.line X.env = pure false := by rfl) (hf : X.fn x = true ∨ X.env.scope.names.lookup x = some .local := by first | exact .inl rfl | exact .inr rfl | assumption) :
  PS X (.Assign [.Name x pos'] e pos) (Zk9 te (Z83 i)) := by
 intro pins s σ H D I h
 refine wpAny_Assign_Name (thn (he pins s σ H _ I h) fun v s1 ⟨y, H1, I1, r1, q1⟩ => ?_) hs
 exact Za8 I1 hN hi hx r1 (fun s2 I2 => ⟨_, H1, I2, q1⟩) hf
end
section
variable {X : Cx} {pos : Pos}
def Zci (c : TT) (tb : TS) : TS := fun D σ H => ∃ W : Nat -> St -> Hp -> Prop, (∃ m, W m σ H) /\ ∀ m σ H, W m σ H →
 c σ H fun b H1 => if b = true then ∃ N : St -> Hp -> Prop, (∀ σ' H', N σ' H' -> ∃ m', m' < m /\ W m' σ' H') /\ tb { D with nx := N, ct := N, bk := D.nx } σ H1 else D.nx σ H1
theorem Z7e {c : Expr} {body : List Stmt} {tc : TT} {tb : TS} (hp : PassesOwn (model X.prog X.w) X.A X.env X.xe) (hc : PT X c tc) (hb : PSs X body tb) : PS X (.While c body [] pos) (Zci tc tb) := by
 intro pins s σ H D I h
 obtain ⟨W, ⟨m0, w0⟩, turn⟩ := h
 refine wpAny_While (codeAny_whileLoop (fun n s' => ∃ σ' H', Inv X pins σ' H' s' /\ W n σ' H') ?_ m0 ⟨σ, H, I, w0⟩)
 rintro n s1 ⟨σ1, H1, I1, w1⟩
 refine wpAny_passesOwn hp (thn (hc pins s1 σ1 H1 _ I1 (turn n σ1 H1 w1)) fun b s2 ⟨H2, I2, q2⟩ => ?_)
 cases b with
 | true =>
  obtain ⟨N, hN, q2⟩ := q2
  rw [if_pos rfl]
  refine wpAny_passesOwn hp (thn (hb pins s2 σ1 H2 _ I2 q2) fun f s3 q3 => ?_)
  cases f with
  | next =>
   obtain ⟨σ3, H3, I3, n3⟩ := q3
   obtain ⟨m', hm, w3⟩ := hN σ3 H3 n3
   exact ⟨m', hm, σ3, H3, I3, w3⟩
  | cont =>
   obtain ⟨σ3, H3, I3, n3⟩ := q3
   obtain ⟨m', hm, w3⟩ := hN σ3 H3 n3
   exact ⟨m', hm, σ3, H3, I3, w3⟩
  | brk => exact q3
  | ret v => exact q3
 | false =>
  rw [if_neg Bool.false_ne_true]
  exact wpAny_execs_nil ⟨σ1, H2, I2, q2⟩
end
structure It where
 go : Nat -> Hp -> Prop
 yld : Nat -> Hp -> V -> Hp -> Prop
 stop : Nat -> Hp -> Prop
def Z6f (X : Cx) (pins : List (Addr × Obj)) (H : Hp) (b : Addr) : Prop :=
 H b = none /\ b ≠ X.env.locals /\ b ∉ X.fs /\ (b ∈ X.ex ∨ X.s₀.heap.objs.size <= b) /\ (∀ x c, X.env.cells.lookup x = some c -> c ≠ b) /\ ∀ p ∈ X.pn ++ pins, p.1 ≠ b
theorem Inv.fpOk {X : Cx} {pins : List (Addr × Obj)} {σ : St} {H H' : Hp} {s : Shared} {b : Addr} (I : Inv X pins σ H s) (hb : s.heap.objs.size <= b) (hn : H' b = none) : Z6f X pins H' b := by
 refine ⟨hn, Nat.ne_of_gt (Nat.lt_of_lt_of_le I.lt hb), I.nofs hb, .inr (Nat.le_trans I.sz hb), fun x c e z => ?_, fun p hp z => ?_⟩
 ·obtain ⟨v, q⟩ := I.cell x c e
  exact absurd (Nat.lt_of_lt_of_le q.lt (by rw [z]; exact hb)) (Nat.lt_irrefl _)
 ·exact absurd (Nat.lt_of_lt_of_le (Heap.lt_size (I.pin p hp).1) (by rw [z]; exact hb)) (Nat.lt_irrefl _)
structure Turn (P : Program) (w : World) (K : PySem.W.Frag) (tg : Expr) (J : It) (fp : List Addr) (it : Addr) (tn : Nat -> Heap -> Prop) : Prop where
 mem : it ∈ fp
 obj : ∀ i h, tn i h -> ∀ b ∈ fp, ∃ o, h.get? b = some o /\ ∀ v, o.data ≠ .cell v
 keep : ∀ i h h', tn i h -> (∀ b ∈ fp, ∀ o, h.get? b = some o -> h'.get? b = some o) -> tn i h'
 item : ∀ (X : Cx), X.prog = P -> X.w = w -> X.K = K -> X.calm = true -> ∀ (i : Nat) (pins : List (Addr × Obj)) (s : Shared) (σ : St) (H : Hp) (E : Value -> Shared -> Prop), Inv X pins σ H s -> (∀ b ∈ fp, Z6f X pins H b) -> tn i s.heap -> J.go i H →
  wpAny (model P w) X.A (pyNext (.ref it)) (fun r s1 => ∃ u, r = some u ∧
   wpAny (model P w) X.A (letOwnedTupleGo tg (.ref it) u) (fun _ s2 => ∃ x H', Inv X pins σ H' s2 /\ RelV x u /\ J.yld i H x H' /\ tn (i + 1) s2.heap /\ ∀ b ∈ fp, H' b = none) E s1) E s
 done : ∀ (X : Cx), X.prog = P -> X.w = w -> X.K = K -> X.calm = true -> ∀ (i : Nat) (pins : List (Addr × Obj)) (s : Shared) (σ : St) (H : Hp) (E : Value -> Shared -> Prop), Inv X pins σ H s -> (∀ b ∈ fp, Z6f X pins H b) -> tn i s.heap -> J.stop i H →
  wpAny (model P w) X.A (pyNext (.ref it)) (fun r s1 => r = none /\ Inv X pins σ H s1) E s
 self : ∀ (A : Around) (i : Nat) (s : Shared) (Q : Value -> Shared -> Prop) (E : Value -> Shared -> Prop), tn i s.heap -> Q (.ref it) s -> wpAny (model P w) A (pyIter (.ref it)) Q E s
abbrev TI := St -> Hp -> (It -> Hp -> Prop) -> Prop
def PIE (X : Cx) (pins : List (Addr × Obj)) (σ : St) (tg : Expr) (R : It -> Hp -> Prop) (itv : Value) (s2 : Shared) : Prop :=
 ∃ (it : Addr) (fp : List Addr) (tn : Nat -> Heap -> Prop) (J : It) (H' : Hp), itv = .ref it /\ Inv X pins σ H' s2 /\ Turn X.prog X.w X.K tg J fp it tn /\ tn 0 s2.heap /\ (∀ b ∈ fp, Z6f X pins H' b) /\ R J H'
def PI (X : Cx) (tg iter : Expr) (wi : TI) : Prop :=
 ∀ (pins : List (Addr × Obj)) (s : Shared) (σ : St) (H : Hp) (R : It -> Hp -> Prop), Inv X pins σ H s -> wi σ H R →
  wpAny (model X.prog X.w) X.A (eval iter X.env) (fun v s1 => wpAny (model X.prog X.w) X.A (pyIter v) (PIE X pins σ tg R) X.xe s1) X.xe s
theorem Zez {M : Model} {A : Around} {E : Value -> Shared -> Prop} {s : Shared} {tg : Expr} {it : Addr} {u : Value} {o : Obj} {n : String} {vs : Array Value} {Q : Unit -> Shared -> Prop} (ho : s.heap.get? it = some o) (hc : o.cls = .type n) (hd : o.data = .fields vs)
  (hn : ["enumerate", "zip", "dict_itemiterator", "dict_reverseitemiterator", "odict_iterator", "itertools.zip_longest", "itertools.pairwise"].contains n = false) (hQ : Q () s) : wpAny M A (letOwnedTupleGo tg (.ref it) u) Q E s := by
 unfold letOwnedTupleGo
 cases tg <;> first
  | exact wpAny_pure hQ
  | (cases u <;> first
    | exact wpAny_pure hQ
    | (refine wpAny_bind (wpAny_load ho ?_)
       rw [hc, hd]
       show wpAny M A (if (["enumerate", "zip", "dict_itemiterator", "dict_reverseitemiterator", "odict_iterator", "itertools.zip_longest", "itertools.pairwise"].contains n && vs[0]? == some (rawInt _)) = true then _ else _) Q E s
       rw [if_neg (by intro h; rw [hn, Bool.false_and] at h; cases h)]
       exact wpAny_pure hQ))
def Itl (K : PySem.W.Frag) (a : Addr) : It :=
 ⟨fun i H => ∃ xs x, SqL K H a xs /\ xs[i]? = some x, fun i H x H' => H' = H /\ ∀ xs, SqL K H a xs -> xs[i]? = some x, fun i H => ∃ xs, SqL K H a xs /\ xs.length <= i⟩
def Itt (K : PySem.W.Frag) (a : Addr) : It :=
 ⟨fun i H => ∃ xs x, SqT K H a xs /\ xs[i]? = some x, fun i H x H' => H' = H /\ ∀ xs, SqT K H a xs -> xs[i]? = some x, fun i H => ∃ xs, SqT K H a xs /\ xs.length <= i⟩
def Itr (lo : Int) (n : Nat) : It := ⟨fun i _ => i < n, fun i H x H' => H' = H /\ x = .int (lo + i), fun i _ => n <= i⟩
theorem Zcj {P : Program} {w : World} {K : PySem.W.Frag} {tg : Expr} (a it : Addr) : Turn P w K tg (Itl K a) [it] it (fun i h => h.IsListIter it a i) where
 mem := by simp
 obj := fun i h st b hb => by
  have e : b = it := by simpa using hb
  subst e
  obtain ⟨o, e, c, d⟩ := st
  exact ⟨o, e, fun v z => by rw [d] at z; cases z⟩
 keep := fun i h h' st k => st.at fun o e => k it (by simp) o e
 item := by
  intro X hP hw hK hc i pins s σ H E I hf st hg
  subst hP hw hK
  obtain ⟨xs, x, hq, hx⟩ := hg
  obtain ⟨its, rv, p, hz⟩ := I.list hq
  obtain ⟨u, hu, ru⟩ := rv.get hx
  obtain ⟨f0, f1, f2, f3, f4, f5⟩ := hf it (by simp)
  refine wpAny_pyNext_list_item st p.isList (x := u) (by simpa using hu) fun h' st' sb => ?_
  have I1 : Inv X pins σ H { s with heap := h' } := I.turned (t' := s.toks) (fun b o hb e => (sb.2 b hb).trans e) f0 f1 f3 f4 f5
  obtain ⟨o, e, c, d⟩ := id st'
  exact ⟨u, rfl, Zez (s := { s with heap := h' }) e c d (by decide) ⟨x, H, I1, ru, ⟨rfl, fun ys hy => by rw [I.list_inj hy hq]; exact hx⟩, st', fun b hb => (hf b hb).1⟩⟩
 done := by
  intro X hP hw hK hc i pins s σ H E I hf st hg
  subst hP hw hK
  obtain ⟨xs, hq, hx⟩ := hg
  obtain ⟨its, rv, p, hz⟩ := I.list hq
  obtain ⟨f0, f1, f2, f3, f4, f5⟩ := hf it (by simp)
  have hl := rv.length
  exact wpAny_pyNext_list_end (I.ok.hd hc) st p.isList (by simp; omega) fun h' eb => ⟨rfl, I.turned (t' := s.toks) (fun b o hb e => eb b o hb e) f0 f1 f3 f4 f5⟩
 self := fun _ _ _ _ _ st h => wpAny_pyIter_listiter st h
theorem Zbm {P : Program} {w : World} {K : PySem.W.Frag} {tg : Expr} (a it : Addr) : Turn P w K tg (Itt K a) [it] it (fun i h => h.IsTupleIter it a i) where
 mem := by simp
 obj := fun i h st b hb => by
  have e : b = it := by simpa using hb
  subst e
  obtain ⟨o, e, c, d⟩ := st
  exact ⟨o, e, fun v z => by rw [d] at z; cases z⟩
 keep := fun i h h' st k => st.at fun o e => k it (by simp) o e
 item := by
  intro X hP hw hK hc i pins s σ H E I hf st hg
  subst hP hw hK
  obtain ⟨xs, x, hq, hx⟩ := hg
  obtain ⟨its, rv, p, hz⟩ := I.tuple hq
  obtain ⟨u, hu, ru⟩ := rv.get hx
  obtain ⟨f0, f1, f2, f3, f4, f5⟩ := hf it (by simp)
  refine wpAny_pyNext_tuple_item st (show s.heap.IsTuple a its.toArray from p) (x := u) (by simpa using hu) fun h' st' sb => ?_
  have I1 : Inv X pins σ H { s with heap := h' } := I.turned (t' := s.toks) (fun b o hb e => (sb.2 b hb).trans e) f0 f1 f3 f4 f5
  obtain ⟨o, e, c, d⟩ := id st'
  exact ⟨u, rfl, Zez (s := { s with heap := h' }) e c d (by decide) ⟨x, H, I1, ru, ⟨rfl, fun ys hy => by rw [I.tuple_inj hy hq]; exact hx⟩, st', fun b hb => (hf b hb).1⟩⟩
 done := by
  intro X hP hw hK hc i pins s σ H E I hf st hg
  subst hP hw hK
  obtain ⟨xs, hq, hx⟩ := hg
  obtain ⟨its, rv, p, hz⟩ := I.tuple hq
  obtain ⟨f0, f1, f2, f3, f4, f5⟩ := hf it (by simp)
  have hl := rv.length
  exact wpAny_pyNext_tuple_end (I.ok.hd hc) st (show s.heap.IsTuple a its.toArray from p) (by simp; omega) fun h' eb => ⟨rfl, I.turned (t' := s.toks) (fun b o hb e => eb b o hb e) f0 f1 f3 f4 f5⟩
 self := fun _ _ _ _ _ st h => wpAny_pyIter_tupleiter st h
theorem Zbn {P : Program} {w : World} {K : PySem.W.Frag} {tg : Expr} (it : Addr) (lo : Int) (n : Nat) : Turn P w K tg (Itr lo n) [it] it (fun i h => IsRangeIter h it (lo + (i : Nat) * 1) ((n : Int) - (i : Nat)) 1) where
 mem := by simp
 obj := fun i h st b hb => by
  have e : b = it := by simpa using hb
  subst e
  exact ⟨_, st, fun v z => by
   have z' : Data.fields _ = Data.cell v := z
   cases z'⟩
 keep := fun i h h' st k => k it (by simp) _ st
 item := by
  intro X hP hw hK hc i pins s σ H E I hf st hg
  subst hP hw hK
  obtain ⟨f0, f1, f2, f3, f4, f5⟩ := hf it (by simp)
  have W := Walks.range (prog := X.prog) (w := X.w) (I.ok.hd hc) it lo 1 n
  refine W.item i s _ _ hg st fun v h' tk hv st' kk => ?_
  obtain ⟨t, rfl⟩ := hv
  have I1 : Inv X pins σ H { s with heap := h', toks := tk } := I.turned (fun b o hb e => kk b o (by simpa using hb) e) f0 f1 f3 f4 f5
  refine ⟨_, rfl, Zez (s := { s with heap := h', toks := tk }) (n := "range_iterator") st' rfl rfl (by decide) ⟨.int (lo + i), H, I1, ⟨t, ?_⟩, ⟨rfl, rfl⟩, st', fun b hb => (hf b hb).1⟩⟩
  rw [Int.mul_one]
 done := by
  intro X hP hw hK hc i pins s σ H E I hf st hg
  subst hP hw hK
  obtain ⟨f0, f1, f2, f3, f4, f5⟩ := hf it (by simp)
  exact wpAny_pyNext_range_end (I.ok.hd hc) st (by have : n <= i := hg; omega) fun h' eb => ⟨rfl, I.turned (t' := s.toks) (fun b o hb e => eb b o hb e) f0 f1 f3 f4 f5⟩
 self := fun _ _ _ _ _ st h => wpAny_pyIter_rangeiter st h
section
variable {X : Cx} {tg : Expr}
def Zmf (K : PySem.W.Frag) (tl : TE) : TI := fun σ H R => tl σ H fun x H1 => ∃ a, x = .ref a /\ (∃ xs, SqL K H1 a xs) /\ R (Itl K a) H1
def Zo8 (K : PySem.W.Frag) (tl : TE) : TI := fun σ H R => tl σ H fun x H1 => ∃ a, x = .ref a /\ (∃ xs, SqT K H1 a xs) /\ R (Itt K a) H1
theorem Z4u {l : Expr} {tl : TE} (hl : PE X l tl) : PI X tg l (Zmf X.K tl) := by
 intro pins s σ H R I h
 refine thn (hl pins s σ H _ I h) fun v s1 ⟨x, H1, I1, r1, q1⟩ => ?_
 obtain ⟨a, e, ⟨xs, hq⟩, q⟩ := q1
 subst e
 cases r1
 obtain ⟨its, rv, p, hz⟩ := I1.list hq
 refine wpAny_pyIter_list p.isList ?_
 refine ⟨s1.heap.objs.size, [s1.heap.objs.size], _, _, H1, rfl, I1.kept (t' := s1.toks) fun b o e => Heap.get?_push_of_some _ e, Zcj a _, ⟨_, Heap.get?_push_size _ rfl, rfl, rfl⟩, fun b hb => ?_, q⟩
 have e : b = s1.heap.objs.size := by simpa using hb
 subst e
 exact I1.fpOk (Nat.le_refl _) (I1.hok.fresh (Nat.le_refl _))
theorem Z84 {l : Expr} {tl : TE} (hl : PE X l tl) : PI X tg l (Zo8 X.K tl) := by
 intro pins s σ H R I h
 refine thn (hl pins s σ H _ I h) fun v s1 ⟨x, H1, I1, r1, q1⟩ => ?_
 obtain ⟨a, e, ⟨xs, hq⟩, q⟩ := q1
 subst e
 cases r1
 obtain ⟨its, rv, p, hz⟩ := I1.tuple hq
 refine wpAny_pyIter_tuple (show s1.heap.IsTuple a its.toArray from p) ?_
 refine ⟨s1.heap.objs.size, [s1.heap.objs.size], _, _, H1, rfl, I1.kept (t' := s1.toks) fun b o e => Heap.get?_push_of_some _ e, Zbm a _, ⟨_, Heap.get?_push_size _ rfl, rfl, rfl⟩, fun b hb => ?_, q⟩
 have e : b = s1.heap.objs.size := by simpa using hb
 subst e
 exact I1.fpOk (Nat.le_refl _) (I1.hok.fresh (Nat.le_refl _))
theorem Zf0 {pins : List (Addr × Obj)} {σ : St} {H : Hp} {s : Shared} {R : It -> Hp -> Prop} {E : Value -> Shared -> Prop} {lo hi : Int} {t u v : Tok} {tk : Nat} (I : Inv X pins σ H s) (h1 : -(2 ^ 62) <= lo) (h2 : lo < 2 ^ 62) (h3 : -(2 ^ 62) <= hi) (h4 : hi < 2 ^ 62)
  (q : R (Itr lo (hi - lo).toNat) H) : wpAny (model X.prog X.w) X.A (pyIter (.ref s.heap.objs.size)) (PIE X pins σ tg R) E { s with heap := s.heap.push { cls := .type "range", data := .fields #[.int lo t, .int hi u, .int 1 v] }, toks := tk } := by
 refine wpAny_pyIter_range (IsRange.new ..) (small_one h1 h2 h3 h4) ?_
 have I1 : Inv X pins σ H { s with heap := s.heap.push { cls := .type "range", data := .fields #[.int lo t, .int hi u, .int 1 v] }, toks := tk } := I.kept fun b o e => Heap.get?_push_of_some _ e
 refine ⟨(s.heap.push { cls := .type "range", data := .fields #[.int lo t, .int hi u, .int 1 v] }).objs.size, [(s.heap.push { cls := .type "range", data := .fields #[.int lo t, .int hi u, .int 1 v] }).objs.size], _, _, H, rfl,
  I1.kept (t' := tk) fun b o e => Heap.get?_push_of_some _ e, Zbn _ lo (hi - lo).toNat, ?_, fun b hb => ?_, q⟩
 ·have e1 : lo + ((0 : Nat) : Int) * 1 = lo := by simp
  have e2 : (((hi - lo).toNat : Nat) : Int) - ((0 : Nat) : Int) = Builtin.Range.rangeSize lo hi 1 := by rw [rangeSize_one]; split <;> omega
  show IsRangeIter _ _ (lo + ((0 : Nat) : Int) * 1) ((((hi - lo).toNat : Nat) : Int) - ((0 : Nat) : Int)) 1
  rw [e1, e2]
  exact Heap.get?_push_size _ rfl
 ·have e : b = (s.heap.push { cls := .type "range", data := .fields #[.int lo t, .int hi u, .int 1 v] }).objs.size := by simpa using hb
  subst e
  exact I1.fpOk (Nat.le_refl _) (I1.hok.fresh (Nat.le_refl _))
def Zka (ta : TA) : TI := fun σ H R => ta σ H fun vs H1 => ∃ j : Int, vs = [.int j] /\ -(2 ^ 62) <= j /\ j < 2 ^ 62 /\ R (Itr 0 j.toNat) H1
theorem Z19 {a : Expr} {ta : TA} {p pos : Pos} (hg : Gl X "range") (hm : X.mg "range" = none) (ha : PA X [a] ta) (hs : starEach [a] X.env = [(false, eval a X.env)] := by rfl) : PI X tg (.Call (.Name "range" p) [a] [] pos) (Zka ta) := by
 intro pins s σ H R I h
 refine Call_ (Z82 I hg hm boot_range (PyProof.Rows.callWith_type1 (thn (ha pos pins s σ H _ I h) fun us s1 ⟨vs, H1, I1, r1, q1⟩ => ?_) hs rfl))
 obtain ⟨j, e, q1, q2, q⟩ := q1
 subst e
 cases r1 with
 | cons r rr =>
  cases rr
  obtain ⟨t, rfl⟩ := r
  exact call_range_1 (Zf0 I1 (by omega) (by omega) q1 q2 (by simpa using q))
def Zo9 (wi : TI) (g : TG) (tb : TS) : TS := fun D σ H => wi σ H fun J H1 => ∃ W : Nat -> Nat -> St -> Hp -> Prop, (∃ m, W 0 m σ H1) /\ ∀ i m σ H, W i m σ H →
 (J.stop i H /\ D.nx σ H) ∨ (J.go i H /\ ∃ N : St -> Hp -> Prop, (∀ σ' H', N σ' H' -> ∃ m', m' < m /\ W (i + 1) m' σ' H') /\ ∀ x H', J.yld i H x H' -> g x σ H' fun σ2 H2 => tb { D with nx := N, ct := N, bk := D.nx } σ2 H2)
def Z85 (fp : List Addr) (h : Heap) : List (Addr × Obj) := fp.filterMap fun b => (h.get? b).map fun o => (b, o)
theorem Z3k {fp : List Addr} {h : Heap} {b : Addr} {o : Obj} (hb : b ∈ fp) (e : h.get? b = some o) : (b, o) ∈ Z85 fp h := List.mem_filterMap.mpr ⟨b, hb, by rw [e]; rfl⟩
theorem Zck {fp : List Addr} {h : Heap} {p : Addr × Obj} (hp : p ∈ Z85 fp h) : p.1 ∈ fp /\ h.get? p.1 = some p.2 := by
 obtain ⟨b, hb, e⟩ := List.mem_filterMap.mp hp
 cases q : h.get? b with
 | none => rw [q] at e; cases e
 | some o =>
  rw [q] at e
  have e' : (b, o) = p := Option.some.inj e
  subst e'
  exact ⟨hb, q⟩
theorem Inv.pinned {pins : List (Addr × Obj)} {σ : St} {H : Hp} {s : Shared} {fp : List Addr} (I : Inv X pins σ H s) (hf : ∀ b ∈ fp, Z6f X pins H b) (ho : ∀ b ∈ fp, ∃ o, s.heap.get? b = some o /\ ∀ v, o.data ≠ .cell v) : Inv X (pins ++ Z85 fp s.heap) σ H s :=
 I.pins_of fun p hp => (List.mem_append.mp hp).elim (fun z => I.pin p (List.mem_append_right _ z)) fun z => by
  obtain ⟨hb, e⟩ := Zck z
  obtain ⟨f0, f1, f2, _⟩ := hf p.1 hb
  obtain ⟨o, e', d⟩ := ho p.1 hb
  rw [e] at e'; cases e'
  exact ⟨e, f0, f1, f2, d⟩
theorem Inv.unpinned {pins pl : List (Addr × Obj)} {σ : St} {H : Hp} {s : Shared} (I : Inv X (pins ++ pl) σ H s) : Inv X pins σ H s := I.pins_of fun p hp => I.pin p (List.mem_append_right _ (List.mem_append_left _ hp))
theorem Z44 {iter : Expr} {body : List Stmt} {wi : TI} {g : TG} {tb : TS} {pos : Pos} (hp : PassesOwn (model X.prog X.w) X.A X.env X.xe) (hc : X.calm = true) (hi : PI X tg iter wi) (hg : PG X tg g) (hb : PSs X body tb)
  (hs : ∀ x, foldedSetIterable iter X.env x = pure x := by intro _; rfl) : PS X (.For tg iter body [] pos) (Zo9 wi g tb) := by
 intro pins s σ H D I h
 refine wpAny_For (thn (hi pins s σ H _ I h) fun v s1 h1 => thn h1 fun itv s2 h2 => ?_) hs
 obtain ⟨it, fp, tn, J, H2, e, I2, T, st2, f2, W, ⟨m0, w0⟩, turn⟩ := h2
 subst e
 have stat : ∀ {H' : Hp}, (∀ b ∈ fp, H' b = none) -> ∀ b ∈ fp, Z6f X pins H' b := fun hn b hb => ⟨hn b hb, (f2 b hb).2⟩
 refine codeAny_forLoop_any (fun n s' => ∃ i σ' H', Inv X pins σ' H' s' /\ tn i s'.heap /\ (∀ b ∈ fp, H' b = none) /\ W i n σ' H') ?_ m0 ⟨0, σ, H2, I2, st2, fun b hb => (f2 b hb).1, w0⟩
 rintro n s3 ⟨i, σ3, H3, I3, st3, fr3, w3⟩
 rcases turn i n σ3 H3 w3 with ⟨stop, qn⟩ | ⟨go, N, hN, step⟩
 ·refine wpAny_passesOwn hp (thn (T.done X rfl rfl rfl hc i pins s3 σ3 H3 X.xe I3 (stat fr3) st3 stop) fun r s4 ⟨hr, I4⟩ => ?_)
  subst hr
  exact wpAny_execs_nil ⟨σ3, H3, I4, qn⟩
 ·refine wpAny_passesOwn hp (thn (T.item X rfl rfl rfl hc i pins s3 σ3 H3 X.xe I3 (stat fr3) st3 go) fun r s4 ⟨u, hr, h4⟩ => ?_)
  subst hr
  refine wpAny_passesOwn hp (thn h4 fun _ s5 ⟨x, H5, I5, r5, y5, st5, fr5⟩ => ?_)
  have I5' := I5.pinned (stat fr5) (T.obj _ _ st5)
  refine wpAny_passesOwn hp (thn (hg _ s5 σ3 H5 x u _ I5' r5 (step x H5 y5)) fun _ s6 ⟨σ6, H6, I6, q6⟩ => ?_)
  refine wpAny_passesOwn hp (thn (hb _ s6 σ6 H6 _ I6 q6) fun f s7 q7 => ?_)
  have again : ∀ {σ7 : St} {H7 : Hp}, Inv X (pins ++ Z85 fp s5.heap) σ7 H7 s7 -> N σ7 H7 -> ∃ m, m < n /\ ∃ i σ' H', Inv X pins σ' H' s7 /\ tn i s7.heap /\ (∀ b ∈ fp, H' b = none) /\ W i m σ' H' := fun {σ7 H7} I7 n7 => by
   obtain ⟨m', hm, w7⟩ := hN σ7 H7 n7
   refine ⟨m', hm, i + 1, σ7, H7, I7.unpinned, T.keep _ _ _ st5 fun b hb o e => (I7.pin (b, o) (List.mem_append_right _ (List.mem_append_right _ (Z3k hb e)))).1, fun b hb => ?_, w7⟩
   obtain ⟨o, e, d⟩ := T.obj _ _ st5 b hb
   exact (I7.pin (b, o) (List.mem_append_right _ (List.mem_append_right _ (Z3k hb e)))).2.1
  cases f with
  | next => obtain ⟨σ7, H7, I7, n7⟩ := q7; exact again I7 n7
  | cont => obtain ⟨σ7, H7, I7, n7⟩ := q7; exact again I7 n7
  | brk => obtain ⟨σ7, H7, I7, q7⟩ := q7; exact ⟨σ7, H7, I7.unpinned, q7⟩
  | ret v => obtain ⟨x7, σ7, H7, I7, r7, q7⟩ := q7; exact ⟨x7, σ7, H7, I7.unpinned, r7, q7⟩
end
theorem Zab {K : PySem.W.Frag} {a : Addr} {xs : List V} {g : TG} {tb : TS} {D : Ends} {σ : St} {H : Hp} (Pv : Nat -> St -> Hp -> Prop) (h0 : Pv 0 σ H) (hl : ∀ i σ H, i <= xs.length -> Pv i σ H -> SqL K H a xs)
  (hs : ∀ i x σ H, xs[i]? = some x -> Pv i σ H -> g x σ H fun σ2 H2 => tb { D with nx := Pv (i + 1), ct := Pv (i + 1), bk := D.nx } σ2 H2) (hd : ∀ σ H, Pv xs.length σ H -> D.nx σ H) :
  ∃ W : Nat -> Nat -> St -> Hp -> Prop, (∃ m, W 0 m σ H) /\ ∀ i m σ H, W i m σ H →
   ((Itl K a).stop i H /\ D.nx σ H) ∨ ((Itl K a).go i H /\ ∃ N : St -> Hp -> Prop, (∀ σ' H', N σ' H' -> ∃ m', m' < m /\ W (i + 1) m' σ' H') /\ ∀ x H', (Itl K a).yld i H x H' -> g x σ H' fun σ2 H2 => tb { D with nx := N, ct := N, bk := D.nx } σ2 H2) := by
 refine ⟨fun i m σ H => m = xs.length - i /\ i <= xs.length /\ Pv i σ H, ⟨xs.length, by simp, Nat.zero_le _, h0⟩, ?_⟩
 rintro i m σ H ⟨rfl, hi, p⟩
 have q := hl i σ H hi p
 by_cases hlt : i < xs.length
 ·refine .inr ⟨⟨xs, xs[i], q, by simp [hlt]⟩, Pv (i + 1), fun σ' H' p' => ⟨xs.length - (i + 1), by omega, rfl, hlt, p'⟩, fun x H' y => ?_⟩
  obtain ⟨e, y⟩ := y
  subst e
  exact hs i x σ _ (y xs q) p
 ·have e : i = xs.length := by omega
  subst e
  exact .inl ⟨⟨xs, q, Nat.le_refl _⟩, hd σ H p⟩
theorem Z2s {lo : Int} {n : Nat} {g : TG} {tb : TS} {D : Ends} {σ : St} {H : Hp} (Pv : Nat -> St -> Hp -> Prop) (h0 : Pv 0 σ H)
  (hs : ∀ i σ H, i < n -> Pv i σ H -> g (.int (lo + i)) σ H fun σ2 H2 => tb { D with nx := Pv (i + 1), ct := Pv (i + 1), bk := D.nx } σ2 H2) (hd : ∀ σ H, Pv n σ H -> D.nx σ H) :
  ∃ W : Nat -> Nat -> St -> Hp -> Prop, (∃ m, W 0 m σ H) /\ ∀ i m σ H, W i m σ H →
   ((Itr lo n).stop i H /\ D.nx σ H) ∨ ((Itr lo n).go i H /\ ∃ N : St -> Hp -> Prop, (∀ σ' H', N σ' H' -> ∃ m', m' < m /\ W (i + 1) m' σ' H') /\ ∀ x H', (Itr lo n).yld i H x H' -> g x σ H' fun σ2 H2 => tb { D with nx := N, ct := N, bk := D.nx } σ2 H2) := by
 refine ⟨fun i m σ H => m = n - i /\ i <= n /\ Pv i σ H, ⟨n, by simp, Nat.zero_le _, h0⟩, ?_⟩
 rintro i m σ H ⟨rfl, hi, p⟩
 by_cases hlt : i < n
 ·refine .inr ⟨hlt, Pv (i + 1), fun σ' H' p' => ⟨n - (i + 1), by omega, rfl, hlt, p'⟩, fun x H' y => ?_⟩
  obtain ⟨e, y⟩ := y
  subst e y
  exact hs i σ _ hlt p
 ·have e : i = n := by omega
  subst e
  exact .inl ⟨Nat.le_refl _, hd σ H p⟩
theorem Zf1 {c : TT} {tb : TS} {D : Ends} {σ : St} {H : Hp} (Pv : St -> Hp -> Prop) (μ : St -> Hp -> Nat) (h0 : Pv σ H)
  (hs : ∀ σ H, Pv σ H -> c σ H fun b H1 => if b = true then tb { D with nx := fun σ' H' => Pv σ' H' /\ μ σ' H' < μ σ H, ct := fun σ' H' => Pv σ' H' /\ μ σ' H' < μ σ H, bk := D.nx } σ H1 else D.nx σ H1)
  (mono : ∀ σ H Q Q', (∀ b H1, Q b H1 -> Q' b H1) -> c σ H Q -> c σ H Q') : Zci c tb D σ H := by
 refine ⟨fun m σ H => m = μ σ H /\ Pv σ H, ⟨_, rfl, h0⟩, ?_⟩
 rintro m σ H ⟨rfl, p⟩
 refine mono σ H _ _ (fun b H1 q => ?_) (hs σ H p)
 cases b with
 | true => exact ⟨_, fun σ' H' ⟨p', l⟩ => ⟨_, l, rfl, p'⟩, q⟩
 | false => exact q
abbrev R2 := V -> V -> Hp -> VK -> Prop
def OpR (X : Cx) (f : Value -> Value -> Sem Value) (r : R2) : Prop :=
 ∀ (pins : List (Addr × Obj)) (s : Shared) (σ : St) (H : Hp) (x y : V) (v u : Value) (Q : VK), Inv X pins σ H s -> RelV x v -> RelV y u -> r x y H Q →
  wpAny (model X.prog X.w) X.A (f v u) (EP X pins σ Q) X.xe s
def UnR (X : Cx) (f : Value -> Sem Value) (r : V -> Hp -> VK -> Prop) : Prop :=
 ∀ (pins : List (Addr × Obj)) (s : Shared) (σ : St) (H : Hp) (x : V) (v : Value) (Q : VK), Inv X pins σ H s -> RelV x v -> r x H Q →
  wpAny (model X.prog X.w) X.A (f v) (EP X pins σ Q) X.xe s
def Z5o (X : Cx) (f : Value) (r : List V -> Hp -> VK -> Prop) : Prop :=
 ∀ (pins : List (Addr × Obj)) (s : Shared) (σ : St) (H : Hp) (xs : List V) (us : List Value) (Q : VK), Inv X pins σ H s -> Vals xs us -> r xs H Q →
  wpAny (model X.prog X.w) X.A (call f us) (EP X pins σ Q) X.xe s
def Zoa (X : Cx) (r : V -> Hp -> (Bool -> Hp -> Prop) -> Prop) : Prop :=
 ∀ (pins : List (Addr × Obj)) (s : Shared) (σ : St) (H : Hp) (x : V) (v : Value) (Q : Bool -> Hp -> Prop), Inv X pins σ H s -> RelV x v -> r x H Q →
  wpAny (model X.prog X.w) X.A (truthy v) (TP X pins σ Q) X.xe s
def tOp (r : R2) (ta tb : TE) : TE := fun σ H Q => ta σ H fun x H1 => tb σ H1 fun y H2 => r x y H2 Q
def tUn (r : V -> Hp -> VK -> Prop) (ta : TE) : TE := fun σ H Q => ta σ H fun x H1 => r x H1 Q
def rI (C : Int -> Int -> Prop) (g : Int -> Int -> V) : R2 := fun x y H Q => ∃ i j, x = .int i /\ y = .int j /\ C i j /\ Q (g i j) H
def rI0 (g : Int -> Int -> V) : R2 := fun x y H Q => ∃ i j, x = .int i /\ y = .int j /\ Q (g i j) H
def rU (g : Int -> V) : V -> Hp -> VK -> Prop := fun x H Q => ∃ i, x = .int i /\ Q (g i) H
section
variable {X : Cx} {a b c : Expr} {ta tb tc : TE} {pos : Pos}
theorem Zmg (ha : PE X a ta) (hb : PE X b tb) {pins : List (Addr × Obj)} {s : Shared} {σ : St} {H : Hp} {R : V -> V -> Hp -> Prop} (I : Inv X pins σ H s)
  (h : ta σ H fun x H1 => tb σ H1 fun y H2 => R x y H2) {Q : Value -> Shared -> Prop} {f : Value -> Value -> Sem Value}
  (hf : ∀ v u s2 x y H2, Inv X pins σ H2 s2 -> RelV x v -> RelV y u -> R x y H2 -> wpAny (model X.prog X.w) X.A (f v u) Q X.xe s2) :
  wpAny (model X.prog X.w) X.A (eval a X.env) (fun v s₁ => wpAny (model X.prog X.w) X.A (eval b X.env) (fun u s₂ => wpAny (model X.prog X.w) X.A (f v u) Q X.xe s₂) X.xe s₁) X.xe s := by
 refine thn (ha pins s σ H _ I h) fun v s1 ⟨x, H1, I1, r1, q1⟩ => ?_
 refine thn (hb pins s1 σ H1 _ I1 q1) fun u s2 ⟨y, H2, I2, r2, q2⟩ => ?_
 exact hf v u s2 x y H2 I2 r1 r2 q2
theorem Z0l {op : Operator} {r : R2} (ho : OpR X (binaryOp op) r) (ha : PE X a ta) (hb : PE X b tb) : PE X (.BinOp a op b pos) (tOp r ta tb) := by
 intro pins s σ H Q I h
 exact wpAny_BinOp (Zmg ha hb I h fun v u s2 x y H2 I2 rx ry q => ho pins s2 σ H2 x y v u Q I2 rx ry q)
theorem Zf2 {op : UnaryOp} {r : V -> Hp -> VK -> Prop} (ho : UnR X (unaryOp op) r) (ha : PE X a ta) : PE X (.UnaryOp op a pos) (tUn r ta) := by
 intro pins s σ H Q I h
 exact UnaryOp_ (thn (ha pins s σ H _ I h) fun v s1 ⟨x, H1, I1, r1, q1⟩ => ho pins s1 σ H1 x v Q I1 r1 q1)
theorem opI {f : Value -> Value -> Sem Value} {C : Int -> Int -> Prop} {g : Int -> Int -> Int}
  (rule : ∀ (i j : Int) (t u : Tok) (s : Shared) (Q : Value -> Shared -> Prop) (E : Value -> Shared -> Prop), C i j -> Q (.int (g i j) s.toks) { s with toks := s.toks + 1 } -> wpAny (model X.prog X.w) X.A (f (.int i t) (.int j u)) Q E s) :
  OpR X f (rI C fun i j => .int (g i j)) := by
 intro pins s σ H x y v u Q I rx ry h
 obtain ⟨i, j, rfl, rfl, hc, q⟩ := h
 obtain ⟨t, rfl⟩ := rx
 obtain ⟨t', rfl⟩ := ry
 exact rule i j t t' s _ _ hc ⟨.int (g i j), H, I.tok _, ⟨_, rfl⟩, q⟩
theorem Znn {f : Value -> Value -> Sem Value} {g : Int -> Int -> Int}
  (rule : ∀ (i j : Int) (t u : Tok) (s : Shared) (Q : Value -> Shared -> Prop) (E : Value -> Shared -> Prop), Q (.int (g i j) s.toks) { s with toks := s.toks + 1 } -> wpAny (model X.prog X.w) X.A (f (.int i t) (.int j u)) Q E s) :
  OpR X f (rI0 fun i j => .int (g i j)) := by
 intro pins s σ H x y v u Q I rx ry h
 obtain ⟨i, j, rfl, rfl, q⟩ := h
 obtain ⟨t, rfl⟩ := rx
 obtain ⟨t', rfl⟩ := ry
 exact rule i j t t' s _ _ ⟨.int (g i j), H, I.tok _, ⟨_, rfl⟩, q⟩
theorem Zm5 {f : Value -> Value -> Sem Value} {g : Int -> Int -> Bool}
  (rule : ∀ (i j : Int) (t u : Tok) (s : Shared) (Q : Value -> Shared -> Prop) (E : Value -> Shared -> Prop), Q (.bool (g i j)) s -> wpAny (model X.prog X.w) X.A (f (.int i t) (.int j u)) Q E s) :
  OpR X f (rI0 fun i j => .bl (g i j)) := by
 intro pins s σ H x y v u Q I rx ry h
 obtain ⟨i, j, rfl, rfl, q⟩ := h
 obtain ⟨t, rfl⟩ := rx
 obtain ⟨t', rfl⟩ := ry
 exact rule i j t t' s _ _ ⟨.bl (g i j), H, I, rfl, q⟩
def Zob (i j : Int) : Prop := 0 <= j /\ j <= 1000000 /\ i.natAbs < 2 ^ 64
def CMul (i j : Int) : Prop := (-(2 ^ 64) < i /\ i < 2 ^ 64) ∨ (-(2 ^ 64) < j /\ j < 2 ^ 64)
theorem CMul.ok {i j : Int} (h : CMul i j) : IntMulOk i j := by
 rcases h with ⟨h1, h2⟩ | ⟨h1, h2⟩
 ·exact .of_left (intBits_le_64 h1 h2)
 ·exact .of_right (intBits_le_64 h1 h2)
theorem Z1z : OpR X (binaryOp .Add) (rI0 fun i j => .int (i + j)) := Znn fun _ _ _ _ _ _ _ q => add_int q
theorem Z6p : OpR X (binaryOp .Sub) (rI0 fun i j => .int (i - j)) := Znn fun _ _ _ _ _ _ _ q => sub_int q
theorem Z3v : OpR X (binaryOp .Mult) (rI CMul fun i j => .int (i * j)) := opI fun _ _ _ _ _ _ _ hc q => mul_int q hc.ok
theorem Z2t : OpR X (binaryOp .Mod) (rI (fun _ j => 0 < j) fun i j => .int (i % j)) := opI fun i j _ _ _ _ _ hc q => by
 have h1 : (0 : Int) < j := hc
 exact mod_int' (by omega) (by rw [Int.fmod_eq_emod_of_nonneg i (by omega)]; exact q)
theorem Zcl : OpR X (binaryOp .Pow) (rI Zob fun i j => .int (i ^ j.toNat)) := opI fun _ _ _ _ _ _ _ hc q => pow_int_small hc.1 hc.2.1 hc.2.2 q
theorem unI {f : Value -> Sem Value} {g : Int -> Int}
  (rule : ∀ (i : Int) (t : Tok) (s : Shared) (Q : Value -> Shared -> Prop) (E : Value -> Shared -> Prop), Q (.int (g i) s.toks) { s with toks := s.toks + 1 } -> wpAny (model X.prog X.w) X.A (f (.int i t)) Q E s) :
  UnR X f (rU fun i => .int (g i)) := by
 intro pins s σ H x v Q I rx h
 obtain ⟨i, rfl, q⟩ := h
 obtain ⟨t, rfl⟩ := rx
 exact rule i t s _ _ ⟨.int (g i), H, I.tok _, ⟨_, rfl⟩, q⟩
theorem Zac : UnR X (unaryOp .USub) (rU fun i => .int (-i)) := unI fun _ _ _ _ _ q => neg_int q
end
def Zoc : V -> V -> Bool
 | .non, .non => true | .non, .int _ => true | .int _, .non => true | .non, .bl _ => true | .bl _, .non => true | .non, .str _ => true | .str _, .non => true
 | .int _, .int _ => true | .bl _, .bl _ => true | .str _, .str _ => true | .byt _, .byt _ => true
 | .int _, .str _ => true | .str _, .int _ => true | .bl _, .str _ => true | .str _, .bl _ => true
 | _, _ => false
def rEq : R2 := fun x y H Q => Zoc x y = true /\ Q (.bl (decide (x = y))) H
theorem Zi5 {i j : Int} : decide (V.int i = V.int j) = (i == j) := by
 rw [Bool.eq_iff_iff]
 simp
theorem Zkb {i j : Bool} : decide (V.bl i = V.bl j) = (i == j) := by
 rw [Bool.eq_iff_iff]
 simp
theorem Zi6 {i j : Str} : decide (V.str i = V.str j) = (i == j) := by
 rw [Bool.eq_iff_iff]
 simp
theorem Zi7 {i j : Array UInt8} : decide (V.byt i = V.byt j) = (i.toList == j.toList) := by
 rw [Bool.eq_iff_iff]
 cases i
 cases j
 simp
section
variable {X : Cx} {a b c : Expr} {ta tb tc : TE} {pos : Pos}
theorem Z1h {pins : List (Addr × Obj)} {σ : St} {H : Hp} {s : Shared} {Q : VK} {k k' : Bool} (I : Inv X pins σ H s) (q : Q (.bl k) H) (e : k = k') : EP X pins σ Q (.bool k') s := by
 subst e
 exact ⟨.bl k, H, I, rfl, q⟩
theorem Z1p : OpR X (compareOp .Eq) rEq := by
 intro pins s σ H x y v u Q I rx ry h
 obtain ⟨hs, q⟩ := h
 cases x with
 | non =>
  cases rx
  cases y with
  | non => cases ry; exact PySem.EqNone.eq_none_none (Z1h I q (by simp))
  | bl j => cases ry; exact PySem.EqNone.eq_none_bool (Z1h I q (by simp))
  | int j => obtain ⟨t', rfl⟩ := ry; exact PySem.EqNone.eq_none_int (Z1h I q (by simp))
  | str j => obtain ⟨t', rfl⟩ := ry; exact PySem.EqNone.eq_none_str (Z1h I q (by simp))
  | _ => exact absurd (show false = true from hs) Bool.false_ne_true
 | bl i =>
  cases rx
  cases y with
  | non => cases ry; exact PySem.EqNone.eq_bool_none (Z1h I q (by simp))
  | bl j => cases ry; exact eq_bool (Z1h I q Zkb)
  | str j => obtain ⟨t', rfl⟩ := ry; exact PySem.EqMixed.eq_bool_str (Z1h I q (by simp))
  | _ => exact absurd (show false = true from hs) Bool.false_ne_true
 | int i =>
  obtain ⟨t, rfl⟩ := rx
  cases y with
  | non => cases ry; exact PySem.EqNone.eq_int_none (Z1h I q (by simp))
  | int j => obtain ⟨t', rfl⟩ := ry; exact eq_int (Z1h I q Zi5)
  | str j => obtain ⟨t', rfl⟩ := ry; exact PySem.EqMixed.eq_int_str (Z1h I q (by simp))
  | _ => exact absurd (show false = true from hs) Bool.false_ne_true
 | str i =>
  obtain ⟨t, rfl⟩ := rx
  cases y with
  | non => cases ry; exact PySem.EqNone.eq_str_none (Z1h I q (by simp))
  | bl j => cases ry; exact PySem.EqMixed.eq_str_bool (Z1h I q (by simp))
  | int j => obtain ⟨t', rfl⟩ := ry; exact PySem.EqMixed.eq_str_int (Z1h I q (by simp))
  | str j => obtain ⟨t', rfl⟩ := ry; exact eq_str (Z1h I q Zi6)
  | _ => exact absurd (show false = true from hs) Bool.false_ne_true
 | byt i =>
  obtain ⟨t, rfl⟩ := rx
  cases y with
  | byt j => obtain ⟨t', rfl⟩ := ry; exact PySem.W.eq_bytes (Z1h I q Zi7)
  | _ => exact absurd (show false = true from hs) Bool.false_ne_true
 | _ => cases y <;> exact absurd (show false = true from hs) Bool.false_ne_true
theorem Zkc : OpR X (compareOp .Lt) (rI0 fun i j => .bl (decide (i < j))) := Zm5 fun _ _ _ _ _ _ _ q => lt_int q
theorem Z6g : OpR X (compareOp .LtE) (rI0 fun i j => .bl (decide (i <= j))) := Zm5 fun _ _ _ _ _ _ _ q => le_int q
theorem Z9c : OpR X (compareOp .Gt) (rI0 fun i j => .bl (decide (j < i))) := Zm5 fun _ _ _ _ _ _ _ q => gt_int q
theorem Zmh : OpR X (compareOp .GtE) (rI0 fun i j => .bl (decide (j <= i))) := Zm5 fun _ _ _ _ _ _ _ q => ge_int q
theorem Zcm : OpR X (compareOp .Lt) (fun x y H Q => ∃ i j, x = .str i /\ y = .str j /\ Q (.bl (decide (i.cps.toList < j.cps.toList))) H) := by
 intro pins s σ H x y v u Q I rx ry h
 obtain ⟨i, j, rfl, rfl, q⟩ := h
 obtain ⟨t, rfl⟩ := rx
 obtain ⟨t', rfl⟩ := ry
 exact lt_str (Z1h I q rfl)
theorem Z0k (b : Expr) {op : CmpOp} (h : op ≠ .In := by decide) (h2 : op ≠ .NotIn := by decide) : behindInMarks op b = false := by
 have e1 : (op == CmpOp.In) = false := by cases op <;> first | rfl | exact absurd rfl h
 have e2 : (op == CmpOp.NotIn) = false := by cases op <;> first | rfl | exact absurd rfl h2
 cases b <;> simp [behindInMarks, e1, e2]
theorem Z2n {op : CmpOp} {r : R2} (ho : OpR X (compareOp op) r) (ha : PE X a ta) (hb : PE X b tb) (hm : behindInMarks op b = false) : PE X (.Compare a [op] [b] pos) (tOp r ta tb) := by
 intro pins s σ H Q I h
 exact wpAny_Compare1 (Zmg ha hb I h fun v u s2 x y H2 I2 rx ry q => ho pins s2 σ H2 x y v u Q I2 rx ry q) hm
def Zkd (t : TE) : TT := fun σ H Q => t σ H fun x H' => ∃ k, x = .bl k /\ Q k H'
theorem Z0b {op : CmpOp} {r : R2} (ho : OpR X (compareOp op) r) (ha : PE X a ta) (hb : PE X b tb) (hm : behindInMarks op b = false) : PT X (.Compare a [op] [b] pos) (Zkd (tOp r ta tb)) := by
 intro pins s σ H Q I h
 refine wpAny_isTrue_Compare1 (thn (ha pins s σ H _ I h) fun v s1 ⟨x, H1, I1, r1, q1⟩ => thn (hb pins s1 σ H1 _ I1 q1) fun u s2 ⟨y, H2, I2, r2, q2⟩ =>
  thn (ho pins s2 σ H2 x y v u _ I2 r1 r2 q2) fun c s3 ⟨z, H3, I3, r3, k, e, q3⟩ => ?_) hm
 subst e
 cases r3
 exact wpAny_truthy_bool ⟨H3, I3, q3⟩
def Zh1 (r r' : R2) (ta tb tc : TE) : TE := fun σ H Q => ta σ H fun x H1 => tb σ H1 fun y H2 => r x y H2 fun z H3 => ∃ k, z = .bl k ∧
 (if k = true then tc σ H3 fun w' H4 => r' y w' H4 Q else Q (.bl false) H3)
theorem Z45 {op op' : CmpOp} {r r' : R2} (ho : OpR X (compareOp op) r) (ho' : OpR X (compareOp op') r') (ha : PE X a ta) (hb : PE X b tb) (hc : PE X c tc)
  (hm : lastMarks [op, op'] [b, c] = false := by with_unfolding_all rfl) : PE X (.Compare a [op, op'] [b, c] pos) (Zh1 r r' ta tb tc) := by
 intro pins s σ H Q I h
 refine Compare_chain (thn (ha pins s σ H _ I h) fun v s1 ⟨x, H1, I1, r1, q1⟩ => chain_link (thn (hb pins s1 σ H1 _ I1 q1) fun u s2 ⟨y, H2, I2, r2, q2⟩ =>
  thn (ho pins s2 σ H2 x y v u _ I2 r1 r2 q2) fun d s3 ⟨z, H3, I3, r3, k, e, q3⟩ => ?_)) hm
 subst e
 cases r3
 refine wpAny_truthy_bool ?_
 cases k with
 | false => exact ite_ff ⟨.bl false, H3, I3, rfl, q3⟩
 | true => exact ite_tt (chain_last (thn (hc pins s3 σ H3 _ I3 q3) fun w' s4 ⟨z', H4, I4, r4, q4⟩ => ho' pins s4 σ H4 y z' u w' Q I4 r2 r4 q4))
theorem Zf3 {op op' : CmpOp} {r r' : R2} (ho : OpR X (compareOp op) r) (ho' : OpR X (compareOp op') r') (ha : PE X a ta) (hb : PE X b tb) (hc : PE X c tc)
  (hm : lastMarks [op, op'] [b, c] = false := by with_unfolding_all rfl) : PT X (.Compare a [op, op'] [b, c] pos) (Zkd (Zh1 r r' ta tb tc)) := by
 intro pins s σ H Q I h
 refine isTrue_chain (thn (ha pins s σ H _ I h) fun v s1 ⟨x, H1, I1, r1, q1⟩ => test_link (thn (hb pins s1 σ H1 _ I1 q1) fun u s2 ⟨y, H2, I2, r2, q2⟩ =>
  thn (ho pins s2 σ H2 x y v u _ I2 r1 r2 q2) fun d s3 ⟨z, H3, I3, r3, k, e, q3⟩ => ?_)) hm
 subst e
 cases r3
 refine wpAny_truthy_bool ?_
 cases k with
 | false =>
  obtain ⟨k', e', q'⟩ := q3
  cases e'
  exact ite_ff ⟨H3, I3, q'⟩
 | true =>
  refine ite_tt (test_last (thn (hc pins s3 σ H3 _ I3 q3) fun w' s4 ⟨z', H4, I4, r4, q4⟩ => thn (ho' pins s4 σ H4 y z' u w' _ I4 r2 r4 q4) fun d' s5 ⟨z2, H5, I5, r5, k2, e2, q5⟩ => ?_))
  subst e2
  cases r5
  exact wpAny_truthy_bool ⟨H5, I5, q5⟩
def Zno (K : PySem.W.Frag) (x : V) (H : Hp) (k : Bool) : Prop :=
 match x with
 | .non => k = false
 | .bl b => k = b
 | .int i => k = (i != 0)
 | .str y => y.length <= sizeLine /\ k = ((y.length : Int) != 0)
 | .byt y => y.size <= sizeLine /\ k = ((y.size : Int) != 0)
 | .ref p => (∃ xs, SqL K H p xs /\ k = !xs.isEmpty) ∨ (∃ xs, SqT K H p xs /\ k = !xs.isEmpty) ∨ ∃ kvs, H p = some (.dK kvs) /\ k = !kvs.isEmpty
 | _ => False
theorem Zbo {κ : Type} {kvs : List (κ × V)} {vs : List (κ × Value)} (r : KV kvs vs) : (!vs.isEmpty) = !kvs.isEmpty := by
 cases r <;> rfl
theorem Z6q {xs : List V} {its : List Value} (r : Vals xs its) : (!its.toArray.isEmpty) = !xs.isEmpty := by
 cases r <;> simp
theorem Z5p : (sizeLine : Nat) < 2 ^ 63 := by rw [sizeLine_eq]; decide
theorem Zke : Zoa X (fun x H Q => ∃ k, Zno X.K x H k /\ Q k H) := by
 intro pins s σ H x v Q I rx h
 obtain ⟨k, e, q⟩ := h
 have hl := Z5p
 have hs : sizeLine = 16777216 := sizeLine_eq
 cases x with
 | non =>
  cases rx
  have e' : k = false := e
  subst e'
  exact truthy_none ⟨H, I, q⟩
 | bl b =>
  cases rx
  have e' : k = b := e
  subst e'
  exact wpAny_truthy_bool ⟨H, I, q⟩
 | int i =>
  obtain ⟨t, rfl⟩ := rx
  have e' : k = (i != 0) := e
  subst e'
  exact PySem.P.truthy_int ⟨H, I, q⟩
 | str y =>
  obtain ⟨t, rfl⟩ := rx
  obtain ⟨hy, e'⟩ : y.length <= sizeLine /\ k = ((y.length : Int) != 0) := e
  subst e'
  exact PySem.P.truthy_str (by omega) ⟨H, I.tok _, q⟩
 | byt y =>
  obtain ⟨t, rfl⟩ := rx
  obtain ⟨hy, e'⟩ : y.size <= sizeLine /\ k = ((y.size : Int) != 0) := e
  subst e'
  exact PySem.W.truthy_bytes (by omega) ⟨H, I.tok _, q⟩
 | ref p =>
  cases rx
  have e' : (∃ xs, SqL X.K H p xs /\ k = !xs.isEmpty) ∨ (∃ xs, SqT X.K H p xs /\ k = !xs.isEmpty) ∨ ∃ kvs, H p = some (.dK kvs) /\ k = !kvs.isEmpty := e
  rcases e' with ⟨xs, hx, e'⟩ | ⟨xs, hx, e'⟩ | ⟨kvs, hx, e'⟩
  ·subst e'
   obtain ⟨its, r, pl, hz⟩ := I.list hx
   have hlen := r.length
   exact wpAny_truthy_list pl.isList (by simp only [List.size_toArray]; omega) ⟨H, I.tok _, by rw [Z6q r]; exact q⟩
  ·subst e'
   obtain ⟨its, r, pl, hz⟩ := I.tuple hx
   have hlen := r.length
   exact truthy_tuple pl (by simp only [List.size_toArray]; omega) ⟨H, I.tok _, by rw [Z6q r]; exact q⟩
  ·subst e'
   obtain ⟨hz, hS, vs, r, m⟩ : kvs.length <= sizeLine /\ (p == sysModules) = false /\ ∃ vs, KV kvs vs /\ s.heap.DictOf (Z0x X.prog X.w) p vs := I.hok p _ hx
   have hlen : kvs.length = vs.length := Paired.length r
   exact wpAny_truthy_dict hS m (by omega) ⟨H, I.tok _, by rw [Zbo r]; exact q⟩
 | _ => exact (show False from e).elim
theorem Zad (ha : PE X a ta) (he : ∀ whole, isTrue a X.env whole = (do let v ← whole; standAt a.pos; holding [v] (truthy v))) :
  PT X a (fun σ H Q => ta σ H fun x H' => ∃ k, Zno X.K x H' k /\ Q k H') := by
 intro pins s σ H Q I h
 exact isTrue_plain (thn (ha pins s σ H _ I h) fun v s1 ⟨x, H1, I1, r1, q1⟩ => Zke pins s1 σ H1 x v Q I1 r1 q1) (he _)
theorem Z2u : OpR X (binaryOp .Add) (fun x y H Q => ∃ i j, x = .str i /\ y = .str j /\ i.length + j.length <= sizeLine /\ Q (.str (i ++ j)) H) := by
 intro pins s σ H x y v u Q I rx ry h
 obtain ⟨i, j, rfl, rfl, hz, q⟩ := h
 obtain ⟨t, rfl⟩ := rx
 obtain ⟨t', rfl⟩ := ry
 exact add_str (fun t' tk => ⟨.str (i ++ j), H, I.tok _, ⟨_, rfl⟩, q⟩) hz
theorem Z9d {x : V} {us : List Value} (r : Vals [x] us) : ∃ u, us = [u] /\ RelV x u := by
 cases r with
 | cons r1 r2 => cases r2; exact ⟨_, rfl, r1⟩
theorem Zmi {x y : V} {us : List Value} (r : Vals [x, y] us) : ∃ u w', us = [u, w'] /\ RelV x u /\ RelV y w' := by
 cases r with
 | cons r1 r2 =>
  cases r2 with
  | cons r3 r4 => cases r4; exact ⟨_, _, rfl, r1, r3⟩
theorem Zcn : Z5o X (.type "int") (fun xs H Q => (∃ i, xs = [.int i] /\ Q (.int i) H) ∨ ∃ k, xs = [.bl k] /\ Q (.int (if k then 1 else 0)) H) := by
 intro pins s σ H xs us Q I r h
 rcases h with ⟨i, rfl, q⟩ | ⟨k, rfl, q⟩
 ·obtain ⟨u, rfl, t, rfl⟩ := Z9d r
  exact call_int_int ⟨.int i, H, I, ⟨_, rfl⟩, q⟩
 ·obtain ⟨u, rfl, r1⟩ := Z9d r
  cases r1
  exact call_int_bool ⟨.int (if k then 1 else 0), H, I.tok _, ⟨_, rfl⟩, q⟩
end
structure ObjM (h : Heap) (x dx C : Addr) (mA : Str -> Option Value) : Prop where
 obj : h.get? x = some (PySem.W.instObj C dx)
 ns : h.Ns1 dx mA
 ne : dx ≠ x
theorem Zco {h : Heap} {dx : Addr} {mA : Str -> Option Value} (n : h.Ns1 dx mA) : ∃ od, h.get? dx = some od /\ ∀ name, PySem.W.lookIn name od = some (mA name) := by
 obtain ⟨o, es, ep, ho, hd, hk, _, hm⟩ := n
 refine ⟨o, ho, fun name => ?_⟩
 have e := hm name
 unfold nsFind findBy at e
 rw [<- Array.find?_toList] at e
 unfold PySem.W.lookIn
 rw [hd]
 dsimp only
 split
 ·rename_i y q
  rw [q] at e
  exact congrArg some e
 ·rename_i q
  rw [q] at e
  have a : es.toList.any (·.refKey) = false := by
   rw [List.any_eq_false]
   intro y hy
   obtain ⟨z, t, hkey⟩ := hk y (Array.mem_toList_iff.mp hy)
   simp [DictEntry.refKey, hkey]
  have a' : ¬ es.toList.any (·.refKey) = true := by rw [a]; exact Bool.false_ne_true
  rw [if_neg a']
  exact congrArg some e
theorem ObjM.look {h : Heap} {x dx C : Addr} {mA : Str -> Option Value} (I : ObjM h x dx C mA) : ∃ od, PySem.W.InstAt h x (PySem.W.instObj C dx) C (some od) /\ ∀ name, PySem.W.lookIn name od = some (mA name) :=
 let ⟨od, ho, hl⟩ := Zco I.ns
 ⟨od, ⟨I.obj, rfl, rfl, ho⟩, hl⟩
section
variable {prog : Program} {w : World} {A : Around} {E : Value -> Shared -> Prop} {s : Shared} {K : PySem.W.Frag} {x dx C f : Addr} {mA : Str -> Option Value} {name : Str} {v : Value}
end
theorem RelO.some_of {v : V} {o : Option Value} (r : RelO (some v) o) : ∃ u, o = some u /\ RelV v u := by
 cases o with
 | none => exact (show False from r).elim
 | some u => exact ⟨u, rfl, r⟩
section
variable {P : Program} {w : World} {H H' : Hp} {h h' : Heap} {a C dx : Addr} {fs fs' : List (Str × V)}
theorem Zi8 (hok : HOk P w H h) (e : H a = some (.ins C dx fs)) : ∃ mA, ObjM h a dx C mA /\ (∀ f, RelO (fs.lookup f) (mA f)) /\ PySem.Within mA (fs.map (·.1)) /\ fs.length <= 1000 /\ H dx = some (.own a) := by
 obtain ⟨d, z, ne, ob, mA, n, r, q⟩ := (show ObjOk P w H h a (.ins C dx fs) from hok a _ e)
 exact ⟨mA, ⟨ob, n, ne⟩, r, q, z, d⟩
end
structure Cls (K : PySem.W.Frag) (C : Addr) : Prop where
 pg : PySem.W.plainGet K C Str.empty = true
 hd : PySem.W.hasDictIn K C = true
 po : PySem.W.plainOver K C = true
 sa : PySem.W.findIn K (.ref C) "__setattr__" = some (some (.builtin "object.__setattr__"))
theorem Cls.get {K : PySem.W.Frag} {C : Addr} (c : Cls K C) (f : Str) : PySem.W.plainGet K C f = true := c.pg
section
variable {X : Cx} {pins : List (Addr × Obj)} {σ : St} {H : Hp} {s : Shared} {a C dx : Addr} {fs : List (Str × V)} {f : Str} {v : V} {A : Around} {E : Value -> Shared -> Prop}
end
def Znp (X : Cx) (op : Operator) (rd : V -> V -> Hp -> VK -> Prop) : Prop :=
 ∀ (pins : List (Addr × Obj)) (s : Shared) (σ : St) (H : Hp) (x y : V) (u v : Value) (Q : VK), Inv X pins σ H s -> RelV x u -> RelV y v -> rd x y H Q -> wpAny (model X.prog X.w) X.A (inplaceOp op u v) (EP X pins σ Q) X.xe s
section
variable {X : Cx} {o e value : Expr} {f : Str} {pos pos' tpos : Pos} {ta tv : TE}
def rSub : V -> V -> Hp -> VK -> Prop := fun x y H Q => ∃ i j, x = .int i /\ y = .int j /\ Q (.int (i - j)) H
theorem Zkf : Znp X .Sub rSub := by
 rintro pins s σ H x y u v Q I rx ry ⟨i, j, rfl, rfl, q⟩
 obtain ⟨t, rfl⟩ := (show ∃ t, u = Value.int i t from rx)
 obtain ⟨t', rfl⟩ := (show ∃ t', v = Value.int j t' from ry)
 exact PyProof.Rows.isub_int ⟨.int (i - j), H, I.tok _, ⟨_, rfl⟩, q⟩
end
section
variable {X : Cx} {pins : List (Addr × Obj)} {σ : St} {H : Hp} {s : Shared} {A : Around} {E : Value -> Shared -> Prop} {Q : Value -> Shared -> Prop} {c : Value} {b : Bool}
inductive TyOf (K : PySem.W.Frag) (H : Hp) : V -> Value -> Prop where
 | non : TyOf K H .non (.type "NoneType")
 | bl (x : Bool) : TyOf K H (.bl x) (.type "bool")
 | int (i : Int) : TyOf K H (.int i) (.type "int")
 | str (x : Str) : TyOf K H (.str x) (.type "str")
 | flt (x : UInt64) : TyOf K H (.flt x) (.type "float")
 | lst {a : Addr} {xs : List V} (e : H a = some (.lst xs)) : TyOf K H (.ref a) (.type "list")
 | frz {a : Addr} {o : Obj} {xs : List V} (e : H a = some (.frz o (.lst xs))) : TyOf K H (.ref a) (.type "list")
 | tup {a : Addr} {xs : List V} (e : H a = some (.tup xs)) : TyOf K H (.ref a) (.type "tuple")
 | dK {a : Addr} {kvs : List (Key × V)} (e : H a = some (.dK kvs)) : TyOf K H (.ref a) (.type "dict")
 | dT {a : Addr} {kvs : List (List Key × V)} (e : H a = some (.dT kvs)) : TyOf K H (.ref a) (.type "dict")
 | ins {a C dx : Addr} {fs : List (Str × V)} (e : H a = some (.ins C dx fs)) (cl : Cls K C) (ha : PySem.W.findIn K (.ref C) "__class__" = some (some (.builtin "object.__class__")))
   (hn : PySem.W.specialIn K (.builtin "object.__class__") "__get__" = some (some (.builtin "getset_descriptor.__get__"))) (htk : PySem.W.takesIn K (.builtin "object.__class__") = some true)
   (hm : PySem.W.mroIn K C (.type "object") = some true) : TyOf K H (.ref a) (.ref C)
theorem Zcp {x : V} {u t : Value} (I : Inv X pins σ H s) (rx : RelV x u) (ty : TyOf X.K H x t) (e : PySem.W.kitOne X.K t c = some b) (h : ∀ tk, Q (.bool b) { s with toks := tk }) :
  wpAny (model X.prog X.w) A (call (.builtin "isinstance") [u, c]) Q E s := by
 cases ty with
 | non => cases (show u = Value.none from rx); exact PySem.W.kia_one PySem.W.kitx_none I.kIn True.intro e (fun z => nomatch z) h
 | bl y => cases (show u = Value.bool y from rx); exact PySem.W.kia_one PySem.W.kitx_bool I.kIn True.intro e (fun z => nomatch z) h
 | int i => obtain ⟨t, q⟩ := (show ∃ t, u = Value.int i t from rx); cases q; exact PySem.W.kia_one PySem.W.kitx_int I.kIn True.intro e (fun z => nomatch z) h
 | str y => obtain ⟨t, q⟩ := (show ∃ t, u = Value.str y t from rx); cases q; exact PySem.W.kia_one PySem.W.kitx_str I.kIn True.intro e (fun z => nomatch z) h
 | flt y => obtain ⟨t, q⟩ := (show ∃ t, u = Value.float y t from rx); cases q; exact PySem.W.kia_one PySem.W.kitx_float I.kIn True.intro e (fun z => nomatch z) h
 | @lst a xs ea =>
  cases (show u = Value.ref a from rx)
  obtain ⟨_, _, n, _, h1⟩ := (show ObjOk X.prog X.w H s.heap a (.lst xs) from I.hok a _ ea)
  exact PySem.W.kia_one PySem.W.kitx_list I.kIn ⟨_, h1, rfl⟩ e (fun z => nomatch z) h
 | @frz a ob xs ea =>
  cases (show u = Value.ref a from rx)
  obtain ⟨_, _, _, n, _, h1⟩ := (show ObjOk X.prog X.w H s.heap a (.frz ob (.lst xs)) from I.hok a _ ea)
  exact PySem.W.kia_one PySem.W.kitx_list I.kIn ⟨_, h1, rfl⟩ e (fun z => nomatch z) h
 | @tup a xs ea =>
  cases (show u = Value.ref a from rx)
  obtain ⟨_, _, _, p⟩ := (show ObjOk X.prog X.w H s.heap a (.tup xs) from I.hok a _ ea)
  obtain ⟨o, h1, h2, _⟩ := p
  exact PySem.W.kia_one PySem.W.kitx_tuple I.kIn ⟨o, h1, h2⟩ e (fun z => nomatch z) h
 | @dK a kvs ea =>
  cases (show u = Value.ref a from rx)
  obtain ⟨_, _, vs, _, p⟩ := (show ObjOk X.prog X.w H s.heap a (.dK kvs) from I.hok a _ ea)
  obtain ⟨o, es, ep, h1, h2, _⟩ := p
  exact PySem.W.kia_one PySem.W.kitx_dict I.kIn ⟨o, h1, h2.1⟩ e (fun z => nomatch z) h
 | @dT a kvs ea =>
  cases (show u = Value.ref a from rx)
  obtain ⟨_, _, xs, _, o, es, ep, h1, h2, _⟩ := (show ObjOk X.prog X.w H s.heap a (.dT kvs) from I.hok a _ ea)
  exact PySem.W.kia_one PySem.W.kitx_dict I.kIn ⟨o, h1, h2.1⟩ e (fun z => nomatch z) h
 | @ins a C dx fs ea cl ha hn htk hm =>
  cases (show u = Value.ref a from rx)
  obtain ⟨mA, O, _⟩ := Zi8 I.hok ea
  obtain ⟨od, J, _⟩ := O.look
  exact PySem.W.kia_one (PySem.W.kitx_own (cl.get _) cl.hd ha hn htk hm) I.kIn J e (fun z => nomatch z) h
end
structure Room (k : Nat) (A : Around) : Prop where
 hd : A.handled = none
 gd : A.guards = some []
 dp : A.depth + 3 * k + 5 < recursionLimit
 un : A.units + 16 * k + 200 < cLine
theorem Room.mono {j k : Nat} {A : Around} (r : Room k A) (h : j <= k) : Room j A := ⟨r.hd, r.gd, by have := r.dp; omega, by have := r.un; omega⟩
theorem Room.deeper {k : Nat} {A : Around} (r : Room (k + 1) A) (env : Env) : Room k (A.deeper env) :=
 ⟨r.hd, r.gd, by have := r.dp; show A.depth + 1 + 3 * k + 5 < _; omega, by have := r.un; show A.units + 3 + 16 * k + 200 < _; omega⟩
theorem Room.depth {k : Nat} {A : Around} (r : Room k A) : A.depth < recursionLimit := by have := r.dp; omega
theorem Room.units {k : Nat} {A : Around} (r : Room k A) : A.units + 64 < cLine := by have := r.un; omega
theorem Room.units0 {k : Nat} {A : Around} (r : Room k A) : A.units < cLine := by have := r.un; omega
def tNil : TA := fun _ H Q => Q [] H
def Z7f (ta : TE) (tr : TA) : TA := fun σ H Q => ta σ H fun x H1 => tr σ H1 fun xs H2 => Q (x :: xs) H2
section
variable {X : Cx} {e : Expr} {es : List Expr} {te : TE} {t : TA} {pos : Pos}
theorem Z02 : PA X [] tNil := fun _ _ _ _ H Q I h => Calls.spliced_nil ⟨[], H, I, .nil, h⟩
theorem Z08 (ha : PE X e te) (hr : PA X es t) (hs : starEach (e :: es) X.env = (false, eval e X.env) :: starEach es X.env := by rfl) : PA X (e :: es) (Z7f te t) := by
 intro pos pins s σ H Q I h
 rw [hs]
 show wpAny _ _ (spliced ((false, eval e X.env) :: backTo pos (starEach es X.env))) _ _ s
 refine Calls.spliced_cons (thn (ha pins s σ H _ I h) fun u s1 ⟨x, H1, I1, r1, q1⟩ => ?_)
 exact thn (hr pos pins s1 σ H1 _ I1 q1) fun us s2 ⟨xs, H2, I2, r2, q2⟩ => ⟨x :: xs, H2, I2, .cons r1 r2, q2⟩
def Zod (t : TA) : TE := fun σ H Q => t σ H fun xs H1 => xs.length <= sizeLine /\ ∀ p, H1 p = none -> Q (.ref p) (upd H1 p (.tup xs))
def Znq (t : TA) : TE := fun σ H Q => t σ H fun xs H1 => xs.length <= sizeLine /\ ∀ p, H1 p = none -> Q (.ref p) (upd H1 p (.lst xs))
theorem Z12 {x1} (h : PA X es t) : PE X (.Tuple es x1 pos) (Zod t) := by
 intro pins s σ H Q I hq
 refine wpAny_Tuple_spliced (thn (h pos pins s σ H _ I hq) fun us s1 ⟨xs, H1, I1, r, z, q⟩ => ⟨by rw [<- r.length]; exact z, ?_⟩)
 have hf : H1 s1.heap.objs.size = none := I1.hok.fresh (Nat.le_refl _)
 refine ⟨.ref s1.heap.objs.size, upd H1 s1.heap.objs.size (.tup xs), I1.laid (t' := s1.toks) (fun b u e => Heap.get?_push_of_some _ e) (Nat.le_refl _) ?_, rfl, q _ hf⟩
 exact ⟨z, us, r, ⟨_, Heap.get?_push_size _ rfl, rfl, _, rfl⟩⟩
theorem Z0y (h : PA X es t) : PE X (.List es pos) (Znq t) := by
 intro pins s σ H Q I hq
 refine wpAny_List_spliced (thn (h pos pins s σ H _ I hq) fun us s1 ⟨xs, H1, I1, r, z, q⟩ => ⟨by rw [<- r.length]; exact z, ?_⟩)
 have hf : H1 s1.heap.objs.size = none := I1.hok.fresh (Nat.le_refl _)
 refine ⟨.ref s1.heap.objs.size, upd H1 s1.heap.objs.size (.lst xs), I1.laid (t' := s1.toks) (fun b u e => Heap.get?_push_of_some _ e) (Nat.le_refl _) ?_, rfl, q _ hf⟩
 exact ⟨z, us, 0, r, Heap.get?_push_size _ rfl⟩
end
abbrev Sp := List V -> Hp -> VK -> XK -> Prop
abbrev CXT := List Env -> Hp -> Shared -> XK -> Value -> Shared -> Prop
structure Env0 (P : Program) (w : World) (K : PySem.W.Frag) (mg : Str -> Option Value) (base : Heap) (A : Around) (outer : List Env) (s : Shared) (H : Hp) : Prop where
 frames : A.frames = some outer
 mod : Mod K mg base
 bs : ∀ b o, base.get? b = some o -> s.heap.get? b = some o /\ H b = none
 bsz : base.objs.size <= s.heap.objs.size
 funs : s.heap.FunFrames base outer
 frf : ∀ b ∈ frs outer, H b = none
 hok : HOk P w H s.heap
 bare : AllBare s.gens
def CE (outer : List Env) (P : Program) (w : World) (H : Hp) (s : Shared) (Q : VK) (u : Value) (s' : Shared) : Prop :=
 ∃ v H', s'.os = s.os /\ AllBare s'.gens /\ Un (frs outer) [] H H' s.heap s'.heap /\ HOk P w H' s'.heap /\ RelV v u /\ Q v H'
def CR (CX : CXT) (outer : List Env) (P : Program) (w : World) (H : Hp) (s : Shared) (Q : VK) (E : XK) (r : Result) (s' : Shared) : Prop :=
 match r with
 | .ok (.ret u) => CE outer P w H s Q u s'
 | .ok _ => False
 | .error e => CX outer H s E e s'
structure FnOk (P : Program) (w : World) (K : PySem.W.Frag) (mg : Str -> Option Value) (base : Heap) (CX : CXT) (k : Nat) (f : Addr) (fd : FuncData) (ps : List Str) (sp : Sp) : Prop where
 len : ∀ vs H Q E, sp vs H Q E -> vs.length = ps.length
 run : ∀ (A : Around) (outer : List Env) (s : Shared) (H : Hp) (args : Args) (us : List Value) (vs : List V) (Q : VK) (E : XK), Room k A -> Env0 P w K mg base A outer s H -> BindsTo s fd args (ps.zip us) -> Vals vs us -> sp vs H Q E →
  codeAny (model P w) A (.call (.ref f) args) (CR CX outer P w H s Q E) s
theorem FnOk.mono {P : Program} {w : World} {K : PySem.W.Frag} {mg : Str -> Option Value} {base : Heap} {CX : CXT} {j k : Nat} {f : Addr} {fd : FuncData} {ps : List Str} {sp : Sp} (F : FnOk P w K mg base CX j f fd ps sp) (h : j <= k) :
  FnOk P w K mg base CX k f fd ps sp := ⟨F.len, fun A outer s H args us vs Q E hr => F.run A outer s H args us vs Q E (hr.mono h)⟩
theorem FnOk.imp {P : Program} {w : World} {K : PySem.W.Frag} {mg : Str -> Option Value} {base : Heap} {CX : CXT} {k : Nat} {f : Addr} {fd : FuncData} {ps : List Str} {sp sp' : Sp} (F : FnOk P w K mg base CX k f fd ps sp)
  (h : ∀ vs H Q E, sp' vs H Q E -> sp vs H Q E) : FnOk P w K mg base CX k f fd ps sp' :=
 ⟨fun vs H Q E q => F.len vs H Q E (h _ _ _ _ q), fun A outer s H args us vs Q E hr he hb hv hs => F.run A outer s H args us vs Q E hr he hb hv (h _ _ _ _ hs)⟩
section
variable {X : Cx} {pins : List (Addr × Obj)} {σ : St} {H : Hp} {s s' : Shared}
theorem Inv.env0 (I : Inv X pins σ H s) : Env0 X.prog X.w X.K X.mg X.base X.A X.stack s H :=
 ⟨I.ok.frames, I.ok.mod, I.bs, Nat.le_trans I.ok.bsz I.sz, I.stack, I.stkFree, I.hok, I.bare⟩
theorem Inv.after {Q : VK} {u : Value} (I : Inv X pins σ H s) (h : CE X.stack X.prog X.w H s Q u s') : EP X pins σ Q u s' := by
 obtain ⟨v, H', os, bare, un, hok, r, q⟩ := h
 obtain ⟨hh, g, d, t, os'⟩ := s'
 obtain rfl : os' = s.os := os
 exact ⟨v, H', I.call (h' := hh) (g' := g) (d' := d) (t' := t) (ch := []) un hok bare (fun b z => absurd z (by simp)), r, q⟩
end
def Zi9 (sp : Sp) (dvs : List V) (E : XK) (t : TA) : TE := fun σ H Q => t σ H fun vs H1 => sp (vs ++ dvs) H1 Q E
def Binds (K : PySem.W.Frag) (fd : FuncData) (ps : List Str) (ds : List Value) : Prop :=
 ∀ (s : Shared) (us : List Value), K.In s.heap -> (us ++ ds).length = ps.length -> BindsTo s fd ⟨us, []⟩ (ps.zip (us ++ ds))
theorem Binds.all {K : PySem.W.Frag} {fd : FuncData} {ps : List Str} (h : ∀ us : List Value, us.length = ps.length -> bindArgs fd ⟨us, []⟩ = pure (ps.zip us)) : Binds K fd ps [] := fun s us _ hl => by
 rw [List.append_nil] at hl ⊢
 exact .of_eq (h us hl)
def Z86 (CX : CXT) (X : Cx) (E : XK) : Prop := ∀ (pins : List (Addr × Obj)) (σ : St) (H : Hp) (s : Shared) (e : Value) (s' : Shared), Inv X pins σ H s -> CX X.stack H s E e s' -> X.xe e s'
section
variable {X : Cx} {CX : CXT} {k : Nat} {f C : Addr} {fd : FuncData} {ps : List Str} {sp : Sp} {dvs : List V} {ds : List Value} {E : XK} {x m : Str} {p pos apos : Pos} {e o : Expr} {es : List Expr} {ta : TE} {t : TA}
theorem Zcq {pins : List (Addr × Obj)} {σ : St} {H : Hp} {s : Shared} {Q : VK} {us : List Value} {vs : List V} (F : FnOk X.prog X.w X.K X.mg X.base CX k f fd ps sp) (hr : Room k X.A) (hb : Binds X.K fd ps ds) (hd : Vals dvs ds) (hx : Z86 CX X E)
  (I : Inv X pins σ H s) (r : Vals vs us) (h : sp (vs ++ dvs) H Q E) : wpAny (model X.prog X.w) X.A (call (.ref f) us) (EP X pins σ Q) X.xe s := by
 have r2 : Vals (vs ++ dvs) (us ++ ds) := r.append hd
 have hl : (us ++ ds).length = ps.length := by rw [<- r2.length]; exact F.len _ _ _ _ h
 refine wpAny_call (codeAny_mono (F.run X.A X.stack s H ⟨us, []⟩ (us ++ ds) (vs ++ dvs) Q E hr I.env0 (hb s us I.kIn hl) r2 h) fun r s' hq => ?_)
 cases r with
 | error e => exact hx pins σ H s e s' I hq
 | ok fl =>
  cases fl with
  | ret u => exact I.after hq
  | next => exact False.elim hq
  | brk => exact False.elim hq
  | cont => exact False.elim hq
theorem Z07 (F : FnOk X.prog X.w X.K X.mg X.base CX k f fd ps sp) (hr : Room k X.A) (hg : Gl X x) (hm : X.mg x = some (.ref f)) (hk : PySem.W.keepIn X.K (.ref f) = true) (hb : Binds X.K fd ps ds) (hd : Vals dvs ds) (hx : Z86 CX X E)
  (ha : PA X (e :: es) t) (hdb : (x == ("__debug__" : Str)) = false := by decide) (he : starEach (e :: es) X.env = (false, eval e X.env) :: starEach es X.env := by rfl) (hpl : (backTo pos (starEach es X.env)).any (·.1) = false := by rfl) :
  PE X (.Call (.Name x p) (e :: es) [] pos) (Zi9 sp dvs E t) := by
 intro pins s σ H Q I h
 refine wpAny_Call_Name_kw (Z9b I hg hm ?_ hdb)
 refine PySem.W.callWith_K (h₀ := X.base) I.ok.mod.kin hk (thn (ha pos pins s σ H _ I h) fun us s1 ⟨vs, H1, I1, r, q⟩ => ⟨I1.kIn, ?_⟩) he hpl
 exact Zcq F hr hb hd hx I1 r q
theorem Z7g (F : FnOk X.prog X.w X.K X.mg X.base CX k f fd ps sp) (hr : Room k X.A) (hg : Gl X x) (hm : X.mg x = some (.ref f)) (hk : PySem.W.keepIn X.K (.ref f) = true) (hb : Binds X.K fd ps ds) (hd : Vals dvs ds) (hx : Z86 CX X E)
  (hdb : (x == ("__debug__" : Str)) = false := by decide) : PE X (.Call (.Name x p) [] [] pos) (Zi9 sp dvs E tNil) := by
 intro pins s σ H Q I h
 refine wpAny_Call_Name_kw (Z9b I hg hm ?_ hdb)
 exact PySem.W.callWith_K0 I.kIn hk (Zcq (us := []) F hr hb hd hx I .nil h)
end
section
variable {X : Cx} {CX : CXT} {k : Nat} {f C : Addr} {fd : FuncData} {ps ks : List Str} {sp : Sp} {E : XK} {x m : Str} {p pos apos kpos : Pos} {e o : Expr} {es : List Expr} {kws : List Keyword} {te ta : TE} {t tk : TA} {nm : Option Str}
variable {g : List Value -> List Value -> List Value} {gV : List V -> List V -> List V}
end
structure FnScope (N P : List Str) (sc : Scope) : Prop where
 kind : sc.kind = .function
 co : sc.isCoroutine = false
 gen : sc.isGenerator = false
 nd : N.Nodup
 pre : N.take P.length = P
 par : ∀ x ∈ P, sc.names.lookup x = some .local ∨ sc.names.lookup x = some .cell
 nofree : ∀ y ∈ sc.names, y.2 ≠ .free
theorem Z87 {kindOf : Str -> Option NameKind} {x : Str} : ∀ {binds : List (Str × Value)} {m : Str -> Option Value}, (∀ v, (x, v) ∉ binds) -> bindL kindOf binds m x = m x
 | [], _, _ => rfl
 | (n, v) :: r, m, h => by
  unfold bindL
  rw [Z87 fun w hw => h w (List.mem_cons_of_mem _ hw)]
  split
  ·have : x ≠ n := by rintro rfl; exact h v List.mem_cons_self
   simp [this]
  ·rfl
theorem Z88 {kindOf : Str -> Option NameKind} {x : Str} : ∀ {binds : List (Str × Value)} {m : Str -> Option Value}, (∀ v, (x, v) ∉ binds) -> bindC kindOf binds m x = m x
 | [], _, _ => rfl
 | (n, v) :: r, m, h => by
  unfold bindC
  rw [Z88 fun w hw => h w (List.mem_cons_of_mem _ hw)]
  split
  ·rfl
  ·have : x ≠ n := by rintro rfl; exact h v List.mem_cons_self
   simp [this]
theorem Z89 {kindOf : Str -> Option NameKind} {x : Str} {v : Value} : ∀ {P : List Str} {vs : List Value} {i : Nat} {m : Str -> Option Value}, P.Nodup -> P[i]? = some x -> vs[i]? = some v -> kindOf x = some .local →
  bindL kindOf (P.zip vs) m x = some v
 | [], _, _, _, _, h, _, _ => by simp at h
 | _ :: _, [], _, _, _, _, h, _ => by simp at h
 | p :: P, w :: vs, 0, m, nd, h1, h2, hk => by
  simp at h1 h2; subst h1; subst h2
  show bindL kindOf ((p, w) :: P.zip vs) m p = _
  unfold bindL
  rw [Z87 fun v hv => (List.nodup_cons.mp nd).1 (List.of_mem_zip hv).1, if_pos hk]
  simp
 | p :: P, w :: vs, i + 1, m, nd, h1, h2, hk => by
  show bindL kindOf ((p, w) :: P.zip vs) m x = _
  unfold bindL
  exact Z89 (i := i) (List.nodup_cons.mp nd).2 (by simpa using h1) (by simpa using h2) hk
theorem Z8a {kindOf : Str -> Option NameKind} {x : Str} {v : Value} : ∀ {P : List Str} {vs : List Value} {i : Nat} {m : Str -> Option Value}, P.Nodup -> P[i]? = some x -> vs[i]? = some v -> kindOf x ≠ some .local →
  bindC kindOf (P.zip vs) m x = some v
 | [], _, _, _, _, h, _, _ => by simp at h
 | _ :: _, [], _, _, _, _, h, _ => by simp at h
 | p :: P, w :: vs, 0, m, nd, h1, h2, hk => by
  simp at h1 h2; subst h1; subst h2
  show bindC kindOf ((p, w) :: P.zip vs) m p = _
  unfold bindC
  rw [Z88 fun v hv => (List.nodup_cons.mp nd).1 (List.of_mem_zip hv).1, if_neg hk]
  simp
 | p :: P, w :: vs, i + 1, m, nd, h1, h2, hk => by
  show bindC kindOf ((p, w) :: P.zip vs) m x = _
  unfold bindC
  exact Z8a (i := i) (List.nodup_cons.mp nd).2 (by simpa using h1) (by simpa using h2) hk
def Z8b (N : List Str) (vs : List V) : St := vs.map some ++ List.replicate (N.length - vs.length) none
def Z9e (CX : CXT) (P : Program) (w : World) (K : PySem.W.Frag) (mg : Str -> Option Value) (base : Heap) (N : List Str) (qual : Str) (scope : Scope) (f : Addr) (cd : Value) (A : Around) (outer : List Env) (s : Shared) (H : Hp) (E : XK) : Cx where
 prog := P
 w := w
 K := K
 mg := mg
 base := base
 A := A.deeper (envOfC qual scope s.heap.objs.size f cd)
 N := N
 s₀ := s
 H₀ := H
 env := envOfC qual scope s.heap.objs.size f cd
 outer := outer
 stack := envOfC qual scope s.heap.objs.size f cd :: outer
 ex := []
 calm := true
 fn := fun _ => true
 pn := []
 xe := fun e s' => wpAny (model P w) (A.deeper (envOfC qual scope s.heap.objs.size f cd)) (leaving (envOfC qual scope s.heap.objs.size f cd) e) (fun _ s'' => CX outer H s E e s'') (fun e' s'' => CX outer H s E e' s'') s'
theorem Zae {sc : Scope} {n : Nat} {x : Str} (h : sc.names.lookup x = some .cell) : ∃ c, (cellsFrom n sc.names []).lookup x = some c := by
 have q := PySem.W.cellsFrom_some sc.names n [] (.inl h)
 exact Option.isSome_iff_exists.mp q
theorem Zcr {CX : CXT} {P : Program} {w : World} {K : PySem.W.Frag} {mg : Str -> Option Value} {base : Heap} {N ps : List Str} {qual : Str} {scope : Scope} {f : Addr} {cd : Value} {A : Around} {outer : List Env} {s s1 : Shared} {H : Hp} {E : XK} {us : List Value} {vs : List V}
  (S : FnScope N ps scope) (hd : A.handled = none) (e0 : Env0 P w K mg base A outer s H) (hl : vs.length = ps.length) (r : Vals vs us)
  (x : InCallC s s.heap.objs.size (bindL (envOfC qual scope s.heap.objs.size f cd).kindOf (ps.zip us) fun _ => none) (cellsFrom (s.heap.objs.size + 1) scope.names []) (bindC (envOfC qual scope s.heap.objs.size f cd).kindOf (ps.zip us) fun _ => none) s1) :
  Inv (Z9e CX P w K mg base N qual scope f cd A outer s H E) [] (Z8b N vs) H s1 := by
 have hpl : ps.length <= N.length := by have := congrArg List.length S.pre; rw [List.length_take] at this; omega
 obtain ⟨h1, tk, rfl, hk⟩ := x.done
 have noA : ∀ b : Addr, b ∉ (Z9e CX P w K mg base N qual scope f cd A outer s H E).ex := fun b z => absurd (show b ∈ ([] : List Addr) from z) (by simp)
 refine ⟨⟨e0.mod, S.kind, rfl, rfl, Nat.le_refl _, fun y z c h1 h2 => ?_, fun y hy => ?_, fun y c _ h => ?_, fun _ => hd, Around.frames_deeper e0.frames, .inr ⟨rfl, rfl⟩, fun b z => absurd z (noA b), e0.bs, e0.bsz, fun b _ _ => noA b, fun b z => absurd z (noA b), e0.funs, e0.frf⟩,
  rfl, e0.bare, Un.kept hk, ⟨_, x.toInCall.ns, fun i y v h1 h2 h3 => ?_⟩, fun y c h => ⟨_, x.cell y c h⟩, e0.hok.fresh (Nat.le_refl _), fun y c h => ?_, fun p hp => absurd (show p ∈ ([] : List (Addr × Obj)) from hp) (by simp), e0.hok.kept hk, ?_⟩
 ·exact name_of_addr x.apart (PySem.mem_of_lookup h1) (PySem.mem_of_lookup h2)
 ·have hy : scope.names.lookup y = some .cell ∨ scope.names.lookup y = some .free := hy
  rcases hy with hy | hy
  ·exact Zae hy
  ·exact absurd rfl (S.nofree _ (PySem.mem_of_lookup hy))
 ·exact Nat.le_of_lt (x.above y c (PySem.mem_of_lookup h))
 ·have hi : i < vs.length := by
   unfold Z8b at h2
   by_cases hi : i < vs.length
   ·exact hi
   ·rw [List.getElem?_append_right (by simpa using hi)] at h2
    rw [List.getElem?_replicate] at h2
    split at h2 <;> cases h2
  have ha : vs[i]? = some v := by
   unfold Z8b at h2
   rw [List.getElem?_append_left (by simpa using hi), List.getElem?_map] at h2
   cases e : vs[i]? with
   | none => rw [e] at h2; cases h2
   | some a => rw [e] at h2; cases h2; rfl
  obtain ⟨u, hu, rv⟩ := r.get ha
  have hp : ps[i]? = some y := by
   rw [<- S.pre, List.getElem?_take_of_lt (by omega)]; exact h1
  have ndP : ps.Nodup := by rw [<- S.pre]; exact S.nd.sublist (List.take_sublist _ _)
  refine ⟨u, rv, ?_⟩
  rcases S.par y (List.mem_of_getElem? hp) with k | k
  ·exact .inl ⟨k, Z89 ndP hp hu k⟩
  ·obtain ⟨c, e⟩ := Zae (n := s.heap.objs.size + 1) k
   refine .inr ⟨.inl k, c, e, ?_⟩
   have q := x.cell y c e
   rw [Z8a ndP hp hu (by show scope.names.lookup y ≠ _; rw [k]; decide)] at q
   exact q
 ·exact e0.hok.fresh (Nat.le_of_lt (x.above y c (PySem.mem_of_lookup h)))
 ·unfold Z8b
  show _ = N.length
  rw [List.length_append, List.length_map, List.length_replicate]
  omega
theorem Zmj {CX : CXT} {P : Program} {w : World} {K : PySem.W.Frag} {mg : Str -> Option Value} {base : Heap} {k : Nat} {f : Addr} {name qual : Str} {params : Arguments} {body : List Stmt} {scope : Scope} {dV kV doc pm cdv ct oc : Value} {an od : Option Addr}
  {osl : Array (Option Value)} {N ps : List Str} {sp : Sp} (lk : K.lookup f = some ⟨oc, od, .func (PySem.W.fnOf name qual params body scope dV kV doc pm an cdv ct), osl⟩) (hcd : PySem.W.codeIn K cdv qual = true) (S : FnScope N ps scope)
  (len : ∀ vs H Q E, sp vs H Q E -> vs.length = ps.length)
  (hbody : ∀ (A : Around) (outer : List Env) (s : Shared) (H : Hp) (vs : List V) (Q : VK) (E : XK), Room k (A.deeper (envOfC qual scope s.heap.objs.size f cdv)) -> sp vs H Q E →
   ∃ t, PSs (Z9e CX P w K mg base N qual scope f cdv A outer s H E) body t /\ t { nx := fun _ H' => Q .non H', rt := Q } (Z8b N vs) H) :
  FnOk P w K mg base CX (k + 1) f (PySem.W.fnOf name qual params body scope dV kV doc pm an cdv ct) ps sp := by
 refine ⟨len, fun A outer s H args us vs Q E hr e0 hb r hsp => ?_⟩
 have hl := len _ _ _ _ hsp
 have KX : K.In s.heap := e0.mod.kin.keeps fun b o e => (e0.bs b o e).1
 have lim : s.heap.NoLimit := e0.mod.nolimit.keeps fun b o e => (e0.bs b o e).1
 have hkind : ∀ y ∈ ps.zip us, scope.names.lookup y.1 = some .local ∨ (scope.names.lookup y.1 = some .cell /\ ((cellsFrom (s.heap.objs.size + 1) scope.names []).lookup y.1).isSome = true) := fun ⟨n, v⟩ hy => by
  rcases S.par n (List.of_mem_zip hy).1 with q | q
  ·exact .inl q
  ·exact .inr ⟨q, PySem.W.cellsFrom_some _ _ _ (.inl q)⟩
 refine codeAny_call_function hr.depth (KX _ _ lk) rfl S.co S.gen rfl (PySem.W.codeRec_of KX hcd) (hb _ _ _ _ ?_)
 refine wpAny_newFunctionEnv_cells S.kind hkind fun env he s1 x => ?_
 subst he
 refine ⟨lim.keeps x.toInCall.keep, codeAny_func ?_⟩
 obtain ⟨t, ht, hq⟩ := hbody A outer s H vs Q E (hr.deeper _) hsp
 have I : Inv (Z9e CX P w K mg base N qual scope f cdv A outer s H E) [] (Z8b N vs) H s1 := Zcr S hr.hd e0 hl r x
 refine wpAny_mono (ht [] s1 (Z8b N vs) H _ I hq) (fun fl s' hs => ?_) fun e s' hs => hs
 have fin : ∀ {σ' : St} {H' : Hp} {v : V} {u : Value}, Inv (Z9e CX P w K mg base N qual scope f cdv A outer s H E) [] σ' H' s' -> RelV v u -> Q v H' -> CE outer P w H s Q u s' :=
  fun {σ' H' v u} J rv q => ⟨v, H', J.os, J.bare, J.base, J.hok, rv, q⟩
 cases fl with
 | ret u =>
  obtain ⟨v, σ', H', J, rv, q⟩ := hs
  exact fin J rv q
 | next =>
  obtain ⟨σ', H', J, q⟩ := hs
  exact fin (v := V.non) (u := Value.none) J rfl q
 | brk =>
  obtain ⟨_, _, _, q⟩ := hs
  exact False.elim q
 | cont =>
  obtain ⟨_, _, _, q⟩ := hs
  exact False.elim q
section
variable {X : Cx} {x : Str} {p pos : Pos} {e : Expr} {es : List Expr} {t : TA} {id T : String} {r : List V -> Hp -> VK -> Prop}
def tCB (r : List V -> Hp -> VK -> Prop) (t : TA) : TE := fun σ H Q => t σ H fun vs H1 => r vs H1 Q
theorem Z0i (hc : Z5o X (.builtin id) r) (hg : Gl X x) (hm : X.mg x = none) (hv : bootBuiltins x = some (.builtin id)) (ha : PA X (e :: es) t) (hn : x ≠ "__name__" := by decide) (hdb : (x == ("__debug__" : Str)) = false := by decide)
  (he : starEach (e :: es) X.env = (false, eval e X.env) :: starEach es X.env := by rfl) (hpl : (backTo pos (starEach es X.env)).any (·.1) = false := by rfl) : PE X (.Call (.Name x p) (e :: es) [] pos) (tCB r t) := by
 intro pins s σ H Q I h
 refine wpAny_Call_Name_kw (Z82 I hg hm hv ?_ hn hdb)
 exact PyProof.Rows.callWith_builtin1 (thn (ha pos pins s σ H _ I h) fun us s1 ⟨vs, H1, I1, r1, q1⟩ => hc pins s1 σ H1 vs us Q I1 r1 q1) he hpl
theorem Z1a (hc : Z5o X (.type T) r) (hg : Gl X x) (hm : X.mg x = none) (hv : bootBuiltins x = some (.type T)) (ha : PA X (e :: es) t) (hn : x ≠ "__name__" := by decide) (hdb : (x == ("__debug__" : Str)) = false := by decide)
  (he : starEach (e :: es) X.env = (false, eval e X.env) :: starEach es X.env := by rfl) (hpl : (backTo pos (starEach es X.env)).any (·.1) = false := by rfl) : PE X (.Call (.Name x p) (e :: es) [] pos) (tCB r t) := by
 intro pins s σ H Q I h
 refine wpAny_Call_Name_kw (Z82 I hg hm hv ?_ hn hdb)
 exact PyProof.Rows.callWith_type1 (thn (ha pos pins s σ H _ I h) fun us s1 ⟨vs, H1, I1, r1, q1⟩ => hc pins s1 σ H1 vs us Q I1 r1 q1) he hpl
end
end L2
namespace HT
open PySem PyProof.Rows
section
open PySem.SeqAt
open PySem.AutoSeq1 (wpAny_loadPart')
open PySem.MeetsSeq PySem.MeetsSeq2 PySem.MeetsSeq3
end
section
variable {prog : Program} {w : World} {A : Around} {E : Value -> Shared -> Prop} {s : Shared}
theorem cat_tup {t b : Addr} {vs ws : List Value} {Q : Value -> Shared -> Prop} (ht : IsTup s.heap t vs.toArray) (hb : IsTup s.heap b ws.toArray) (hv : vs ≠ [])
  (h1 : ws = [] -> Q (.ref t) s) (h2 : ws ≠ [] -> Q (.ref s.heap.objs.size) { s with heap := s.heap.push { cls := .type "tuple", data := .seq (vs ++ ws).toArray } })
  (hsz : vs.length + ws.length <= sizeLine) : wpAny (model prog w) A (binaryOp .Add (.ref t) (.ref b)) Q E s := by
 obtain ⟨⟨cls, dd, data, sl⟩, ho, hc, n, hd⟩ := id ht
 obtain ⟨⟨cls2, dd2, data2, sl2⟩, ho2, hc2, n2, hd2⟩ := id hb
 simp only at hc hd hc2 hd2
 subst hc hd hc2 hd2
 have e : vs.toArray ++ ws.toArray = (vs ++ ws).toArray := by simp
 by_cases hw : ws = []
 ·exact concat_meets ⟨_, ho, rfl⟩ ⟨_, ho2, rfl⟩ noFill_tuple_add seq_tuple_add PySem.F.slot_tuple_add PySem.F.entry_tuple_add (PySem.F.args_tuple_add_2 _ _)
   (tuple_addW1 t b vs.toArray ws.toArray n n2 dd dd2 sl sl2 (by simpa using hv) (by simp [hw])) ⟨ho, ho2, h1 hw⟩
 ·refine concat_meets ⟨_, ho, rfl⟩ ⟨_, ho2, rfl⟩ noFill_tuple_add seq_tuple_add PySem.F.slot_tuple_add PySem.F.entry_tuple_add (PySem.F.args_tuple_add_2 _ _)
   (tuple_addW2 t b vs.toArray ws.toArray n n2 dd dd2 sl sl2 (by simpa using hv) (by simpa using hw) (by rw [List.size_toArray, List.size_toArray]; exact hsz)) ⟨ho, ho2, ?_⟩
  rw [e]
  exact h2 hw
def sIx (n d : Nat) : Option Int -> Nat
 | none => d
 | some v => if v < 0 then (v + (n : Int)).toNat else min v.toNat n
theorem Zkg (n d : Nat) (hd : d <= n) (o : Option Int) : sIx n d o <= n := by
 cases o with
 | none => exact hd
 | some v =>
  show (if v < 0 then (v + (n : Int)).toNat else min v.toNat n) <= n
  by_cases hv : v < 0
  ·rw [if_pos hv]; omega
  ·rw [if_neg hv]; exact Nat.min_le_right _ _
theorem Zcs (v : Int) (n d : Nat) : (if v < 0 then max (v + (n : Int)) 0 else min v (n : Int)) = ((sIx n d (some v) : Nat) : Int) := by
 show (if v < 0 then max (v + (n : Int)) 0 else min v (n : Int)) = (((if v < 0 then (v + (n : Int)).toNat else min v.toNat n) : Nat) : Int)
 by_cases hv : v < 0
 ·simp only [if_pos hv]; omega
 ·simp only [if_neg hv]; omega
theorem Zbp (lo hi : Option Int) (n : Nat) : Builtin.Slice.sliceAdjust lo hi 1 (n : Int) = (((sIx n 0 lo : Nat) : Int), ((sIx n n hi : Nat) : Int)) := by
 have h1 : ¬ ((1 : Int) < 0) := by omega
 unfold Builtin.Slice.sliceAdjust
 simp only [h1, if_false]
 refine Prod.ext ?_ ?_
 ·cases lo with
  | none => rfl
  | some v => exact Zcs v n 0
 ·cases hi with
  | none => rfl
  | some v => exact Zcs v n n
theorem Zbq (i j : Nat) : Builtin.Slice.slicePlaces (i : Int) (j : Int) 1 = j - i := by
 unfold Builtin.Slice.slicePlaces
 have h1 : (1 : Int) > 0 := by omega
 simp only [h1, if_true, Int.ediv_one]
 split <;> omega
theorem Z6r {v : Value} {o : Option Int} {Q : Option Int -> Shared -> Prop} (p : IsPart v o) (h : Q o s) : wpAny (model prog w) A (Builtin.Slice.slicePartIndex v) Q E s := by
 cases p with
 | none => exact slicePart_none h
 | int i t => exact slicePart_int h
theorem Z3a {sl : Addr} {vl vu : Value} {lo hi : Option Int} {n : Nat} {Q : Int × Int × Nat -> Shared -> Prop} (hs : s.heap.IsSliceOf sl vl vu .none) (pl : IsPart vl lo) (pu : IsPart vu hi)
  (h : Q (((sIx n 0 lo : Nat) : Int), 1, sIx n n hi - sIx n 0 lo) s) : wpAny (model prog w) A (Builtin.Slice.sliceApplied (.ref sl) (pure (n : Int))) Q E s := by
 obtain ⟨os, hos, hcs, hds⟩ := id hs
 unfold Builtin.Slice.sliceApplied Builtin.Slice.sliceFields
 refine wpAny_bind (wpAny_bind (wpAny_field hos hds (x := vl) rfl (wpAny_bind (wpAny_field hos hds (x := vu) rfl (wpAny_bind (wpAny_field hos hds (x := .none) rfl (wpAny_pure ?_)))))))
 refine wpAny_bind (slicePart_none ?_)
 show wpAny _ _ (if ((1 : Int) == 0) = true then _ else _) _ _ s
 rw [if_neg (by decide)]
 refine wpAny_bind (Z6r pl (wpAny_bind (Z6r pu (wpAny_bind (wpAny_pure ?_)))))
 show wpAny _ _ (match Builtin.Slice.sliceAdjust lo hi 1 (n : Int) with | (lo, hi) => pure (lo, (1 : Int), Builtin.Slice.slicePlaces lo hi 1)) _ _ s
 rw [Zbp lo hi n]
 show wpAny _ _ (pure (((sIx n 0 lo : Nat) : Int), (1 : Int), Builtin.Slice.slicePlaces ((sIx n 0 lo : Nat) : Int) ((sIx n n hi : Nat) : Int) 1)) _ _ s
 rw [Zbq]
 exact wpAny_pure h
theorem Zf4 (xs : Array Value) (i k : Nat) : ((List.range k).filterMap fun (m : Nat) => xs[((i : Int) + (m : Int) * 1).toNat]?).toArray = ((xs.toList.drop i).take k).toArray := by
 have e : (fun (m : Nat) => xs[((i : Int) + (m : Int) * 1).toNat]?) = fun m => xs[i + m]? := by
  funext m
  have : ((i : Int) + (m : Int) * 1).toNat = i + m := by omega
  rw [this]
 rw [e]
 have := pick_run xs i k
 rw [List.filterMap_map] at this
 have e2 : ((fun x => xs[x]?) ∘ fun x => i + x) = fun m => xs[i + m]? := rfl
 rw [e2] at this
 rw [this]
theorem getItem_tuple_cut {t sl : Addr} {items : Array Value} {vl vu : Value} {lo hi : Option Int} {Q : Value -> Shared -> Prop} (ht : IsTup s.heap t items) (hs : s.heap.IsSliceOf sl vl vu .none) (pl : IsPart vl lo) (pu : IsPart vu hi)
  (hw : ¬ (sIx items.size 0 lo = 0 /\ sIx items.size items.size hi = items.size))
  (h : Q (.ref s.heap.objs.size) { s with heap := s.heap.push { cls := .type "tuple", data := .seq ((items.toList.drop (sIx items.size 0 lo)).take (sIx items.size items.size hi - sIx items.size 0 lo)).toArray } })
  (hsz : items.size <= sizeLine) : wpAny (model prog w) A (getItem (.ref t) (.ref sl)) Q E s := by
 have htake : sizeOk (.seq ((items.toList.drop (sIx items.size 0 lo)).take (sIx items.size items.size hi - sIx items.size 0 lo)).toArray) := by
  show ((items.toList.drop (sIx items.size 0 lo)).take (sIx items.size items.size hi - sIx items.size 0 lo)).toArray.size <= sizeLine
  rw [List.size_toArray, List.length_take, List.length_drop, Array.length_toList]
  omega
 have hj : sIx items.size items.size hi <= items.size := Zkg _ _ (Nat.le_refl _) hi
 obtain ⟨os, hos, hcs, hds⟩ := id hs
 have hTs : s.TypeIs (.ref sl) "slice" := ⟨os, hos, hcs⟩
 unfold getItem
 try with_reducible refine wpAny_holding ?_
 first | refine wpAny_bind (wpAny_pure ?_) | skip
 refine wpAny_bind (wpAny_sequenceKey ht.typeIs (by decide) ?_)
 refine wpAny_bind (wpAny_callSpecial?_slot (name := Str.ofString "__getitem__") ht.typeIs PyProof.Rows.slot_tuple_getitem
  (wpAny_call_entry PyProof.Rows.slot_tuple_getitem ht.typeIs entry_tuple_getitem ?_ (args_tuple_getitem _ _)))
 show wpAny _ _ (Builtin.Tuple.tupleItemsOf (.ref t) >>= _) _ _ s
 refine wpAny_bind (tupleItemsOf_ ht ?_)
 refine wpAny_bind (wpAny_typeOf hTs ?_)
 rw [if_pos (by decide)]
 refine wpAny_bind (Z3a hs pl pu ?_)
 have hno : ¬ ((((sIx items.size 0 lo : Nat) : Int) == 0 && (1 : Int) == 1 && (sIx items.size items.size hi - sIx items.size 0 lo) == items.size) = true) := by
  intro q
  rw [Bool.and_eq_true, Bool.and_eq_true] at q
  have q1 : ((sIx items.size 0 lo : Nat) : Int) = 0 := eq_of_beq q.1.1
  have q2 : sIx items.size items.size hi - sIx items.size 0 lo = items.size := eq_of_beq q.2
  exact hw ⟨by omega, by omega⟩
 show wpAny _ _ (if (((sIx items.size 0 lo : Nat) : Int) == 0 && (1 : Int) == 1 && (sIx items.size items.size hi - sIx items.size 0 lo) == items.size) = true then _ else _) _ _ s
 rw [if_neg hno, Zf4]
 first
  | exact wpAny_bind (m := Builtin.Tuple.tupleExact _) (wpAny_newObj_type (wpAny_pure ⟨_, rfl, wpAny_pure h⟩) htake)
  | exact wpAny_bind (m := Builtin.Tuple.tupleExact _) (wpAny_newObj_type (wpAny_bind (wpAny_pure (wpAny_pure ⟨_, rfl, wpAny_pure h⟩))) htake)
  | exact wpAny_bind (wpAny_bind (m := Builtin.Tuple.tupleExact _) (wpAny_newObj_type (wpAny_pure (wpAny_pure ⟨_, rfl, wpAny_pure h⟩)) htake))
  | exact wpAny_bind (wpAny_bind (m := Builtin.Tuple.tupleExact _) (wpAny_newObj_type (wpAny_pure ⟨_, rfl, wpAny_pure h⟩) htake))
end
end HT
namespace L2
open PySem PySem.Spec PyProof.Rows
abbrev TO := St -> Hp -> (Option Int -> Hp -> Prop) -> Prop
def PO (X : Cx) (e : Option Expr) (t : TO) : Prop :=
 ∀ (pins : List (Addr × Obj)) (s : Shared) (σ : St) (H : Hp) (Q : Option Int -> Hp -> Prop), Inv X pins σ H s -> t σ H Q →
  wpAny (model X.prog X.w) X.A (evalPart e X.env) (fun u s' => ∃ o H', Inv X pins σ H' s' /\ IsPart u o /\ Q o H') X.xe s
def tNoPart : TO := fun _ H Q => Q none H
def Zmk (t : TE) : TO := fun σ H Q => t σ H fun x H1 => ∃ i, x = .int i /\ Q (some i) H1
section
variable {X : Cx} {e : Expr} {te : TE} {lo hi : Option Expr} {tl th : TO} {pos p2 : Pos}
theorem Z1u : PO X none tNoPart := by
 intro pins s σ H Q I h
 rw [evalPart_none]
 exact wpAny_pure ⟨none, H, I, .none, h⟩
theorem Z1q (h : PE X e te) : PO X (some e) (Zmk te) := by
 intro pins s σ H Q I hw
 rw [evalPart_some]
 refine thn (h pins s σ H _ I hw) fun u s1 ⟨x, H1, I1, r1, q1⟩ => ?_
 obtain ⟨i, rfl, q⟩ := q1
 obtain ⟨t, rfl⟩ := r1
 exact ⟨some i, H1, I1, .int i t, q⟩
def SlR (X : Cx) (r : V -> Option Int -> Option Int -> Hp -> VK -> Prop) : Prop :=
 ∀ (pins : List (Addr × Obj)) (s : Shared) (σ : St) (H : Hp) (x : V) (v vl vu : Value) (lo hi : Option Int) (sl : Addr) (Q : VK), Inv X pins σ H s -> RelV x v -> s.heap.IsSliceOf sl vl vu .none -> IsPart vl lo -> IsPart vu hi -> r x lo hi H Q →
  ∃ T id, typeLookup (.type T) "__getitem__" = pure (some (.builtin id)) /\ s.TypeIs v T /\ wpAny (model X.prog X.w) X.A (getItem v (.ref sl)) (EP X pins σ Q) X.xe s
def tSl (r : V -> Option Int -> Option Int -> Hp -> VK -> Prop) (te : TE) (tl th : TO) : TE := fun σ H Q => te σ H fun x H1 => tl σ H1 fun l H2 => th σ H2 fun u H3 => r x l u H3 Q
theorem Z16 {r : V -> Option Int -> Option Int -> Hp -> VK -> Prop} (hr : SlR X r) (he : PE X e te) (hl : PO X lo tl) (hu : PO X hi th) : PE X (.Subscript e (.Slice lo hi none p2) pos) (tSl r te tl th) := by
 intro pins s σ H Q I h
 refine Subscript_ (thn (he pins s σ H _ I h) fun v s1 ⟨x, H1, I1, r1, q1⟩ => ?_)
 refine wpAny_Slice (thn (hl pins s1 σ H1 _ I1 q1) fun vl s2 ⟨l, H2, I2, pl, q2⟩ => thn (hu pins s2 σ H2 _ I2 q2) fun vu s3 ⟨u, H3, I3, pu, q3⟩ => ?_)
 rw [evalPart_none]
 refine wpAny_pure ?_
 have I4 : Inv X pins σ H3 { s3 with heap := s3.heap.push { cls := .type "slice", data := .fields #[vl, vu, .none] } } := I3.kept (t' := s3.toks) fun b ob q => Heap.get?_push_of_some _ q
 obtain ⟨T, id, hT, ht, hg⟩ := hr pins { s3 with heap := s3.heap.push { cls := .type "slice", data := .fields #[vl, vu, .none] } } σ H3 x v vl vu l u s3.heap.objs.size Q I4 r1 (Heap.IsSliceOf.new ..) pl pu q3
 show wpAny (model X.prog X.w) X.A (subscriptTail e (.Slice lo hi none p2) v (.ref s3.heap.objs.size)) (EP X pins σ Q) X.xe { s3 with heap := s3.heap.push { cls := .type "slice", data := .fields #[vl, vu, .none] } }
 exact tail_any (ops := [.ref s3.heap.objs.size, v]) ht hT hg (by with_unfolding_all rfl)
def Z3s (xs : List V) (lo hi : Option Int) : List V := (xs.drop (HT.sIx xs.length 0 lo)).take (HT.sIx xs.length xs.length hi - HT.sIx xs.length 0 lo)
theorem Z5q (xs : List V) (lo hi : Option Int) : (Z3s xs lo hi).length <= xs.length := by
 unfold Z3s
 rw [List.length_take, List.length_drop]
 omega
def Zoe (K : PySem.W.Frag) : V -> Option Int -> Option Int -> Hp -> VK -> Prop := fun x lo hi H Q => ∃ a xs, x = .ref a /\ SqT K H a xs ∧
 ¬ (HT.sIx xs.length 0 lo = 0 /\ HT.sIx xs.length xs.length hi = xs.length) /\ ∀ p, H p = none -> Q (.ref p) (upd H p (.tup (Z3s xs lo hi)))
theorem Zct : SlR X (Zoe X.K) := by
 intro pins s σ H x v vl vu lo hi sl Q I rx hs pl pu h
 obtain ⟨a, xs, rfl, hx, hw, q⟩ := h
 cases rx
 obtain ⟨its, r, ht, hz⟩ := I.tuple hx
 have hlen : its.toArray.size = xs.length := by rw [List.size_toArray]; exact r.length.symm
 refine ⟨"tuple", _, PyProof.Rows.slot_tuple_getitem.lookup, ht.typeIs, ?_⟩
 refine HT.getItem_tuple_cut ht hs pl pu (by rw [hlen]; exact hw) ?_ (by rw [hlen]; exact hz)
 rw [hlen]
 refine ⟨.ref s.heap.objs.size, _, I.laid (t' := s.toks) (o := .tup (Z3s xs lo hi)) (fun b ob q => Heap.get?_push_of_some _ q) (Nat.le_refl _) ?_, rfl, q _ (I.hok.fresh (Nat.le_refl _))⟩
 exact ⟨Nat.le_trans (Z5q xs lo hi) hz, _, (r.drop (HT.sIx xs.length 0 lo)).take (HT.sIx xs.length xs.length hi - HT.sIx xs.length 0 lo), IsTup.new _ _⟩
def Zml (K : PySem.W.Frag) : R2 := fun x y H Q => ∃ a b xs ys, x = .ref a /\ y = .ref b /\ SqT K H a xs /\ SqT K H b ys /\ xs ≠ [] /\ xs.length + ys.length <= sizeLine ∧
 (ys = [] -> Q (.ref a) H) /\ (ys ≠ [] -> ∀ p, H p = none -> Q (.ref p) (upd H p (.tup (xs ++ ys))))
theorem Vals.nil_iff {xs : List V} {us : List Value} (r : Vals xs us) : us = [] ↔ xs = [] := by
 cases r with
 | nil => simp
 | cons _ _ => simp
theorem Zia : OpR X (binaryOp .Add) (Zml X.K) := by
 intro pins s σ H x y v u Q I rx ry h
 obtain ⟨a, b, xs, ys, rfl, rfl, ha, hb, hx, hz, q1, q2⟩ := h
 cases rx
 cases ry
 obtain ⟨its, r1, p1, _⟩ := I.tuple ha
 obtain ⟨its2, r2, p2, _⟩ := I.tuple hb
 refine HT.cat_tup p1 p2 (fun z => hx (r1.nil_iff.mp z)) (fun z => ⟨.ref a, H, I, rfl, q1 (r2.nil_iff.mp z)⟩) (fun z => ?_) (by rw [<- r1.length, <- r2.length]; exact hz)
 refine ⟨.ref s.heap.objs.size, _, I.laid (t' := s.toks) (o := .tup (xs ++ ys)) (fun b ob q => Heap.get?_push_of_some _ q) (Nat.le_refl _) ?_, rfl, q2 (fun w => z (r2.nil_iff.mpr w)) _ (I.hok.fresh (Nat.le_refl _))⟩
 exact ⟨by rw [List.length_append]; exact hz, _, r1.append r2, IsTup.new _ _⟩
end
def ixN (n : Nat) (i : Int) : Option Nat := if 0 <= i then (if i < n then some i.toNat else none) else if -(n : Int) <= i then some (i + n).toNat else none
def atI {α : Type} (xs : List α) (i : Int) : Option α := (ixN xs.length i).bind fun j => xs[j]?
theorem Zcu {n : Nat} {i : Int} {j : Nat} (h : ixN n i = some j) : seqIndex? i n = some j /\ j < n /\ -(n : Int) <= i /\ i < n := by
 unfold ixN at h
 by_cases h0 : 0 <= i
 ·rw [if_pos h0] at h
  by_cases h1 : i < n
  ·rw [if_pos h1] at h
   have e : i.toNat = j := Option.some.inj h
   exact ⟨by rw [seqIndex_of h0 h1, e], by omega, by omega, h1⟩
  ·rw [if_neg h1] at h; cases h
 ·rw [if_neg h0] at h
  by_cases h1 : -(n : Int) <= i
  ·rw [if_pos h1] at h
   have e : (i + n).toNat = j := Option.some.inj h
   exact ⟨by rw [seqIndex_neg (by omega) h1, e], by omega, h1, by omega⟩
  ·rw [if_neg h1] at h; cases h
theorem Z7h {α : Type} {xs : List α} {i : Int} {v : α} (h : atI xs i = some v) : ∃ j, seqIndex? i xs.length = some j /\ xs[j]? = some v /\ j < xs.length /\ -(xs.length : Int) <= i /\ i < xs.length := by
 unfold atI at h
 cases e : ixN xs.length i with
 | none => rw [e] at h; cases h
 | some j =>
  rw [e] at h
  obtain ⟨h1, h2, h3, h4⟩ := Zcu e
  exact ⟨j, h1, h, h2, h3, h4⟩
theorem Z32 {α : Type} {xs : List α} {j : Nat} {v : α} (h : xs[j]? = some v) : atI xs (j : Int) = some v := by
 have hj : j < xs.length := (List.getElem?_eq_some_iff.mp h).1
 have e : ixN xs.length (j : Int) = some j := by
  unfold ixN
  rw [if_pos (by omega), if_pos (by omega)]; simp
 unfold atI; rw [e]; exact h
def Zib (b : Expr) : Prop := ∀ o i, subscripted b false o i = operate [o, i] (getItem o i)
def IxR (X : Cx) (r : R2) : Prop :=
 ∀ (value slice : Expr) (pins : List (Addr × Obj)) (s : Shared) (σ : St) (H : Hp) (x y : V) (v u : Value) (Q : VK), Inv X pins σ H s -> RelV x v -> RelV y u -> r x y H Q →
  subscripted slice false v u = operate [v, u] (getItem v u) -> wpAny (model X.prog X.w) X.A (subscriptTail value slice v u) (EP X pins σ Q) X.xe s
def MtR (X : Cx) (id : String) (r : V -> List V -> Hp -> VK -> Prop) : Prop :=
 ∀ (pins : List (Addr × Obj)) (s : Shared) (σ : St) (H : Hp) (x : V) (xs : List V) (v : Value) (us : List Value) (Q : VK), Inv X pins σ H s -> RelV x v -> Vals xs us -> r x xs H Q →
  wpAny (model X.prog X.w) X.A (call (.builtin id) (v :: us)) (EP X pins σ Q) X.xe s
section
variable {X : Cx} {a b : Expr} {ta tb : TE} {pos : Pos}
theorem Z18 {r : R2} (hr : IxR X r) (ha : PE X a ta) (hb : PE X b tb) (hs : Zib b) : PE X (.Subscript a b pos) (tOp r ta tb) := by
 intro pins s σ H Q I h
 exact Subscript_ (Zmg ha hb I h fun v u s2 x y H2 I2 rx ry q => hr a b pins s2 σ H2 x y v u Q I2 rx ry q (hs _ _))
def Zof (K : PySem.W.Frag) : R2 := fun x y H Q => ∃ p xs i v, x = .ref p /\ y = .int i /\ SqL K H p xs /\ atI xs i = some v /\ Q v H
def Zog (K : PySem.W.Frag) : R2 := fun x y H Q => ∃ p xs i v, x = .ref p /\ y = .int i /\ SqT K H p xs /\ atI xs i = some v /\ Q v H
def rIxS : R2 := fun x y H Q => ∃ z i c, x = .str z /\ y = .int i /\ z.length <= sizeLine /\ atI z.cps.toList i = some c /\ Q (.str ⟨#[c]⟩) H
theorem Z20 : IxR X (Zof X.K) := by
 intro value slice pins s σ H x y v u Q I rx ry h hs
 obtain ⟨p, xs, i, z, rfl, rfl, hq, he, q⟩ := h
 cases rx
 obtain ⟨t, rfl⟩ := ry
 obtain ⟨its, r, pl, hz⟩ := I.list hq
 obtain ⟨j, h1, h2, h3, h4, h5⟩ := Z7h he
 obtain ⟨w, ew, rw'⟩ := r.get h2
 have hl := r.length
 have hn := Z5p
 have fin : EP X pins σ Q w s := ⟨z, H, I, rw', q⟩
 by_cases h0 : 0 <= i
 ·have hj : i.toNat = j := by
   rw [seqIndex_of h0 h5] at h1
   exact Option.some.inj h1
  exact item_listR pl.isList h0 (by omega) (by rw [hj]; simpa using ew) fin hs
 ·have hj : (i + (its.toArray.size : Int)).toNat = j := by
   rw [seqIndex_neg (by omega) h4] at h1
   rw [List.size_toArray, <- hl]
   exact Option.some.inj h1
  exact subscriptTail_builtinR (x := w) pl.isList.typeIs slot_list_getitem.lookup
   (wpAny_getItem_list_neg (Q := fun r s' => r = w /\ EP X pins σ Q r s') pl.isList (by omega) (by rw [List.size_toArray] <;> omega) (by omega) (by rw [hj]; simpa using ew) ⟨rfl, fin⟩) hs
theorem Z1s : IxR X (Zog X.K) := by
 intro value slice pins s σ H x y v u Q I rx ry h hs
 obtain ⟨p, xs, i, z, rfl, rfl, hq, he, q⟩ := h
 cases rx
 obtain ⟨t, rfl⟩ := ry
 obtain ⟨its, r, pl, hz⟩ := I.tuple hq
 obtain ⟨j, h1, h2, h3, h4, h5⟩ := Z7h he
 obtain ⟨w, ew, rw'⟩ := r.get h2
 have hl := r.length
 have hn := Z5p
 have fin : EP X pins σ Q w s := ⟨z, H, I, rw', q⟩
 exact subscriptTail_builtinR (x := w) pl.typeIs slot_tuple_getitem.lookup
  (getItem_tuple (j := j) (Q := fun r s' => r = w /\ EP X pins σ Q r s') pl (by omega) (by omega) (by rw [List.size_toArray, <- hl]; exact h1) (by simpa using ew) ⟨rfl, fin⟩) hs
theorem Zaf : IxR X rIxS := by
 intro value slice pins s σ H x y v u Q I rx ry h hs
 obtain ⟨z, i, c, rfl, rfl, hz, he, q⟩ := h
 obtain ⟨t, rfl⟩ := rx
 obtain ⟨t', rfl⟩ := ry
 obtain ⟨j, h1, h2, h3, h4, h5⟩ := Z7h he
 have hl : z.cps.toList.length = z.length := by simp [Str.length]
 rw [hl] at h1 h4 h5
 have hn := Z5p
 exact tail_any (typeIs_str s z t) slot_str_getitem.lookup (getItem_str (c := c) (by
  have e1 : decide (i < -(2 ^ 63 : Int)) = false := decide_eq_false (by omega)
  have e2 : decide (i ≥ 2 ^ 63) = false := decide_eq_false (by omega)
  rw [e1, e2, Bool.or_false]) (by rw [h1]; simpa using h2) ⟨.str ⟨#[c]⟩, H, I.tok _, ⟨_, rfl⟩, q⟩) hs
theorem Zbr (its : List Value) (n j : Nat) (u : Value) : Obj.mapSeq (·.setIfInBounds j u) { cls := .type "list", data := .seq its.toArray n } = { cls := .type "list", data := .seq (its.set j u).toArray n } := by
 simp [Obj.mapSeq]
theorem Inv.lst {pins : List (Addr × Obj)} {σ : St} {H : Hp} {s : Shared} {p : Addr} {xs : List V} (I : Inv X pins σ H s) (h : H p = some (.lst xs)) :
  ∃ (its : List Value) (n : Nat), Vals xs its /\ s.heap.get? p = some { cls := .type "list", data := .seq its.toArray n } /\ xs.length <= sizeLine := by
 obtain ⟨z, its, n, r, e⟩ := I.hok p _ h
 exact ⟨its, n, r, e, z⟩
theorem Inv.lstUpd {pins : List (Addr × Obj)} {σ : St} {H : Hp} {s : Shared} {p : Addr} {xs ys : List V} {its its' : List Value} {n n' : Nat} {f : Obj -> Obj} (I : Inv X pins σ H s) (h : H p = some (.lst xs))
  (ho : s.heap.get? p = some { cls := .type "list", data := .seq its.toArray n }) (hf : f { cls := .type "list", data := .seq its.toArray n } = { cls := .type "list", data := .seq its'.toArray n' }) (r : Vals ys its') (hz : ys.length <= sizeLine) (t : Nat) :
  Inv X pins σ (upd H p (.lst ys)) { s with heap := s.heap.update p f, toks := t } := by
 have e : (s.heap.update p f).get? p = some { cls := .type "list", data := .seq its'.toArray n' } := by
  rw [Heap.get?_update_self f ho (by rw [hf] <;> rfl), hf]
 refine I.write (x := p) (e := p) (by rw [h]; trivial) (.inl rfl) (fun b u hb q => (Heap.get?_update_other _ _ (Ne.symm hb)).trans q) ⟨_, e⟩ ?_
 exact ⟨hz, its', n', r, e⟩
def rSetL : V -> V -> V -> Hp -> (Hp -> Prop) -> Prop := fun o i v H Q => ∃ p xs k j, o = .ref p /\ i = .int k /\ H p = some (.lst xs) /\ ixN xs.length k = some j /\ Q (upd H p (.lst (xs.set j v)))
theorem Zf5 : Znl X rSetL := by
 intro pins s σ H o i v ov iv u Q I ro ri rv h
 obtain ⟨p, xs, k, j, rfl, rfl, hp, hj, q⟩ := h
 cases ro
 obtain ⟨t, rfl⟩ := ri
 obtain ⟨its, n, r, ho, hz⟩ := I.lst hp
 obtain ⟨h1, h2, h3, h4⟩ := Zcu hj
 have hl := r.length
 have hn := Z5p
 have I' : Inv X pins σ (upd H p (.lst (xs.set j v))) { s with heap := s.heap.update p (Obj.mapSeq (·.setIfInBounds j u)) } :=
  I.lstUpd hp ho (Zbr its n j u) (r.set rv j) (by rw [List.length_set]; exact hz) s.toks
 by_cases h0 : 0 <= k
 ·have hk : k.toNat = j := by
   rw [seqIndex_of h0 h4] at h1
   exact Option.some.inj h1
  exact PySem.W.ki_setAt ho h0 (by omega) (by rw [List.size_toArray, <- hl]; exact h4) (by rw [hk]; exact ⟨_, I', q⟩)
 ·have hk : (k + (its.toArray.size : Int)).toNat = j := by
   rw [seqIndex_neg (by omega) h3] at h1
   rw [List.size_toArray, <- hl]
   exact Option.some.inj h1
  exact PySem.W.ki_setBack ho (by omega) (by rw [List.size_toArray, <- hl]; exact h3) (by omega) (by rw [hk]; exact ⟨_, I', q⟩)
theorem Z8c (lo hi : Option Int) (n : Nat) : (sliceBounds lo hi none n).1 = ((HT.sIx n 0 lo : Nat) : Int) /\ (sliceBounds lo hi none n).2.1 = ((HT.sIx n n hi : Nat) : Int) /\ (sliceBounds lo hi none n).2.2 = 1 := by
 refine ⟨?_, ?_, rfl⟩
 ·cases lo with
  | none => simp [sliceBounds, HT.sIx]
  | some i =>
   simp only [sliceBounds, HT.sIx, Option.getD_none, show (1 : Int) > 0 by decide, if_true]
   by_cases h : i < 0
   ·simp only [h, if_true] <;> omega
   ·simp only [h, if_false] <;> omega
 ·cases hi with
  | none => simp [sliceBounds, HT.sIx]
  | some i =>
   simp only [sliceBounds, HT.sIx, Option.getD_none, show (1 : Int) > 0 by decide, if_true]
   by_cases h : i < 0
   ·simp only [h, if_true] <;> omega
   ·simp only [h, if_false] <;> omega
theorem Z7i (its : List Value) (lo hi : Option Int) : slicePick its.toArray lo hi none = ((its.drop (HT.sIx its.length 0 lo)).take (HT.sIx its.length its.length hi - HT.sIx its.length 0 lo)).toArray := by
 obtain ⟨h1, h2, h3⟩ := Z8c lo hi its.toArray.size
 unfold slicePick
 rw [h1, h2, h3]
 simp only [sliceRange_one, pick_run, List.size_toArray] <;> rfl
def Znr (K : PySem.W.Frag) : V -> Option Int -> Option Int -> Hp -> VK -> Prop := fun x lo hi H Q => ∃ a xs, x = .ref a /\ SqL K H a xs /\ ∀ p, H p = none -> Q (.ref p) (upd H p (.lst (Z3s xs lo hi)))
theorem Z9f : SlR X (Znr X.K) := by
 intro pins s σ H x v vl vu lo hi sl Q I rx hs pl pu h
 obtain ⟨a, xs, rfl, hx, q⟩ := h
 cases rx
 obtain ⟨its, r, ht, hz⟩ := I.list hx
 have hlen := r.length
 refine ⟨"list", _, slot_list_getitem.lookup, ht.isList.typeIs, ?_⟩
 refine wpAny_getItem_list_slice ht.isList hs pl pu .none (by simp) ?_ (by rw [List.size_toArray] <;> omega)
 rw [Z7i, <- hlen]
 refine ⟨.ref s.heap.objs.size, _, I.laid (t' := s.toks) (o := .lst (Z3s xs lo hi)) (fun b ob q => Heap.get?_push_of_some _ q) (Nat.le_refl _) ?_, rfl, q _ (I.hok.fresh (Nat.le_refl _))⟩
 exact ⟨Nat.le_trans (Z5q xs lo hi) hz, _, 0, (r.drop (HT.sIx xs.length 0 lo)).take (HT.sIx xs.length xs.length hi - HT.sIx xs.length 0 lo), Heap.get?_push_size _ rfl⟩
def Z33 : V -> Bool
 | .non => true
 | .bl _ => true
 | .int _ => true
 | .str _ => true
 | _ => false
def eqV : V -> V -> Bool
 | .non, .non => true
 | .bl a, .bl b => a == b
 | .bl a, .int b => (if a then 1 else 0) == b
 | .int a, .bl b => a == (if b then 1 else 0)
 | .int a, .int b => a == b
 | .str a, .str b => a == b
 | _, _ => false
theorem Zcv {A : Around} {s : Shared} {y x : V} {u v : Value} (ry : RelV y u) (rx : RelV x v) (fy : Z33 y = true) (fx : Z33 x = true) : SeqAt.EqAt A s u v (eqV y x) := by
 cases y with
 | non =>
  cases ry
  cases x with
  | non => cases rx; exact SeqAt.EqAt.same _
  | bl b => cases rx; exact SeqAt.EqAt.none_bool b
  | int b => obtain ⟨t, rfl⟩ := rx; exact SeqAt.EqAt.none_int b t
  | str b => obtain ⟨t, rfl⟩ := rx; exact SeqAt.EqAt.none_str b t
  | _ => exact absurd (show false = true from fx) Bool.false_ne_true
 | bl a =>
  cases ry
  cases x with
  | non => cases rx; exact SeqAt.EqAt.bool_none a
  | bl b => cases rx; exact SeqAt.EqAt.bool_bool a b
  | int b => obtain ⟨t, rfl⟩ := rx; exact SeqAt.EqAt.bool_int a b t
  | str b => obtain ⟨t, rfl⟩ := rx; exact SeqAt.EqAt.bool_str a b t
  | _ => exact absurd (show false = true from fx) Bool.false_ne_true
 | int a =>
  obtain ⟨t', rfl⟩ := ry
  cases x with
  | non => cases rx; exact SeqAt.EqAt.int_none a t'
  | bl b => cases rx; exact SeqAt.EqAt.int_bool a t' b
  | int b => obtain ⟨t, rfl⟩ := rx; exact SeqAt.EqAt.int_int a t' b t
  | str b => obtain ⟨t, rfl⟩ := rx; exact SeqAt.EqAt.int_str a t' b t
  | _ => exact absurd (show false = true from fx) Bool.false_ne_true
 | str a =>
  obtain ⟨t', rfl⟩ := ry
  cases x with
  | non => cases rx; exact SeqAt.EqAt.str_none a t'
  | bl b => cases rx; exact SeqAt.EqAt.str_bool a t' b
  | int b => obtain ⟨t, rfl⟩ := rx; exact SeqAt.EqAt.str_int a t' b t
  | str b => obtain ⟨t, rfl⟩ := rx; exact SeqAt.EqAt.str_str a t' b t
  | _ => exact absurd (show false = true from fx) Bool.false_ne_true
 | _ => exact absurd (show false = true from fy) Bool.false_ne_true
def eqU (x : V) (u : Value) : Bool := match u with
 | .none => eqV .non x
 | .bool b => eqV (.bl b) x
 | .int i _ => eqV (.int i) x
 | .str z _ => eqV (.str z) x
 | _ => false
theorem Zh2 {x y : V} {u : Value} (r : RelV y u) (f : Z33 y = true) : eqU x u = eqV y x := by
 cases y with
 | non => cases r; rfl
 | bl b => cases r; rfl
 | int i => obtain ⟨t, rfl⟩ := r; rfl
 | str z => obtain ⟨t, rfl⟩ := r; rfl
 | _ => exact absurd (show false = true from f) Bool.false_ne_true
theorem Z5r {x : V} : ∀ {xs : List V} {us : List Value}, Vals xs us -> xs.all Z33 = true -> us.any (eqU x) = xs.any fun y => eqV y x
 | _, _, .nil, _ => rfl
 | y :: xs, u :: us, .cons r t, f => by
  rw [List.all_cons, Bool.and_eq_true] at f
  rw [List.any_cons, List.any_cons, Zh2 r f.1, Z5r t f.2]
theorem Z46 {A : Around} {s : Shared} {x : V} {v : Value} (rx : RelV x v) (fx : Z33 x = true) : ∀ {xs : List V} {us : List Value}, Vals xs us -> xs.all Z33 = true -> ∀ u ∈ us, SeqAt.EqAt A s u v (eqU x u)
 | _, _, .nil, _ => fun u hu => by cases hu
 | y :: xs, u :: us, .cons r t, f => fun u' hu => by
  rw [List.all_cons, Bool.and_eq_true] at f
  rcases List.mem_cons.mp hu with rfl | hu
  ·rw [Zh2 r f.1]; exact Zcv r rx f.1 fx
  ·exact Z46 rx fx t f.2 u' hu
def inV (x : V) (xs : List V) : Bool := xs.any fun y => eqV y x
def rIn (K : PySem.W.Frag) (neg : Bool) : R2 := fun x y H Q => ∃ p xs, y = .ref p /\ (SqL K H p xs ∨ SqT K H p xs) /\ Z33 x = true /\ xs.all Z33 = true /\ Q (.bl (if neg then !inV x xs else inV x xs)) H
theorem Z1k : OpR X (compareOp .In) (rIn X.K false) := by
 intro pins s σ H x y v u Q I rx ry h
 obtain ⟨p, xs, rfl, hq, fx, fs, q⟩ := h
 cases ry
 rcases hq with hq | hq
 ·obtain ⟨its, r, pl, hz⟩ := I.list hq
  refine SeqAt.in_listAt (eqU x) pl.isList (fun w hw => Z46 rx fx r fs w (by simpa using hw)) ⟨.bl _, H, I, rfl, ?_⟩
  rw [show its.toArray.any (eqU x) = its.any (eqU x) by simp, Z5r r fs]
  exact q
 ·obtain ⟨its, r, pl, hz⟩ := I.tuple hq
  refine SeqAt.in_tupleAt (eqU x) pl (fun w hw => Z46 rx fx r fs w (by simpa using hw)) ⟨.bl _, H, I, rfl, ?_⟩
  rw [show its.toArray.any (eqU x) = its.any (eqU x) by simp, Z5r r fs]
  exact q
theorem Z3c : OpR X (compareOp .NotIn) (rIn X.K true) := by
 intro pins s σ H x y v u Q I rx ry h
 obtain ⟨p, xs, rfl, hq, fx, fs, q⟩ := h
 cases ry
 rcases hq with hq | hq
 ·obtain ⟨its, r, pl, hz⟩ := I.list hq
  refine SeqAt.notIn_listAt (eqU x) pl.isList (fun w hw => Z46 rx fx r fs w (by simpa using hw)) ⟨.bl _, H, I, rfl, ?_⟩
  rw [show its.toArray.any (eqU x) = its.any (eqU x) by simp, Z5r r fs]
  exact q
 ·obtain ⟨its, r, pl, hz⟩ := I.tuple hq
  refine SeqAt.notIn_tupleAt (eqU x) pl (fun w hw => Z46 rx fx r fs w (by simpa using hw)) ⟨.bl _, H, I, rfl, ?_⟩
  rw [show its.toArray.any (eqU x) = its.any (eqU x) by simp, Z5r r fs]
  exact q
theorem Z0w : Z5o X (.builtin "len") (fun xs H Q => ∃ p ys, xs = [.ref p] /\ (SqL X.K H p ys ∨ SqT X.K H p ys) /\ Q (.int ys.length) H) := by
 intro pins s σ H xs us Q I r h
 obtain ⟨p, ys, rfl, hq, q⟩ := h
 obtain ⟨u, rfl, rx⟩ := Z9d r
 cases rx
 have hn := Z5p
 rcases hq with hq | hq
 ·obtain ⟨its, r', pl, hz⟩ := I.list hq
  have hlen := r'.length
  exact Calls.call_len_list pl.isList (by simp only [List.size_toArray] <;> omega) ⟨.int ys.length, H, I.tok _, ⟨s.toks + 1, by rw [List.size_toArray, hlen]⟩, q⟩
 ·obtain ⟨its, r', pl, hz⟩ := I.tuple hq
  have hlen := r'.length
  exact len_tuple pl (by simp only [List.size_toArray] <;> omega) ⟨.int ys.length, H, I.tok _, ⟨s.toks + 1, by rw [List.size_toArray, hlen]⟩, q⟩
theorem Z2i : Z5o X (.builtin "len") (fun xs H Q => ∃ z, xs = [.str z] /\ z.length <= sizeLine /\ Q (.int z.length) H) := by
 intro pins s σ H xs us Q I r h
 obtain ⟨z, rfl, hz, q⟩ := h
 obtain ⟨u, rfl, t, rfl⟩ := Z9d r
 have hn := Z5p
 exact len_str (by omega) ⟨.int z.length, H, I.tok _, ⟨_, rfl⟩, q⟩
theorem Z2j : Z5o X (.type "list") (fun xs H Q => ∃ p ys, xs = [.ref p] /\ (SqL X.K H p ys ∨ SqT X.K H p ys) /\ ∀ l, H l = none -> Q (.ref l) (upd H l (.lst ys))) := by
 intro pins s σ H xs us Q I r h
 obtain ⟨p, ys, rfl, hq, q⟩ := h
 obtain ⟨u, rfl, rx⟩ := Z9d r
 cases rx
 have fin : ∀ (its : List Value), Vals ys its -> ys.length <= sizeLine -> ∀ (h' : Heap) (c' : Nat), (∀ b o', s.heap.get? b = some o' -> h'.get? b = some o') →
   h'.get? s.heap.objs.size = some { cls := .type "list", dict := none, data := .seq its.toArray c', slots := #[] } -> EP X pins σ Q (.ref s.heap.objs.size) { s with heap := h' } := fun its r' hz h' c' kp e =>
  ⟨.ref s.heap.objs.size, _, I.laid (t' := s.toks) kp (Nat.le_refl _) (show ObjOk X.prog X.w _ h' _ (.lst ys) from ⟨hz, its, c', r', e⟩), rfl, q _ (I.hok.fresh (Nat.le_refl _))⟩
 rcases hq with hq | hq
 ·obtain ⟨its, r', pl, hz⟩ := I.list hq
  have hlen := r'.length
  obtain ⟨o, ho, hc, n, hd⟩ := pl.isList
  exact call_list_seq p (.inl rfl) ho hc hd (fun h' c' kp e => fin its r' hz h' c' kp e) (by simp only [List.size_toArray] <;> omega)
 ·obtain ⟨its, r', pl, hz⟩ := I.tuple hq
  have hlen := r'.length
  obtain ⟨o, ho, hc, n, hd⟩ := pl
  exact call_list_seq p (.inr rfl) ho hc hd (fun h' c' kp e => fin its r' hz h' c' kp e) (by simp only [List.size_toArray] <;> omega)
theorem Z1f : Z5o X (.type "tuple") (fun xs H Q => ∃ p ys, xs = [.ref p] /\ ((SqL X.K H p ys /\ ∀ l, H l = none -> Q (.ref l) (upd H l (.tup ys))) ∨ (SqT X.K H p ys /\ Q (.ref p) H))) := by
 intro pins s σ H xs us Q I r h
 obtain ⟨p, ys, rfl, h⟩ := h
 obtain ⟨u, rfl, rx⟩ := Z9d r
 cases rx
 rcases h with ⟨hq, q⟩ | ⟨hq, q⟩
 ·obtain ⟨its, r', pl, hz⟩ := I.list hq
  have hlen := r'.length
  refine call_tuple_list pl.isList (fun h' kp => ?_) (by simp only [List.size_toArray] <;> omega)
  have I1 : Inv X pins σ H { s with heap := h' } := I.kept (t' := s.toks) kp
  have I2 : Inv X pins σ (upd H h'.objs.size (.tup ys)) { s with heap := h'.push { cls := .type "tuple", data := .seq its.toArray } } :=
   I1.laid (t' := s.toks) (fun b o e => Heap.get?_push_of_some _ e) (Nat.le_refl _) (show ObjOk X.prog X.w _ _ _ (.tup ys) from ⟨hz, its, r', IsTup.new _ _⟩)
  exact ⟨.ref h'.objs.size, _, I2, rfl, q _ (I1.hok.fresh (Nat.le_refl _))⟩
 ·obtain ⟨its, r', pl, hz⟩ := I.tuple hq
  exact call_tuple_same pl ⟨.ref p, H, I, rfl, q⟩
def tyV (K : PySem.W.Frag) (T : String) (x : V) (H : Hp) : Prop := match x with
 | .str _ => T = "str"
 | .int _ => T = "int"
 | .ref p => (T = "list" /\ ∃ xs, SqL K H p xs) ∨ (T = "tuple" /\ ∃ o, K.lookup p = some o /\ o.cls = .type "tuple" /\ o.dict = none) ∨
   (T = "dict" /\ ((∃ kvs, H p = some (.dK kvs)) ∨ ∃ kvs, H p = some (.dT kvs))) ∨ (T = "set" /\ ∃ S n, H p = some (.set S n))
 | _ => False
theorem Zh3 {pins : List (Addr × Obj)} {σ : St} {H : Hp} {s : Shared} {T : String} {x : V} {v : Value} (I : Inv X pins σ H s) (r : RelV x v) (ty : tyV X.K T x H) :
  s.TypeIs v T /\ ∀ a, v = .ref a -> ∃ ob, s.heap.get? a = some ob /\ ob.dict = none := by
 cases x with
 | str z =>
  obtain ⟨t, rfl⟩ := r
  cases (show T = "str" from ty)
  exact ⟨typeIs_str s z t, fun _ e => nomatch e⟩
 | int i =>
  obtain ⟨t, rfl⟩ := r
  cases (show T = "int" from ty)
  exact ⟨typeIs_int s i t, fun _ e => nomatch e⟩
 | ref p =>
  cases r
  rcases ty with ⟨rfl, xs, hq⟩ | ⟨rfl, o, hk, hc, hd⟩ | ⟨rfl, hk⟩ | ⟨rfl, S, n, hk⟩
  ·obtain ⟨its, _, pl, _⟩ := I.list hq
   refine ⟨pl.isList.typeIs, fun a e => ?_⟩
   cases e
   obtain ⟨o, n, e, c, hd, _⟩ := pl
   exact ⟨o, e, hd⟩
  ·refine ⟨⟨o, I.kIn p o hk, hc⟩, fun a e => ?_⟩
   cases e
   exact ⟨o, I.kIn _ o hk, hd⟩
  ·have z : ∃ o, s.heap.get? p = some o /\ o.ExactDict := by
    rcases hk with ⟨kvs, hk⟩ | ⟨kvs, hk⟩
    ·obtain ⟨_, _, _, _, o, _, _, e, ex, _⟩ := I.hok p _ hk
     exact ⟨o, e, ex⟩
    ·obtain ⟨_, _, _, _, o, _, _, e, ex, _⟩ := I.hok p _ hk
     exact ⟨o, e, ex⟩
   obtain ⟨o, e, ex⟩ := z
   refine ⟨⟨o, e, ex.1⟩, fun a e2 => ?_⟩
   cases e2
   exact ⟨o, e, ex.2.1⟩
  ·obtain ⟨o, _, _, _, e, ex, _⟩ := I.hok p _ hk
   refine ⟨⟨o, e, ex.1⟩, fun a e2 => ?_⟩
   cases e2
   exact ⟨o, e, ex.2.1⟩
 | _ => exact False.elim ty
def Zoh (K : PySem.W.Frag) (T : String) (r : V -> List V -> Hp -> VK -> Prop) (to : TE) : TE := fun σ H Q => to σ H fun x H1 => tyV K T x H1 /\ r x [] H1 Q
def tBM (K : PySem.W.Frag) (T : String) (r : V -> List V -> Hp -> VK -> Prop) (to : TE) (t : TA) : TE := fun σ H Q => to σ H fun x H1 => tyV K T x H1 /\ t σ H1 fun xs H2 => r x xs H2 Q
variable {o e : Expr} {es : List Expr} {to : TE} {t : TA} {name : Str} {apos cpos : Pos} {T id : String} {r : V -> List V -> Hp -> VK -> Prop}
theorem Zh4 (pa : PlainAttrs T) (slot : Slot T name id) (hty : typeOf (.builtin id) = pure (.type "method_descriptor")) (hm : MtR X id r) (ho : PE X o to)
  (hbase : attributeBase o name X.env (eval o X.env) = eval o X.env := by rfl) (hline : (apos.endLine == cpos.line) = true := by rfl) : PE X (.Call (.Attribute o name apos) [] [] cpos) (Zoh X.K T r to) := by
 intro pins s σ H Q I h
 refine wpAny_Call_method0_late hbase hline (thn (ho pins s σ H _ I h) fun v s1 ⟨x, H1, I1, r1, ty, q1⟩ => ?_)
 obtain ⟨h1, h2⟩ := Zh3 I1 r1 ty
 exact ⟨T, id, pa, slot, hty, h1, h2, Calls.callWith_builtin rfl (PySem.evalArgs_none (hm pins s1 σ H1 x [] v [] Q I1 r1 .nil q1))⟩
theorem Z7j (pa : PlainAttrs T) (slot : Slot T name id) (hty : typeOf (.builtin id) = pure (.type "method_descriptor")) (hm : MtR X id r) (ho : PE X o to) (ha : PA X (e :: es) t)
  (hbase : attributeBase o name X.env (eval o X.env) = eval o X.env := by rfl)
  (hfew : ((backTo cpos (starEach (e :: es) X.env)).all (fun x => !x.1) && (backToKw cpos (keywordEach [] X.env)).all (fun x => x.1.isSome)
   && decide ((e :: es).length + ([] : List Keyword).length + (if ([] : List Keyword).isEmpty then 0 else 1) < 30)) = true := by rfl)
  (hline : (apos.endLine == cpos.line) = true := by rfl) (hs : starEach (e :: es) X.env = (false, eval e X.env) :: starEach es X.env := by rfl) (hplain : (backTo cpos (starEach es X.env)).any (·.1) = false := by rfl) :
  PE X (.Call (.Attribute o name apos) (e :: es) [] cpos) (tBM X.K T r to t) := by
 intro pins s σ H Q I h
 refine wpAny_Call_method_late hbase hfew hline rfl (thn (ho pins s σ H _ I h) fun v s1 ⟨x, H1, I1, r1, ty, q1⟩ => ?_)
 obtain ⟨h1, h2⟩ := Zh3 I1 r1 ty
 refine ⟨T, id, pa, slot, hty, h1, h2, ?_⟩
 have hA := ha cpos pins s1 σ H1 _ I1 q1
 rw [hs] at hA ⊢
 refine Calls.callWith_builtin (by show (false || (backTo cpos (starEach es X.env)).any (·.1)) = false; rw [hplain] <;> rfl) (Calls.evalArgs_plain ?_)
 exact thn hA fun us s2 ⟨vs, H2, I2, r2, q2⟩ => hm pins s2 σ H2 x vs v us Q I2 r1 r2 q2
end
def MtM (X : Cx) (id : String) (r : V -> List V -> Hp -> VK -> Prop) : Prop :=
 ∀ (pins : List (Addr × Obj)) (s : Shared) (σ : St) (H : Hp) (x : V) (xs : List V) (v : Value) (us : List Value) (Q : VK), Inv X pins σ H s -> RelV x v -> Vals xs us -> r x xs H Q →
  wpAny (model X.prog X.w) X.A (call (.builtin id) (v :: us)) (EP X pins σ Q) X.xe s
theorem Vals.one : ∀ {x : V} {us : List Value}, Vals [x] us -> ∃ u, us = [u] /\ RelV x u
 | _, _, .cons r .nil => ⟨_, rfl, r⟩
theorem Vals.zero : ∀ {us : List Value}, Vals [] us -> us = []
 | _, .nil => rfl
theorem Vals.dropLast {xs : List V} {us : List Value} (h : Vals xs us) : Vals xs.dropLast us.dropLast := by
 induction h with
 | nil => exact .nil
 | cons r t ih =>
  cases t with
  | nil => exact .nil
  | cons q t' => exact .cons r ih
theorem Vals.reverse {xs : List V} {us : List Value} (h : Vals xs us) : Vals xs.reverse us.reverse := by
 induction h with
 | nil => exact .nil
 | cons r t ih => rw [List.reverse_cons, List.reverse_cons]; exact Vals.append ih (.cons r .nil)
theorem Vals.rep {xs : List V} {us : List Value} (h : Vals xs us) : ∀ k : Nat, Vals (List.replicate k xs).flatten (List.replicate k us).flatten
 | 0 => .nil
 | k + 1 => by
  rw [List.replicate_succ, List.replicate_succ, List.flatten_cons, List.flatten_cons]
  exact Vals.append h (Vals.rep h k)
theorem Zbs {α : Type} (l : List α) : l.eraseIdx (l.length - 1) = l.dropLast := by
 induction l with
 | nil => rfl
 | cons a r ih =>
  cases r with
  | nil => rfl
  | cons b r =>
   have e : (a :: b :: r).length - 1 = ((b :: r).length - 1) + 1 := by
    have h1 : (a :: b :: r).length = r.length + 2 := rfl
    have h2 : (b :: r).length = r.length + 1 := rfl
    omega
   rw [e, List.eraseIdx_cons_succ, ih]
   all_goals rfl
theorem Z8d (its : List Value) : ∀ (k : Nat) (acc : List Value),
  List.foldl (fun x1 x2 => x1 ++ x2) acc.toArray (List.replicate k its.toArray) = (acc ++ (List.replicate k its).flatten).toArray
 | 0, acc => by simp
 | k + 1, acc => by
  have e : acc.toArray ++ its.toArray = (acc ++ its).toArray := by simp
  have e2 : (acc ++ its) ++ (List.replicate k its).flatten = acc ++ (List.replicate (k + 1) its).flatten := by
   rw [List.replicate_succ, List.flatten_cons, List.append_assoc]
  rw [<- e2, <- Z8d its k (acc ++ its), <- e, List.replicate_succ, List.foldl_cons]
section
variable {X : Cx} {pins : List (Addr × Obj)} {σ : St} {H : Hp} {s : Shared} {l b : Addr} {xs ys zs : List V}
theorem Inv.lset {its its' : List Value} {n : Nat} {f : Array Value -> Array Value} {t' : Nat} (I : Inv X pins σ H s) (hH : H l = some (.lst xs))
  (e : s.heap.get? l = some { cls := .type "list", data := .seq its.toArray n }) (hf : f its.toArray = its'.toArray) (hv : Vals ys its') (hz : ys.length <= sizeLine) :
  Inv X pins σ (upd H l (.lst ys)) { s with heap := s.heap.update l (Obj.mapSeq f), toks := t' } := by
 have q := PySem.IsL.update e f
 rw [hf] at q
 refine I.write (x := l) (e := l) (by rw [hH]; exact trivial) (.inl rfl) (fun b' u hb hu => (Heap.get?_update_other s.heap (Obj.mapSeq f) (Ne.symm hb)).trans hu) ⟨_, q⟩ ?_
 exact ⟨hz, its', _, hv, q⟩
theorem Inv.lnew {its : List Value} {t' : Nat} (I : Inv X pins σ H s) (hv : Vals ys its) (hz : ys.length <= sizeLine) :
  Inv X pins σ (upd H s.heap.objs.size (.lst ys)) { s with heap := s.heap.push { cls := .type "list", data := .seq its.toArray }, toks := t' } :=
 I.laid (fun _ _ q => Heap.get?_push_of_some _ q) (Nat.le_refl _) ⟨hz, its, 0, hv, Heap.get?_push_size _ rfl⟩
theorem Inv.fresh (I : Inv X pins σ H s) : H s.heap.objs.size = none := I.hok.fresh (Nat.le_refl _)
theorem Inv.lstM (I : Inv X pins σ H s) (hH : H l = some (.lst xs)) : xs.length <= sizeLine /\ ∃ (its : List Value) (n : Nat), Vals xs its /\ xs.length = its.length /\ s.heap.get? l = some { cls := .type "list", data := .seq its.toArray n } := by
 obtain ⟨z, its, n, r, e⟩ := I.hok l _ hH
 exact ⟨z, its, n, r, r.length, e⟩
theorem Zag {n : Nat} (h : n <= sizeLine) : Builtin.List.listTooLong n = false := by
 unfold Builtin.List.listTooLong
 exact decide_eq_false (by omega)
end
section
variable {X : Cx}
def rAppend : V -> List V -> Hp -> VK -> Prop := fun x vs H Q => ∃ l xs y, x = .ref l /\ vs = [y] /\ H l = some (.lst xs) /\ xs.length < sizeLine /\ Q .non (upd H l (.lst (xs ++ [y])))
theorem Z2d : MtM X "list.append" rAppend := by
 intro pins s σ H x vs v us Q I rx rv h
 obtain ⟨l, xs, y, rfl, rfl, hH, hz, q⟩ := h
 cases rx
 obtain ⟨u, rfl, ru⟩ := rv.one
 obtain ⟨z, its, n, r, hl, e⟩ := I.lstM hH
 refine call_meets F.slot_list_append ⟨_, e, rfl⟩ F.entry_list_append (F.args_list_append_2 _ _) (PySem.list_append l its.toArray n u (by rw [List.size_toArray]; omega)) ⟨e, ?_⟩
 refine ⟨.non, _, I.lset (its' := its ++ [u]) hH e (by simp) (r.append (.cons ru .nil)) ?_, rfl, q⟩
 rw [List.length_append, List.length_singleton]
 omega
def rExtend : V -> List V -> Hp -> VK -> Prop := fun x vs H Q => ∃ l b xs zs, x = .ref l /\ vs = [.ref b] /\ H l = some (.lst xs) /\ H b = some (.lst zs) /\ xs.length + zs.length <= sizeLine /\ Q .non (upd H l (.lst (xs ++ zs)))
theorem Zcw : MtM X "list.extend" rExtend := by
 intro pins s σ H x vs v us Q I rx rv h
 obtain ⟨l, b, xs, zs, rfl, rfl, hH, hB, hz, q⟩ := h
 cases rx
 obtain ⟨u, rfl, ru⟩ := rv.one
 cases ru
 obtain ⟨z, its, n, r, hl, e⟩ := I.lstM hH
 obtain ⟨z2, its2, n2, r2, hl2, e2⟩ := I.lstM hB
 have hsz : its.toArray.size + its2.toArray.size <= sizeLine := by rw [List.size_toArray, List.size_toArray]; omega
 have hlong : ¬ (!its.toArray.isEmpty && Builtin.List.listTooLong (its.toArray.size + its2.toArray.size)) = true := by
  rw [Zag hsz, Bool.and_false]
  exact Bool.false_ne_true
 refine call_meets F.slot_list_extend ⟨_, e, rfl⟩ F.entry_list_extend (F.args_list_extend_2 _ _)
  (AutoSeq1.list_extend_list_list_0 l its.toArray n b its2.toArray n2 hlong (by rw [List.size_toArray]; omega) (by omega)) ⟨e, e2, ?_⟩
 refine ⟨.non, _, I.lset (its' := its ++ its2) hH e (by simp) (r.append r2) ?_, rfl, q⟩
 rw [List.length_append]
 omega
def rPop : V -> List V -> Hp -> VK -> Prop := fun x vs H Q => ∃ l xs y, x = .ref l /\ vs = [] /\ H l = some (.lst xs) /\ xs[xs.length - 1]? = some y /\ Q y (upd H l (.lst xs.dropLast))
theorem Zh5 : MtM X "list.pop" rPop := by
 intro pins s σ H x vs v us Q I rx rv h
 obtain ⟨l, xs, y, rfl, rfl, hH, hy, q⟩ := h
 cases rx
 have hus := rv.zero
 subst hus
 obtain ⟨z, its, n, r, hl, e⟩ := I.lstM hH
 obtain ⟨u, hu, ru⟩ := r.get hy
 have hy' : its.toArray[its.toArray.size - 1]? = some u := by
  show its.toArray[its.length - 1]? = some u
  rw [<- Array.getElem?_toList, <- hl]
  exact hu
 refine call_meets F.slot_list_pop ⟨_, e, rfl⟩ F.entry_list_pop (F.args_list_pop_1 _) (MeetsSeq.list_pop_last l its.toArray n u hy' (by rw [List.size_toArray]; omega)) ⟨e, ?_⟩
 refine ⟨y, _, I.lset (its' := its.dropLast) hH e ?_ r.dropLast ?_, ru, q⟩
 ·show its.toArray.eraseIdxIfInBounds (its.toArray.size - 1) = its.dropLast.toArray
  rw [List.size_toArray, List.eraseIdxIfInBounds_toArray, Zbs]
 ·rw [List.length_dropLast]
  omega
def rCat : R2 := fun x y H Q => ∃ l b xs zs, x = .ref l /\ y = .ref b /\ H l = some (.lst xs) /\ H b = some (.lst zs) /\ xs.length + zs.length <= sizeLine /\ ∀ p, H p = none -> Q (.ref p) (upd H p (.lst (xs ++ zs)))
theorem Z2e : OpR X (binaryOp .Add) rCat := by
 intro pins s σ H x y v u Q I rx ry h
 obtain ⟨l, b, xs, zs, rfl, rfl, hH, hB, hz, q⟩ := h
 cases rx
 cases ry
 obtain ⟨z, its, n, r, hl, e⟩ := I.lstM hH
 obtain ⟨z2, its2, n2, r2, hl2, e2⟩ := I.lstM hB
 refine PySem.P.add_list e e2 ?_ (by rw [List.size_toArray, List.size_toArray]; omega)
 have ea : its.toArray ++ its2.toArray = (its ++ its2).toArray := by simp
 rw [ea]
 exact ⟨.ref _, _, I.lnew (t' := s.toks) (r.append r2) (by rw [List.length_append]; omega), rfl, q _ I.fresh⟩
theorem Z9g {α : Type} (xs : List α) (k : Nat) : (List.replicate k xs).flatten.length = k * xs.length := by
 induction k with
 | zero => simp
 | succ k ih => rw [List.replicate_succ, List.flatten_cons, List.length_append, ih, Nat.succ_mul, Nat.add_comm]
end
section
variable {prog : Program} {w : World} {A : Around} {E : Value -> Shared -> Prop} {s : Shared}
end
section
variable {X : Cx}
end
section
variable {κ : Type} [DecidableEq κ]
def Z2h (kvs : List (κ × V)) (k : κ) : Option V := (kvs.find? fun kv => decide (kv.1 = k)).map (·.2)
def Z5b (kvs : List (κ × V)) (k : κ) (v : V) : List (κ × V) :=
 if (kvs.any fun kv => decide (kv.1 = k)) = true then kvs.map (fun kv => if kv.1 = k then (kv.1, v) else kv) else kvs ++ [(k, v)]
theorem Z1m {p : κ × V} {r : List (κ × V)} {k : κ} (e : p.1 = k) : Z2h (p :: r) k = some p.2 := by simp [Z2h, List.find?_cons, e]
theorem Z1g {p : κ × V} {r : List (κ × V)} {k : κ} (e : ¬ p.1 = k) : Z2h (p :: r) k = Z2h r k := by simp [Z2h, List.find?_cons, e]
theorem Z47 (k : κ) : ∀ kvs : List (κ × V), (kvs.any fun kv => decide (kv.1 = k)) = (Z2h kvs k).isSome
 | [] => rfl
 | p :: r => by
  rw [List.any_cons]
  by_cases e : p.1 = k
  ·simp only [Z1m e, decide_eq_true e, Bool.true_or, Option.isSome_some]
  ·rw [Z1g e, decide_eq_false e, Bool.false_or]; exact Z47 k r
theorem Zah (k j : κ) (y : V) : ∀ kvs : List (κ × V), Z2h (kvs.map fun kv => if kv.1 = k then (kv.1, y) else kv) j = (Z2h kvs j).map fun x => if j = k then y else x
 | [] => rfl
 | p :: r => by
  have ih := Zah k j y r
  rw [List.map_cons]
  by_cases h : p.1 = k
  ·rw [if_pos h]
   by_cases e : p.1 = j
   ·rw [Z1m (p := (p.1, y)) e, Z1m e, Option.map_some, if_pos (e.symm.trans h)]
   ·rw [Z1g (p := (p.1, y)) e, Z1g e, ih]
  ·rw [if_neg h]
   by_cases e : p.1 = j
   ·rw [Z1m (p := p) e, Z1m e, Option.map_some, if_neg (fun z => h (e.trans z))]
   ·rw [Z1g (p := p) e, Z1g e, ih]
theorem Z8e (k j : κ) (y : V) : ∀ kvs : List (κ × V), Z2h kvs k = none -> Z2h (kvs ++ [(k, y)]) j = if j = k then some y else Z2h kvs j
 | [], _ => by
  by_cases e : k = j
  ·rw [if_pos e.symm]; exact Z1m (p := (k, y)) e
  ·rw [if_neg (fun z => e z.symm)]; exact Z1g (p := (k, y)) e
 | p :: r, hn => by
  rw [List.cons_append]
  have hk : ¬ p.1 = k := fun z => by rw [Z1m z] at hn; cases hn
  rw [Z1g hk] at hn
  have ih := Z8e k j y r hn
  by_cases e : p.1 = j
  ·rw [Z1m e, Z1m e, if_neg (fun z => hk (e.trans z))]
  ·rw [Z1g e, Z1g e, ih]
theorem Zai (kvs : List (κ × V)) (k j : κ) (y : V) : Z2h (Z5b kvs k y) j = if j = k then some y else Z2h kvs j := by
 unfold Z5b
 by_cases a : (kvs.any fun kv => decide (kv.1 = k)) = true
 ·rw [if_pos a, Zah]
  rw [Z47] at a
  by_cases e : j = k
  ·obtain ⟨x, hx⟩ := Option.isSome_iff_exists.mp a
   rw [if_pos e, e, hx, Option.map_some, if_pos rfl]
  ·rw [if_neg e]
   cases Z2h kvs j with
   | none => rfl
   | some x => rw [Option.map_some, if_neg e]
 ·rw [if_neg a]
  refine Z8e k j y kvs ?_
  rw [Z47] at a
  cases q : Z2h kvs k with
  | none => rfl
  | some x => rw [q] at a; exact (a rfl).elim
theorem Z2f (kvs : List (κ × V)) (k : κ) (v : V) : (Z5b kvs k v).length <= kvs.length + 1 := by
 unfold Z5b
 split
 ·rw [List.length_map]; omega
 ·rw [List.length_append, List.length_cons, List.length_nil]; omega
theorem Zf6 {kvs : List (κ × V)} {k : κ} (v : V) (h : Z2h kvs k = none) : Z5b kvs k v = kvs ++ [(k, v)] := by
 unfold Z5b
 rw [Z47, h]
 exact if_neg (by decide)
theorem RelO.isSome_eq {o : Option V} {u : Option Value} (r : RelO o u) : o.isSome = u.isSome := by
 cases o with
 | none => cases u with
  | none => rfl
  | some _ => exact (show False from r).elim
 | some _ => cases u with
  | none => exact (show False from r).elim
  | some _ => rfl
theorem RelO.getD {o : Option V} {u : Option Value} {d : V} {d' : Value} (r : RelO o u) (rd : RelV d d') : RelV (o.getD d) (u.getD d') := by
 cases o with
 | none => cases u with
  | none => exact rd
  | some _ => exact (show False from r).elim
 | some _ => cases u with
  | none => exact (show False from r).elim
  | some _ => exact r
theorem KV.val {kvs : List (κ × V)} {vs : List (κ × Value)} (r : KV kvs vs) (k : κ) : RelO (Z2h kvs k) (valueAt vs k) := by
 unfold KV at r
 induction r with
 | nil => exact True.intro
 | @cons p q ps qs h t ih =>
  obtain ⟨h1, h2⟩ := h
  by_cases e : p.1 = k
  ·have e' : q.1 = k := h1.symm.trans e
   have b : valueAt (q :: qs) k = some q.2 := by simp [valueAt, List.find?_cons, e']
   rw [Z1m e, b]; exact h2
  ·have e' : ¬ q.1 = k := fun z => e (h1.trans z)
   have b : valueAt (q :: qs) k = valueAt qs k := by simp [valueAt, List.find?_cons, e']
   rw [Z1g e, b]; exact ih
theorem KV.any {kvs : List (κ × V)} {vs : List (κ × Value)} (r : KV kvs vs) (k : κ) : (kvs.any fun kv => decide (kv.1 = k)) = vs.any fun kv => decide (kv.1 = k) := by
 unfold KV at r
 induction r with
 | nil => rfl
 | cons h t ih => rw [List.any_cons, List.any_cons, ih, h.1]
theorem KV.repl {kvs : List (κ × V)} {vs : List (κ × Value)} (r : KV kvs vs) (k : κ) {y : V} {u : Value} (ry : RelV y u) :
  KV (kvs.map fun kv => if kv.1 = k then (kv.1, y) else kv) (vs.map fun kv => if kv.1 = k then (kv.1, u) else kv) := by
 unfold KV at r ⊢
 induction r with
 | nil => exact .nil
 | @cons p q ps qs h t ih =>
  rw [List.map_cons, List.map_cons]
  refine .cons ?_ ih
  obtain ⟨h1, h2⟩ := h
  by_cases e : p.1 = k
  ·rw [if_pos e, if_pos (h1.symm.trans e)]; exact ⟨h1, ry⟩
  ·rw [if_neg e, if_neg (fun z => e (h1.trans z))]; exact ⟨h1, h2⟩
theorem KV.put {kvs : List (κ × V)} {vs : List (κ × Value)} (r : KV kvs vs) (k : κ) {y : V} {u : Value} (ry : RelV y u) : KV (Z5b kvs k y) (stored vs k u) := by
 unfold Z5b stored
 rw [r.any k]
 by_cases e : (vs.any fun kv => decide (kv.1 = k)) = true
 ·rw [if_pos e, if_pos e]; exact r.repl k ry
 ·rw [if_neg e, if_neg e]; exact Paired.snoc r ⟨rfl, ry⟩
theorem KV.length {kvs : List (κ × V)} {vs : List (κ × Value)} (r : KV kvs vs) : kvs.length = vs.length := Paired.length r
end
theorem Zbt {P : Program} {w : World} {k : Key} {u : Value} (r : RelV (kV k) u) : (Z0x P w).is k u = true := by
 cases k with
 | inl i => obtain ⟨t, e⟩ := (show ∃ t, u = Value.int i t from r); subst e; exact Z9a P w i t
 | inr x => obtain ⟨t, e⟩ := (show ∃ t, u = Value.str x t from r); subst e; exact Z3z P w x t
theorem Z8f {P : Program} {w : World} : ∀ {ks : List Key} {us : List Value}, Vals (ks.map kV) us -> ItemsAre (Z0x P w) ks us
 | [], _, r => by rw [List.map_nil] at r; cases r; exact .nil
 | k :: ks, _, r => by
  rw [List.map_cons] at r
  cases r with
  | cons h t => exact .cons (Zbt h) (Z8f t)
abbrev KT (H : Hp) : List (List Key × V) -> List (List Key × Addr × Value) -> Prop := Paired fun p q => p.1 = q.1 /\ H q.2.1 = some (.tup (p.1.map kV)) /\ RelV p.2 q.2.2
theorem KT.val {H : Hp} {kvs : List (List Key × V)} {xs : List (List Key × Addr × Value)} (r : KT H kvs xs) (k : List Key) : RelO (Z2h kvs k) ((atKey xs k).map (·.2)) := by
 induction r with
 | nil => exact True.intro
 | @cons p q ps qs h t ih =>
  obtain ⟨h1, _, h2⟩ := h
  by_cases e : p.1 = k
  ·have e' : q.1 = k := h1.symm.trans e
   have b : atKey (q :: qs) k = some q.2 := by simp [atKey, List.find?_cons, e']
   rw [Z1m e, b]; exact h2
  ·have e' : ¬ q.1 = k := fun z => e (h1.trans z)
   have b : atKey (q :: qs) k = atKey qs k := by simp [atKey, List.find?_cons, e']
   rw [Z1g e, b]; exact ih
theorem KT.repl {H : Hp} {kvs : List (List Key × V)} {xs : List (List Key × Addr × Value)} (r : KT H kvs xs) (k : List Key) {y : V} {u : Value} (ry : RelV y u) :
  KT H (kvs.map fun kv => if kv.1 = k then (kv.1, y) else kv) (xs.map (putAt k u)) := by
 induction r with
 | nil => exact .nil
 | @cons p q ps qs h t ih =>
  rw [List.map_cons, List.map_cons]
  refine .cons ?_ ih
  obtain ⟨h1, h2, h3⟩ := h
  unfold putAt
  by_cases e : p.1 = k
  ·rw [if_pos e, if_pos (h1.symm.trans e)]; exact ⟨h1, h2, ry⟩
  ·rw [if_neg e, if_neg (fun z => e (h1.trans z))]; exact ⟨h1, h2, h3⟩
theorem KT.put {H : Hp} {kvs : List (List Key × V)} {xs : List (List Key × Addr × Value)} (r : KT H kvs xs) (k : List Key) {b : Addr} {y : V} {u : Value} (hb : H b = some (.tup (k.map kV))) (ry : RelV y u) :
  KT H (Z5b kvs k y) (storedH xs k b u) := by
 have e : (kvs.any fun kv => decide (kv.1 = k)) = (atKey xs k).isSome := by
  rw [Z47, (r.val k).isSome_eq, Option.isSome_map]
 unfold Z5b storedH
 rw [e]
 by_cases q : (atKey xs k).isSome = true
 ·rw [if_pos q, if_pos q]; exact r.repl k ry
 ·rw [if_neg q, if_neg q]; exact Paired.snoc r ⟨rfl, hb, ry⟩
theorem KT.keeps {H H' : Hp} {kvs : List (List Key × V)} {xs : List (List Key × Addr × Value)} (r : KT H kvs xs) (ht : ∀ b ys, H b = some (.tup ys) -> H' b = some (.tup ys)) : KT H' kvs xs :=
 Paired.mapP r fun _ _ z => ⟨z.1, ht _ _ z.2.1, z.2.2⟩
section
variable {P : Program} {w : World} {H : Hp} {h : Heap} {a : Addr}
theorem Zkh {u : HO} (ok : HOk P w H h) (e : Rd H a u) : ObjOk P w H h a u := e.ok ok
theorem Zcx {kvs : List (Key × V)} (ok : HOk P w H h) (e : Rd H a (.dK kvs)) : kvs.length <= sizeLine /\ (a == sysModules) = false /\ ∃ vs, KV kvs vs /\ h.DictOf (Z0x P w) a vs :=
 show ObjOk P w H h a (.dK kvs) from Zkh ok e
theorem Zki {kvs : List (Key × V)} (ok : HOk P w H h) (e : H a = some (.dK kvs)) : kvs.length <= sizeLine /\ (a == sysModules) = false /\ ∃ vs, KV kvs vs /\ h.DictOf (Z0x P w) a vs := Zcx ok (.inl e)
theorem Zaj {ks : List Key} (ok : HOk P w H h) (e : H a = some (.tup (ks.map kV))) : (tupleKind (Z0x P w)).is h ks a := by
 obtain ⟨_, its, r, o, h1, h2, n, h3⟩ := (show ObjOk P w H h a (.tup (ks.map kV)) from ok a _ e)
 exact ⟨o, its.toArray, n, h1, h2, h3, by simpa using Z8f r⟩
theorem Zcy {kvs : List (List Key × V)} (ok : HOk P w H h) (e : Rd H a (.dT kvs)) : kvs.length <= sizeLine /\ (a == sysModules) = false ∧
  ∃ xs, KT H kvs xs /\ h.DictOfH (tupleKind (Z0x P w)) a xs := by
 obtain ⟨z, y, xs, r, o, es, ep, h1, h2, h3, h4, h5⟩ := (show ObjOk P w H h a (.dT kvs) from Zkh ok e)
 refine ⟨z, y, xs, r, o, es, ep, h1, h2, h3, h4, fun x hx => ?_, h5⟩
 have all : ∀ {l : List (List Key × V)} {m : List (List Key × Addr × Value)}, KT H l m -> ∀ x ∈ m, (tupleKind (Z0x P w)).is h x.1 x.2.1 := by
  intro l m q
  induction q with
  | nil => intro x hx; exact nomatch hx
  | @cons p q ps qs hq t ih =>
   intro x hx
   rcases List.mem_cons.mp hx with e | hx
   ·subst e
    exact Zaj ok (by rw [<- hq.1]; exact hq.2.1)
   ·exact ih x hx
 exact all r x hx
theorem Zmm {kvs : List (List Key × V)} (ok : HOk P w H h) (e : H a = some (.dT kvs)) : kvs.length <= sizeLine /\ (a == sysModules) = false ∧
  ∃ xs, KT H kvs xs /\ h.DictOfH (tupleKind (Z0x P w)) a xs := Zcy ok (.inl e)
end
def DGet (H : Hp) (a : Addr) (y : V) (r : Option V) : Prop :=
 (∃ kvs k, Rd H a (.dK kvs) /\ y = kV k /\ r = Z2h kvs k) ∨ ∃ kvs k b, Rd H a (.dT kvs) /\ y = .ref b /\ H b = some (.tup (k.map kV)) /\ r = Z2h kvs k
def DPut (H : Hp) (a : Addr) (y v : V) (H' : Hp) : Prop :=
 (∃ kvs k, H a = some (.dK kvs) /\ y = kV k /\ kvs.length < sizeLine /\ H' = upd H a (.dK (Z5b kvs k v))) ∨
 ∃ kvs k b, H a = some (.dT kvs) /\ y = .ref b /\ H b = some (.tup (k.map kV)) /\ kvs.length < sizeLine /\ H' = upd H a (.dT (Z5b kvs k v))
theorem DGet.k {H : Hp} {a : Addr} {kvs : List (Key × V)} {k : Key} (e : H a = some (.dK kvs)) : DGet H a (kV k) (Z2h kvs k) := .inl ⟨kvs, k, .inl e, rfl, rfl⟩
theorem DPut.k {H : Hp} {a : Addr} {kvs : List (Key × V)} {k : Key} {v : V} (e : H a = some (.dK kvs)) (hl : kvs.length < sizeLine) : DPut H a (kV k) v (upd H a (.dK (Z5b kvs k v))) := .inl ⟨kvs, k, e, rfl, hl, rfl⟩
section
variable {X : Cx} {pins : List (Addr × Obj)} {σ : St} {H : Hp} {s : Shared} {a : Addr} {y v : V} {u r : Value} {o : Option V} {A : Around} {E : Value -> Shared -> Prop}
theorem Inv.big (I : Inv X pins σ H s) : sysModules < s.heap.objs.size := by
 have h : mainGlobals < s.heap.objs.size := (I.mod.glob.keeps I.bk).lt
 exact Nat.lt_trans (by decide) h
theorem Z8g {Q : Value -> Shared -> Prop} (hu : A.units + 1 < cLine) (I : Inv X pins σ H s) (g : DGet H a y (some v)) (ry : RelV y u) (h : ∀ w' s', Inv X pins σ H s' -> RelV v w' -> Q w' s') :
  wpAny (model X.prog X.w) A (getItem (.ref a) u) Q E s := by
 rcases g with ⟨kvs, k, e, ey, l⟩ | ⟨kvs, k, b, e, ey, eb, l⟩
 ·subst ey
  obtain ⟨z, hd, vs, rel, dd⟩ := Zcx I.hok e
  obtain ⟨w', hw, rw'⟩ := RelO.some_of (v := v) (o := valueAt vs k) (by rw [l]; exact rel.val k)
  exact wpAny_getItem_of (Zbt ry) dd.mapOf hw (h w' _ (I.tok _) rw')
 ·subst ey
  cases (show u = Value.ref b from ry)
  obtain ⟨z, hd, xs, rel, dd⟩ := Zcy I.hok e
  obtain ⟨w', hw, rw'⟩ := RelO.some_of (v := v) (o := (atKey xs k).map (·.2)) (by rw [l]; exact rel.val k)
  obtain ⟨p, hp, hp2⟩ := Option.map_eq_some_iff.mp hw
  refine wpAny_getItem_heap (tupleKind_room_in1 hu) (Zaj I.hok eb) dd hp ?_
  rw [hp2]
  exact h w' _ (I.tok _) rw'
theorem Z9h {h' : Heap} {t' : Nat} {ob : HO} (I : Inv X pins σ H s) (mu : Mut (H a)) (hs : Heap.SameBut a s.heap h') (he : ∃ q, h'.get? a = some q) (new : ObjOk X.prog X.w (upd H a ob) h' a ob) :
  Inv X pins σ (upd H a ob) { s with heap := h', toks := t' } :=
 I.write (x := a) (e := a) mu (.inl rfl) (fun b q hb z => (hs.2 b hb).trans z) he new
theorem Zh6 {P : Program} {w : World} {H' : Hp} {h' : Heap} {kvs : List (Key × V)} {vs : List (Key × Value)} (z : kvs.length <= sizeLine) (hd : (a == sysModules) = false) (rel : KV kvs vs) (dd : h'.DictOf (Z0x P w) a vs) :
  ObjOk P w H' h' a (.dK kvs) := ⟨z, hd, vs, rel, dd⟩
theorem Z8h {H' : Hp} {Q : Unit -> Shared -> Prop} (hu : A.units + 1 < cLine) (I : Inv X pins σ H s) (g : DPut H a y v H') (ry : RelV y u) (rv : RelV v r) (h : ∀ s', Inv X pins σ H' s' -> Q () s') :
  wpAny (model X.prog X.w) A (setItem (.ref a) u r) Q E s := by
 rcases g with ⟨kvs, k, e, ey, l, eH⟩ | ⟨kvs, k, b, e, ey, eb, l, eH⟩
 ·subst ey eH
  obtain ⟨z, hd, vs, rel, dd⟩ := Zki I.hok e
  have hz : vs.length <= sizeLine := by rw [<- rel.length]; exact z
  have hl : (Z5b kvs k v).length <= sizeLine := by have := Z2f kvs k v; omega
  refine wpAny_setItem_pairs (hsz := hz) (Zbt ry) dd fun h' dd' hs => h _ ?_
  have he : ∃ q, h'.get? a = some q := let ⟨q, _, _, hq, _⟩ := dd'; ⟨q, hq⟩
  exact Z9h I (by rw [e]; exact True.intro) hs he (Zh6 hl hd (rel.put k rv) dd')
 ·subst ey eH
  cases (show u = Value.ref b from ry)
  obtain ⟨z, hd, xs, rel, dd⟩ := Zmm I.hok e
  have hz : xs.length <= sizeLine := by rw [<- Paired.length rel]; exact z
  have hl : (Z5b kvs k v).length <= sizeLine := by have := Z2f kvs k v; omega
  refine wpAny_setItem_heap (hsz := hz) (tupleKind_room_in1 hu) (Zaj I.hok eb) dd fun h' dd' hs => h _ ?_
  obtain ⟨q, es, ep, hq, h2, h3, h4, _, h5⟩ := dd'
  refine Z9h I (by rw [e]; exact True.intro) hs ⟨q, hq⟩ ⟨hl, hd, _, (rel.put k eb rv).keeps fun c ys ec => ?_, q, es, ep, hq, h2, h3, h4, h5⟩
  rw [Z0a (Z4r ec e (fun z => nomatch z))]
  exact ec
end
section
variable {X : Cx} {pins : List (Addr × Obj)} {σ : St} {H : Hp} {s : Shared} {a : Addr} {kvs : List (Key × V)} {k : Key} {u : Value} {A : Around} {E : Value -> Shared -> Prop}
end
def Zns (i : Expr) : Prop := ∀ ov iv, subscripted i false ov iv = operate [ov, iv] (getItem ov iv)
theorem Zic {prog : Program} {w : World} {A : Around} {E : Value -> Shared -> Prop} {s : Shared} {env : Env} {value slice : Expr} {pos : Pos} {T id : String} {Q : Value -> Shared -> Prop}
  (hl : typeLookup (.type T) "__getitem__" = pure (some (.builtin id))) (hs : Zns slice)
  (h : wpAny (model prog w) A (eval value env) (fun o s₁ => wpAny (model prog w) A (eval slice env) (fun i s₂ => s₂.TypeIs o T /\ wpAny (model prog w) A (getItem o i) Q E s₂) E s₁) E s) :
  wpAny (model prog w) A (eval (.Subscript value slice pos) env) Q E s := by
 refine Subscript_ (wpAny_mono h (fun o s₁ h₁ => wpAny_mono h₁ (fun i s₂ h₂ => ?_) fun _ _ x => x) fun _ _ x => x)
 obtain ⟨hT, h₂⟩ := h₂
 unfold subscriptTail
 refine wpAny_bind ?_
 rw [getitemInPython_of_ne hT.not_modules]
 refine wpAny_bind (wpAny_specialOf hT hl ?_)
 have fin : wpAny (model prog w) A (subscripted slice false o i) (fun r s₃ => wpAny (model prog w) A (letTemporaryGo value o r >>= fun _ => pure r) Q E s₃) E s₂ := by
  rw [hs o i]
  exact wpAny_operating (wpAny_mono h₂ (fun r s₃ h₃ => wpAny_bind (wpAny_letTemporaryGo (wpAny_pure h₃))) fun _ _ x => x)
 first
  | exact wpAny_pure (wpAny_bind fin)
  | exact wpAny_bind (wpAny_pure (wpAny_bind fin))
  | exact wpAny_bind fin
theorem Z9i {X : Cx} {pins : List (Addr × Obj)} {σ : St} {H : Hp} {s : Shared} {a : Addr} {y : V} {o : Option V} (I : Inv X pins σ H s) (g : DGet H a y o) : s.TypeIs (.ref a) "dict" := by
 rcases g with ⟨kvs, k, e, _, _⟩ | ⟨kvs, k, b, e, _, _, _⟩
 ·obtain ⟨_, _, vs, _, dd⟩ := Zcx I.hok e
  exact dd.typeIs
 ·obtain ⟨_, _, xs, _, dd⟩ := Zcy I.hok e
  exact dd.typeIs
def Zmn (td ty : TE) : TE := fun σ H Q => td σ H fun x H1 => ty σ H1 fun y H2 => ∃ a v, x = .ref a /\ DGet H2 a y (some v) /\ Q v H2
def Zmo (td ty tv : TE) : TS := fun D σ H => tv σ H fun v H1 => td σ H1 fun x H2 => ty σ H2 fun y H3 => ∃ a H4, x = .ref a /\ DPut H3 a y v H4 /\ D.nx σ H4
def Zmp (td ty tv : TE) (rd : V -> V -> Hp -> VK -> Prop) : TS := fun D σ H => td σ H fun x H1 => ty σ H1 fun y H2 => ∃ a v, x = .ref a /\ DGet H2 a y (some v) ∧
 tv σ H2 fun y2 H3 => rd v y2 H3 fun z H4 => ∃ H5, DPut H4 a y z H5 /\ D.nx σ H5
section
variable {X : Cx} {o i e value : Expr} {pos pos' tpos : Pos} {td ty tv : TE}
theorem Z17 (hu : X.A.units + 1 < cLine) (ho : PE X o td) (hi : PE X i ty) (hs : Zns i) : PE X (.Subscript o i pos) (Zmn td ty) := by
 intro pins s σ H Q I h
 refine Zic PySem.F.slot_dict_getitem.lookup hs (thn (ho pins s σ H _ I h) fun u s1 ⟨x, H1, I1, rx, q1⟩ => thn (hi pins s1 σ H1 _ I1 q1) fun iv s2 ⟨y, H2, I2, ry, a, v, ex, g, q2⟩ => ?_)
 subst ex
 obtain rfl : u = Value.ref a := rx
 exact ⟨Z9i I2 g, Z8g hu I2 g ry fun w' s3 I3 rw' => ⟨v, H2, I3, rw', q2⟩⟩
theorem Z4v (hu : X.A.units + 1 < cLine) (ho : PE X o td) (hi : PE X i ty) (hv : PE X value tv) (hs : swapsWith value (some (.Subscript o i pos')) pos.line X.env = pure false) :
  PS X (.Assign [.Subscript o i pos'] value pos) (Zmo td ty tv) := by
 intro pins s σ H D I h
 refine wpAny_Assign_Subscript (thn (hv pins s σ H _ I h) fun r s1 ⟨v, H1, I1, rv, q1⟩ => thn (ho pins s1 σ H1 _ I1 q1) fun u s2 ⟨x, H2, I2, rx, q2⟩ => thn (hi pins s2 σ H2 _ I2 q2) fun iv s3 ⟨y, H3, I3, ry, a, H4, ex, g, q3⟩ => ?_) hs
 subst ex
 obtain rfl : u = Value.ref a := rx
 exact Z8h hu I3 g ry rv fun s4 I4 => ⟨σ, H4, I4, q3⟩
theorem Zid {op : Operator} {rd : V -> V -> Hp -> VK -> Prop} (hu : X.A.units + 1 < cLine) (ho : PE X o td) (hi : PE X i ty) (hv : PE X value tv) (hop : Znp X op rd)
  (ha : ∀ ov iv new, augStore i ov iv new = (do holding [new, ov, iv] (setItem ov iv new); release [new, ov, iv] []; pure .next)) : PS X (.AugAssign (.Subscript o i tpos) op value pos) (Zmp td ty tv rd) := by
 intro pins s σ H D I h
 refine wpAny_AugAssign_SubscriptAny (thn (ho pins s σ H _ I h) fun u s1 ⟨x, H1, I1, rx, q1⟩ => thn (hi pins s1 σ H1 _ I1 q1) fun iv s2 ⟨y, H2, I2, ry, a, v, ex, g, q2⟩ => ?_) ha
 subst ex
 obtain rfl : u = Value.ref a := rx
 refine Z8g hu I2 g ry fun w' s3 I3 rw' => thn (hv pins s3 σ H2 _ I3 q2) fun w2 s4 ⟨y2, H3, I4, ry2, q3⟩ => thn (hop pins s4 σ H3 v y2 w' w2 _ I4 rw' ry2 q3) fun w3 s5 ⟨z, H4, I5, rz, H5, g5, q4⟩ => ?_
 exact Z8h hu I5 g5 ry rz fun s6 I6 => ⟨σ, H5, I6, q4⟩
end
theorem Zak {P : Program} {w : World} {H : Hp} (h : Heap) (hb : sysModules < h.objs.size) : ObjOk P w H (h.push { cls := .type "dict", data := .dict #[] }) h.objs.size (.dK []) :=
 ⟨Nat.zero_le _, beq_eq_false_iff_ne.mpr (Ne.symm (Nat.ne_of_lt hb)), [], .nil, Heap.DictOf.new h⟩
def tDNewK : TE := fun _ H Q => ∀ p, H p = none -> Q (.ref p) (upd H p (.dK []))
section
variable {X : Cx} {pos : Pos}
theorem Zf7 : PE X (.Dict [] [] pos) tDNewK := fun pins s σ H Q I h =>
 wpAny_Dict_empty ⟨.ref s.heap.objs.size, _, I.laid (a := s.heap.objs.size) (o := .dK []) (t' := s.toks) (fun _ _ q => Heap.get?_push_of_some _ q) (Nat.le_refl _) (Zak s.heap I.big), rfl, h _ (I.hok.fresh (Nat.le_refl _))⟩
end
def Z8i : List (TE × TE) -> St -> Hp -> (List (V × V) -> Hp -> Prop) -> Prop
 | [], _, H, Q => Q [] H
 | (tk, tv) :: r, σ, H, Q => tk σ H fun x H1 => tv σ H1 fun y H2 => Z8i r σ H2 fun ps H3 => Q ((x, y) :: ps) H3
abbrev VV : List (V × V) -> List (Value × Value) -> Prop := Paired fun p q => RelV p.1 q.1 /\ RelV p.2 q.2
def PPs (X : Cx) (pos : Pos) (keys : List (Option Expr)) (values : List Expr) (trs : List (TE × TE)) : Prop :=
 ∀ (pins : List (Addr × Obj)) (s : Shared) (σ : St) (H : Hp) (Q : List (V × V) -> Hp -> Prop), Inv X pins σ H s -> Z8i trs σ H Q →
  wpAny (model X.prog X.w) X.A (evalPairs (pairTrees keys values X.env pos)) (fun vs s' => ∃ ps H', Inv X pins σ H' s' /\ VV ps vs /\ Q ps H') X.xe s
theorem Z7k {X : Cx} {pos : Pos} : PPs X pos [] [] [] := fun pins s σ H Q I h => pairTrees_nil_walk ⟨[], H, I, .nil, h⟩
theorem Z25 {X : Cx} {pos : Pos} {k v : Expr} {ks : List (Option Expr)} {vs : List Expr} {tk tv : TE} {trs : List (TE × TE)} (hk : PE X k tk) (hv : PE X v tv) (hr : PPs X pos ks vs trs) :
  PPs X pos (some k :: ks) (v :: vs) ((tk, tv) :: trs) := fun pins s σ H Q I h =>
 pairTrees_cons_walk (thn (hk pins s σ H _ I h) fun u s1 ⟨x, H1, I1, rx, q1⟩ => thn (hv pins s1 σ H1 _ I1 q1) fun w2 s2 ⟨y, H2, I2, ry, q2⟩ =>
  thn (hr pins s2 σ H2 _ I2 q2) fun ws s3 ⟨ps, H3, I3, rel, q3⟩ => ⟨(x, y) :: ps, H3, I3, .cons ⟨rx, ry⟩ rel, q3⟩)
def Z2k (kvs more : List (Key × V)) : List (Key × V) := more.foldl (fun acc kv => Z5b acc kv.1 kv.2) kvs
theorem KV.merge : ∀ {more : List (Key × V)} {rs : List (Key × Value)} {kvs : List (Key × V)} {vs : List (Key × Value)}, KV more rs -> KV kvs vs -> KV (Z2k kvs more) (merged vs rs) := by
 intro more rs kvs vs r
 unfold KV at r
 induction r generalizing kvs vs with
 | nil => intro q; exact q
 | @cons p q ps qs h t ih =>
  intro r0
  have e : KV (Z5b kvs p.1 p.2) (stored vs q.1 q.2) := by
   have := r0.put p.1 h.2
   rw [<- h.1]; exact this
  exact ih e
theorem Z48 : ∀ (more kvs : List (Key × V)), (Z2k kvs more).length <= kvs.length + more.length
 | [], kvs => by show kvs.length <= kvs.length + 0; omega
 | p :: r, kvs => by
  have h1 := Z48 r (Z5b kvs p.1 p.2)
  have h2 := Z2f kvs p.1 p.2
  show (Z2k (Z5b kvs p.1 p.2) r).length <= _
  rw [List.length_cons]; omega
theorem Z6s {P : Program} {w : World} : ∀ {kvs : List (Key × V)} {ws : List (Value × Value)}, VV (kvs.map fun kv => (kV kv.1, kv.2)) ws -> ∃ rs, Carries (Z0x P w) ws rs /\ KV kvs rs
 | [], _, r => by rw [List.map_nil] at r; cases r; exact ⟨[], True.intro, .nil⟩
 | p :: kvs, _, r => by
  rw [List.map_cons] at r
  cases r with
  | @cons a b as bs h t =>
   obtain ⟨rs, c, q⟩ := Z6s (P := P) (w := w) t
   obtain ⟨b1, b2⟩ := b
   exact ⟨(p.1, b2) :: rs, ⟨Zbt h.1, rfl, c⟩, .cons ⟨rfl, h.2⟩ q⟩
def Zmq (trs : List (TE × TE)) : TE := fun σ H Q => ∀ p, H p = none -> Z8i trs σ (upd H p (.dK [])) fun ps H2 => H2 p = some (.dK []) /\ ∃ kvs : List (Key × V), ps = kvs.map (fun kv => (kV kv.1, kv.2)) /\ kvs.length <= 15 /\ Q (.ref p) (upd H2 p (.dK (Z2k [] kvs)))
theorem Z7l {X : Cx} {pos : Pos} {keys : List (Option Expr)} {values : List Expr} {trs : List (TE × TE)} (h : PPs X pos keys values trs) (hall : keys.all (·.isSome) = true) (hl : keys.length = values.length) (h0 : keys ≠ [])
  (h15 : keys.length <= 15) : PE X (.Dict keys values pos) (Zmq trs) := by
 intro pins s σ H Q I q
 have hn := I.hok.fresh (Nat.le_refl s.heap.objs.size)
 have I1 := I.laid (a := s.heap.objs.size) (o := .dK []) (h' := s.heap.push { cls := .type "dict", data := .dict #[] }) (t' := s.toks) (fun _ _ q => Heap.get?_push_of_some _ q) (Nat.le_refl _) (Zak s.heap I.big)
 refine wpAny_Dict_walk (knd := Z0x X.prog X.w) hall hl h0 h15 (thn (h pins _ σ _ _ I1 (q _ hn)) fun ws s2 ⟨ps, H2, I2, rel, e, kvs, ep, lk, q2⟩ => ?_)
 subst ep
 obtain ⟨rs, c, rk⟩ := Z6s (P := X.prog) (w := X.w) rel
 obtain ⟨z, hd, vs0, r0, dd⟩ := Zki I2.hok e
 cases r0
 refine ⟨rs, c, dd, fun h' dd' hs => ⟨.ref s.heap.objs.size, _, ?_, rfl, q2⟩⟩
 have hz : (Z2k [] kvs).length <= sizeLine := by
  have h1 := Z48 kvs []
  rw [List.length_nil] at h1
  rw [sizeLine_eq]; omega
 have he : ∃ q, h'.get? s.heap.objs.size = some q := let ⟨q, _, _, hq, _⟩ := dd'; ⟨q, hq⟩
 exact Z9h I2 (by rw [e]; exact True.intro) hs he (Zh6 hz hd (rk.merge .nil) dd')
structure M1 (X : Cx) (o : Expr) (m : Str) (apos : Pos) (e : Expr) (cpos : Pos) : Prop where
 base : attributeBase o m X.env (eval o X.env) = eval o X.env
 few : ((backTo cpos (starEach [e] X.env)).all (fun x => !x.1) && (backToKw cpos (keywordEach [] X.env)).all (fun x => x.1.isSome)
  && decide (([e] : List Expr).length + ([] : List Keyword).length + (if ([] : List Keyword).isEmpty then 0 else 1) < 30)) = true
 line : (apos.endLine == cpos.line) = true
 trees : backTo cpos (starEach [e] X.env) = [(false, eval e X.env)]
structure M2 (X : Cx) (o : Expr) (m : Str) (apos : Pos) (e f : Expr) (cpos : Pos) : Prop where
 base : attributeBase o m X.env (eval o X.env) = eval o X.env
 few : ((backTo cpos (starEach [e, f] X.env)).all (fun x => !x.1) && (backToKw cpos (keywordEach [] X.env)).all (fun x => x.1.isSome)
  && decide (([e, f] : List Expr).length + ([] : List Keyword).length + (if ([] : List Keyword).isEmpty then 0 else 1) < 30)) = true
 line : (apos.endLine == cpos.line) = true
 trees : backTo cpos (starEach [e, f] X.env) = [(false, eval e X.env), (false, eval f X.env)]
def IsD (H : Hp) (a : Addr) : Prop := (∃ kvs, Rd H a (.dK kvs)) ∨ ∃ kvs, Rd H a (.dT kvs)
theorem Zkj {X : Cx} {pins : List (Addr × Obj)} {σ : St} {H : Hp} {s : Shared} {a : Addr} (I : Inv X pins σ H s) (d : IsD H a) :
  s.TypeIs (.ref a) "dict" /\ (∀ b, Value.ref a = .ref b -> ∃ ob, s.heap.get? b = some ob /\ ob.dict = none) /\ (a == sysModules) = false := by
 rcases d with ⟨kvs, e⟩ | ⟨kvs, e⟩
 ·obtain ⟨_, hd, vs, _, dd⟩ := Zcx I.hok e
  refine ⟨dd.typeIs, fun b q => ?_, hd⟩
  cases q
  obtain ⟨ob, _, _, h1, h2, _⟩ := dd
  exact ⟨ob, h1, h2.2.1⟩
 ·obtain ⟨_, hd, xs, _, dd⟩ := Zcy I.hok e
  refine ⟨dd.typeIs, fun b q => ?_, hd⟩
  cases q
  obtain ⟨ob, _, _, h1, h2, _⟩ := dd
  exact ⟨ob, h1, h2.2.1⟩
section
variable {X : Cx} {pins : List (Addr × Obj)} {σ : St} {H : Hp} {s : Shared} {a : Addr} {y d : V} {u r : Value} {o : Option V} {A : Around} {E : Value -> Shared -> Prop}
theorem Zkk {Q : Value -> Shared -> Prop} (hu : A.units + 1 < cLine) (I : Inv X pins σ H s) (g : DGet H a y o) (ry : RelV y u) (rd : RelV d r) (h : ∀ w' s', Inv X pins σ H s' -> RelV (o.getD d) w' -> Q w' s') :
  wpAny (model X.prog X.w) A (call (.builtin "dict.get") [.ref a, u, r]) Q E s := by
 rcases g with ⟨kvs, k, e, ey, l⟩ | ⟨kvs, k, b, e, ey, eb, l⟩
 ·subst ey
  obtain ⟨z, hd, vs, rel, dd⟩ := Zcx I.hok e
  refine call_meetsIn PySem.F.slot_dict_get dd.typeIs PySem.F.entry_dict_get (PySem.F.args_dict_get_3 _ _ _) (meets_dict_get_default (Z0x X.prog X.w) a (Zbt ry) hd r) ⟨_, dd.mapOf, h _ _ (I.tok _) ?_⟩
  rw [l]
  exact (rel.val k).getD rd
 ·subst ey
  cases (show u = Value.ref b from ry)
  obtain ⟨z, hd, xs, rel, dd⟩ := Zcy I.hok e
  refine call_meetsIn PySem.F.slot_dict_get dd.typeIs PySem.F.entry_dict_get (PySem.F.args_dict_get_3 _ _ _) (meetsH_dict_get_default (tupleKind (Z0x X.prog X.w)) a b hd r) ⟨tupleKind_room_in1 hu, k, xs, Zaj I.hok eb, dd, h _ _ (I.tok _) ?_⟩
  rw [l]
  exact (rel.val k).getD rd
end
def Zkl (td ty tx : TE) : TE := fun σ H Q => td σ H fun x H1 => ∃ a, x = .ref a /\ IsD H1 a /\ ty σ H1 fun y H2 => tx σ H2 fun z H3 => ∃ o, DGet H3 a y o /\ Q (o.getD z) H3
section
variable {X : Cx} {o e f : Expr} {apos cpos : Pos} {td ty tx : TE}
theorem Z5k (hu : X.A.units + 1 < cLine) (ho : PE X o td) (he : PE X e ty) (hf : PE X f tx) (m : M2 X o "get" apos e f cpos) : PE X (.Call (.Attribute o "get" apos) [e, f] [] cpos) (Zkl td ty tx) := by
 intro pins s σ H Q I h
 refine wpAny_Call_method m.base m.few m.line PySem.F.plainAttrs_dict PySem.F.slot_dict_get PySem.F.type_dict_get (thn (ho pins s σ H _ I h) fun u s1 ⟨x, H1, I1, rx, a, ex, d, q1⟩ => ?_)
 subst ex
 obtain rfl : u = Value.ref a := rx
 obtain ⟨t1, t2, _⟩ := Zkj I1 d
 refine ⟨t1, t2, ?_⟩
 rw [m.trees]
 refine Calls.callWith_builtin rfl (Calls.evalArgs_plain (Calls.spliced_cons (thn (he pins s1 σ H1 _ I1 q1) fun iv s2 ⟨y, H2, I2, ry, q2⟩ =>
  Calls.spliced_cons (thn (hf pins s2 σ H2 _ I2 q2) fun fv s3 ⟨z, H3, I3, rz, ov, g, q3⟩ => Calls.spliced_nil ?_))))
 exact Zkk hu I3 g ry rz fun w' s4 I4 rw' => ⟨_, H3, I4, rw', q3⟩
end
section
variable {X : Cx} {pins : List (Addr × Obj)} {σ : St} {H : Hp} {s : Shared} {a : Addr} {kvs : List (Key × V)} {A : Around} {E : Value -> Shared -> Prop}
end
section
variable {X : Cx} {pins : List (Addr × Obj)} {σ : St} {H : Hp} {s : Shared} {a : Addr} {y : V} {u : Value} {A : Around} {E : Value -> Shared -> Prop}
end
end L2
namespace Att
open PySem PySem.W PySem.Calls PyProof.Rows
theorem Z5s {P : Params} {h : Heap} : ∀ (ns : List Int) (vs : List Value), WellAll P h vs (ns.map WData.int) -> IntsAre vs ns := by
 intro ns
 induction ns with
 | nil =>
  intro vs w
  rw [List.map_nil] at w
  cases w
  exact .nil
 | cons n ns ih =>
  intro vs w
  rw [List.map_cons] at w
  cases w with
  | cons a b =>
   cases a
   exact .cons _ _ (ih _ b)
theorem Zcz {l : OpenLaw} {n : Nat} (hn : l.most = some n) {P : Params} {h : Heap} {args : List WData} {vals : List Value}
  (hpre : l.row.toRowW.claim.pre args = true) (hwl : WellAll P h vals args) :
  ∃ a vs ns, vals = [Value.ref a] /\ args = [WData.list (ns.map WData.int)] /\ h.get? a = some { cls := .type "list", data := .seq vs.toArray } /\ IntsAre vs ns /\ ns.length <= n := by
 have hsh : WShape.hasAll [] args [.list .int] = true := (pre_splitW hpre).1
 have hc : l.pre.holds [] { args := args } = true := (pre_splitW hpre).2
 obtain ⟨d, r, rfl, h1, h2⟩ := hasAllW_cons hsh
 obtain rfl := hasAllW_nil h2
 obtain ⟨xs, rfl, h3⟩ := hasW_list h1
 obtain ⟨ns, rfl⟩ := items_int h3
 have hlen : ns.length <= n := by
  unfold OpenLaw.pre at hc
  have h4 : (WTm.not (.lt (.lit (.int (n : Int))) (.len (.arg 0)))).holds [] { args := [.list (ns.map .int)] } = true := by
   have h4 := (holds_andW hc).1
   rw [hn] at h4
   exact h4
  have h5 := condW_of h4 (w_not (w_lt w_lit (w_len_list (w_arg rfl))))
  rw [List.length_map] at h5
  refine Nat.le_of_not_lt fun q => ?_
  have q' : (n : Int) < ((ns.length : Nat) : Int) := by omega
  first
   | (rw [decide_eq_true q'] at h5; exact absurd h5 (by decide))
   | (simp at h5; omega)
 cases hwl with
 | cons w1 w2 =>
  cases w2
  cases w1 with
  | list ho hall => exact ⟨_, _, ns, rfl, rfl, ho, Z5s ns _ hall, hlen⟩
theorem Zd0 (l : OpenLaw) (args : List WData) : l.row.toRowW.claim.post args (.bool true) args = true :=
 postW_of (r := l.row.toRowW) (X := (true == true))
  (show WShape.has [] (.bool true) .bool = true by first | rfl | decide | simp [WShape.has, WShape.arms, WShape.armsAll])
  (show (WTm.eq .res (.lit (.bool true))).value [] { args := args, res := some (.bool true), after := args } = some (.bool (true == true)) from w_eq_bool (w_res rfl) w_lit) rfl
theorem attach_call {l : OpenLaw} {n : Nat} {q : Program} {loose : List Str} {XP : (Str -> Option Value) -> Heap -> Prop} {YP : World -> Heap -> Prop} {d : DefRec}
  (hn : l.most = some n) (hdf : d.params.defaults = [])
  (call : ∀ (w : World) (s₀ s₁ : Shared) (mg mb : Str -> Option Value) (fa : Addr) (o : Obj) (pm cd doc : Value) (a : Addr) (vs : List Value) (ns : List Int),
   Ground q loose [] XP w s₀ mg mb s₁.heap -> YP w s₁.heap →
   s₁.heap.get? fa = some o -> o.data = .func (docDef d.name d.params d.body d.scope pm cd doc) -> s₁.heap.CodeRec cd d.name -> mg d.name = some (.ref fa) →
   s₁.heap.get? a = some { cls := .type "list", data := .seq vs.toArray } -> IntsAre vs ns -> ns.length <= n -> s₁.gens = #[] →
   codeAny (model l.prog w) callerA (.call (.ref fa) ⟨[.ref a], []⟩) (fun r s' => r = .ok (.ret (.bool true)) /\ OldK s₁.heap s'.heap /\ s'.os = s₁.os /\ AllBare s'.gens) s₁) :
  WalkO q loose XP YP l.row.toRowW d [] (fun f vs => PySem.call f vs) := by
 intro w s₀ s₁ mg mb G Y fa o pm cd doc dV kV ho hd hcd hD hmg hg args vals as hpre hlay hrd hwl hlo
 obtain rfl : dV = .none := Dflts.none hD hdf
 obtain rfl : kV = .none := Dflts.noKw hD
 obtain ⟨a, vs, ns, rfl, rfl, hobj, hints, hlen⟩ := Zcz hn hpre hwl
 refine enter_call (codeAny_mono (call w s₀ s₁ mg mb fa o pm cd doc a vs ns G Y ho (fd_plain hd) hcd hmg hobj hints hlen hg) fun r s' hq => ?_)
 obtain ⟨rfl, h2, h3, h4⟩ := hq
 exact ⟨.inl ⟨.bool true, .bool true, [], rfl, fun _ => rfl, .bool true, Zd0 l _, fun _ => ⟨List.Pairwise.nil, fun _ hm => (nomatch hm)⟩⟩, h2, h3, h4⟩
section
variable {prog : Program} {w : World} {A : Around} {E : Value -> Shared -> Prop} {s : Shared} {K : Frag}
end
end Att
namespace L2
open PySem PySem.Spec PyProof.Rows
theorem Z8j : ∀ {vs : List Value} {ns : List Int}, IntsAre vs ns -> Vals (ns.map V.int) vs
 | _, _, .nil => .nil
 | _, _, .cons n t h => .cons ⟨t, rfl⟩ (Z8j h)
def Zmr (H : Hp) : Prop := ∀ b, H b = none ∨ ∃ o xs, H b = some (.frz o (.lst xs))
theorem Zf8 {P : Program} {w : World} {K : PySem.W.Frag} {mg mb : Str -> Option Value} {CX : CXT} {k : Nat} {fa a : Addr} {fd : FuncData} {x : Str} {sp : Sp} {s₁ : Shared} {vs : List Value} {ns : List Int}
  (KX : K.In s₁.heap) (hns : s₁.heap.Ns mainGlobals mg) (hb : s₁.heap.Ns builtinsNs mb) (hbb : ∀ x : Str, x ≠ "__name__" -> mb x = bootBuiltins x) (hlim : s₁.heap.NoLimit) (hg : s₁.gens = #[])
  (ha : s₁.heap.get? a = some { cls := .type "list", data := .seq vs.toArray }) (hi : IntsAre vs ns) (hl : ns.length <= sizeLine) (hr : Room k callerA)
  (F : ∀ base : Heap, K.In base -> base.Ns mainGlobals mg -> FnOk P w K mg base CX k fa fd [x] sp) (hbind : ∀ (s : Shared) (u : Value), BindsTo s fd ⟨[u], []⟩ [(x, u)])
  (hsp : ∀ H : Hp, Zmr H -> SqL K H a (ns.map V.int) -> sp [.ref a] H (fun v _ => v = .bl true) fun _ _ _ => False)
  (hCX : ∀ H e s', CX [] H s₁ (fun _ _ _ => False) e s' -> False) :
  codeAny (model P w) callerA (.call (.ref fa) ⟨[.ref a], []⟩) (fun r s' => r = .ok (.ret (.bool true)) /\ OldK s₁.heap s'.heap /\ s'.os = s₁.os /\ AllBare s'.gens) s₁ := by
 have rv := Z8j hi
 have lenV := hi.length
 have core : ∀ H : Hp, Zmr H -> SqL K H a (ns.map V.int) -> HOk P w H s₁.heap -> (∀ b, H b ≠ none -> b = a) -> (H a ≠ none -> K.lookup a = none) →
   codeAny (model P w) callerA (.call (.ref fa) ⟨[.ref a], []⟩) (fun r s' => r = .ok (.ret (.bool true)) /\ OldK s₁.heap s'.heap /\ s'.os = s₁.os /\ AllBare s'.gens) s₁ := by
  intro H hO hS hok hA hK
  have base_of : ∀ {b : Addr} {o : Obj}, s₁.heap.get? b = some o -> H b = none -> (Zew s₁.heap H).get? b = some o := fun e n => Zex e n
  have noA : ∀ {b : Addr} {o : Obj} {es : Array DictEntry} {ep : Nat}, s₁.heap.get? b = some o -> o.data = .dict es ep -> H b = none := fun {b o es ep} e d => by
   cases q : H b with
   | none => rfl
   | some u =>
    have e' : b = a := hA b (by rw [q]; simp)
    subst e'
    rw [ha] at e; cases e
    have d' : Data.seq vs.toArray _ = Data.dict es ep := d
    cases d'
  have nsK : ∀ {b : Addr} {m : Str -> Option Value}, s₁.heap.Ns b m -> (Zew s₁.heap H).Ns b m := fun {b m} ⟨o, es, ep, e, d, r⟩ => ⟨o, es, ep, base_of e (noA e d), d, r⟩
  have hKb : K.In (Zew s₁.heap H) := fun b o e => base_of (KX b o e) (by
   cases q : H b with
   | none => rfl
   | some u =>
    have e' : b = a := hA b (by rw [q]; simp)
    subst e'
    rw [hK (by rw [q]; simp)] at e; cases e)
  have hM : Mod K mg (Zew s₁.heap H) := ⟨hKb, nsK hns, ⟨mb, nsK hb, hbb⟩, let ⟨mc, h1, h2⟩ := hlim; ⟨mc, nsK h1, h2⟩⟩
  have e0 : Env0 P w K mg (Zew s₁.heap H) callerA [] s₁ H := ⟨rfl, hM, fun b o e => Zi2 e, Nat.le_of_eq (Zcg _ _), trivial, fun b hb => absurd (show b ∈ ([] : List Addr) from hb) (by simp), hok, .of_eq hg⟩
  refine codeAny_mono ((F _ hKb (nsK hns)).run callerA [] s₁ H ⟨[.ref a], []⟩ [.ref a] [.ref a] _ _ hr e0 (hbind s₁ (.ref a)) (.cons rfl .nil) (hsp H hO hS)) fun r s' h => ?_
  cases r with
  | error e => exact (hCX H e s' h).elim
  | ok fl =>
   cases fl with
   | next => exact False.elim h
   | brk => exact False.elim h
   | cont => exact False.elim h
   | ret u =>
    obtain ⟨v, H', os, bare, un, hok', r', q⟩ := h
    have q' : v = .bl true := q
    subst q'
    obtain rfl : u = Value.bool true := r'
    refine ⟨rfl, OldK.of_keep fun b o e => ?_, os, bare⟩
    cases q : H b with
    | none => exact un.keep b o e q (by intro z; exact absurd (show b ∈ ([] : List Addr) from z) (by simp)) (by simp)
    | some u =>
     rcases hO b with z | ⟨ob, xs, z⟩
     ·rw [q] at z; cases z
     ·have z2 := un.frzs b ob _ z
      obtain ⟨e1, _⟩ := hok b _ z
      obtain ⟨e2, _⟩ := hok' b _ z2
      rw [e] at e1; cases e1
      exact e2
 cases hk : K.lookup a with
 | some o =>
  have e := KX a o hk
  rw [ha] at e
  cases e
  refine core (fun _ => none) (fun _ => .inl rfl) (.inr ⟨_, vs.toArray, _, hk, rfl, rfl, rfl, by rw [List.size_toArray, lenV]; exact hl, by simpa using rv⟩) (fun b u z => by have z' : (none : Option HO) = some u := z; cases z') (fun b z => absurd rfl z) fun z => absurd rfl z
 | none =>
  refine core (fun b => if b = a then some (.frz { cls := .type "list", data := .seq vs.toArray } (.lst (ns.map V.int))) else none) (fun b => ?_) (.inl (.inr ⟨{ cls := .type "list", data := .seq vs.toArray }, if_pos rfl⟩)) (fun b u z => ?_) (fun b z => ?_) fun _ => hk
  ·by_cases hb : b = a
   ·exact .inr ⟨_, _, if_pos hb⟩
   ·exact .inl (if_neg hb)
  ·by_cases hb : b = a
   ·have z' := (if_pos hb).symm.trans z
    cases z'
    subst hb
    exact ⟨ha, by rw [List.length_map]; exact hl, vs, _, rv, ha⟩
   ·have z' := (if_neg hb).symm.trans z
    cases z'
  ·by_cases hb : b = a
   ·exact hb
   ·exact absurd (if_neg hb) z
theorem walk_of {l : PySem.W.OpenLaw} {n k : Nat} {q : Program} {loose : List Str} {XP : (Str -> Option Value) -> Heap -> Prop} {YP : World -> Heap -> Prop} {d : DefRec} {K : Params -> PySem.W.Frag} {CX : World -> CXT} {sp : World -> Sp} {x : Str}
  (hn : l.most = some n) (hn2 : n <= sizeLine) (hdf : d.params.defaults = []) (hr : Room k callerA)
  (hY : ∀ (w : World) (h : Heap), YP w h -> (K w.params).In h)
  (F : ∀ (w : World) (mg : Str -> Option Value) (fa : Addr) (h : Heap), (K w.params).In h -> h.Ns mainGlobals mg -> mg d.name = some (.ref fa) →
   ∃ fd : FuncData, (∀ (s : Shared) (u : Value), BindsTo s fd ⟨[u], []⟩ [(x, u)]) ∧
    ∀ base : Heap, (K w.params).In base -> base.Ns mainGlobals mg -> FnOk l.prog w (K w.params) mg base (CX w) k fa fd [x] (sp w))
  (hsp : ∀ (w : World) (H : Hp) (a : Addr) (ns : List Int), ns.length <= n -> Zmr H -> SqL (K w.params) H a (ns.map V.int) -> sp w [.ref a] H (fun v _ => v = .bl true) fun _ _ _ => False)
  (hCX : ∀ (w : World) (H : Hp) (s : Shared) (e : Value) (s' : Shared), CX w [] H s (fun _ _ _ => False) e s' -> False) :
  PySem.W.WalkO q loose XP YP l.row.toRowW d [] (fun f vs => PySem.call f vs) := by
 refine Att.attach_call hn hdf fun w s₀ s₁ mg mb fa o pm cd doc a vs ns G Y ho hd hcd hmg hobj hints hlen hg => ?_
 have KX := hY w _ Y
 obtain ⟨fd, hb, hF⟩ := F w mg fa _ KX G.T.g hmg
 exact Zf8 KX G.T.g G.T.b G.T.builtins G.T.nolimit hg hobj hints (Nat.le_trans hlen hn2) hr hF hb (fun H hO hS => hsp w H a ns hlen hO hS) fun H e s' => hCX w H s₁ e s'
abbrev CX0 : CXT := fun _ _ _ _ _ _ => False
abbrev E0 : XK := fun _ _ _ => False
theorem Z0f {X : Cx} : Z86 CX0 X E0 := fun _ _ _ _ _ _ _ h => h.elim
structure Fun (K : PySem.W.Frag) (x qual : Str) (st : Stmt) (f : Addr) (fd : FuncData) : Prop where
 ex : ∃ (oc : Value) (od : Option Addr) (kV doc pm : Value) (an : Option Addr) (cdv ct : Value) (osl : Array (Option Value)),
  fd = PySem.W.fnOf x qual (Z0q st) (Z0n st) (Z03 st) .none kV doc pm an cdv ct /\ K.lookup f = some ⟨oc, od, .func fd, osl⟩ /\ PySem.W.codeIn K cdv qual = true
 kp : PySem.W.keepIn K (.ref f) = true
section
variable {P : Program} {w : World} {K : PySem.W.Frag} {mg : Str -> Option Value} {base : Heap}
theorem Fun.ok {x qual : Str} {st : Stmt} {f : Addr} {fd : FuncData} {N ps : List Str} {k : Nat} {sp : Sp} (F : Fun K x qual st f fd) (S : FnScope N ps (Z03 st)) (len : ∀ vs H Q E, sp vs H Q E -> vs.length = ps.length)
  (hbody : ∀ (cdv : Value) (A : Around) (outer : List Env) (s : Shared) (H : Hp) (vs : List V) (Q : VK) (E : XK), Room k (A.deeper (envOfC qual (Z03 st) s.heap.objs.size f cdv)) -> sp vs H Q E →
   ∃ t, PSs (Z9e CX0 P w K mg base N qual (Z03 st) f cdv A outer s H E).nox (Z0n st) t /\ t { nx := fun _ H' => Q .non H', rt := Q } (Z8b N vs) H) : FnOk P w K mg base CX0 (k + 1) f fd ps sp := by
 obtain ⟨oc, od, kV, doc, pm, an, cdv, ct, osl, rfl, lk, hcd⟩ := F.ex
 refine Zmj lk hcd S len fun A outer s H vs Q E hr hsp => ?_
 obtain ⟨t, h, q⟩ := hbody cdv A outer s H vs Q E hr hsp
 exact ⟨t, h.nox, q⟩
theorem Fun.binds {x qual : Str} {st : Stmt} {f : Addr} {fd : FuncData} {ps : List Str} (F : Fun K x qual st f fd)
  (h : ∀ (kV doc pm : Value) (an : Option Addr) (cdv ct : Value) (us : List Value), us.length = ps.length -> bindArgs (PySem.W.fnOf x qual (Z0q st) (Z0n st) (Z03 st) .none kV doc pm an cdv ct) ⟨us, []⟩ = pure (ps.zip us)) : Binds K fd ps [] := by
 obtain ⟨oc, od, kV, doc, pm, an, cdv, ct, osl, rfl, lk, hcd⟩ := F.ex
 exact .all (h kV doc pm an cdv ct)
theorem Z0u {x qual : Str} {st : Stmt} {f : Addr} {oc : Value} {od an : Option Addr} {osl : Array (Option Value)} {kV doc pm cdv ct : Value} (l : K.lookup f = some ⟨oc, od, .func (PySem.W.fnOf x qual (Z0q st) (Z0n st) (Z03 st) .none kV doc pm an cdv ct), osl⟩)
  (c : PySem.W.codeIn K cdv qual = true) (k : PySem.W.keepIn K (.ref f) = true) : Fun K x qual st f (PySem.W.fnOf x qual (Z0q st) (Z0n st) (Z03 st) .none kV doc pm an cdv ct) := ⟨⟨oc, od, kV, doc, pm, an, cdv, ct, osl, rfl, l, c⟩, k⟩
end
theorem Z9j {A : Around} {k : Nat} (hr : Room k A) : A.units + 1 < cLine := Nat.lt_of_le_of_lt (Nat.add_le_add_left (by decide : 1 <= 64) _) hr.units
section
variable {X : Cx}
theorem pv (i : Nat) {x : Str} {pos : Pos} (hN : X.N[i]? = some x := by rfl) (hv : Vis X.env.scope x := by first | exact Or.inl rfl | exact Or.inr (Or.inl rfl) | exact Or.inr (Or.inr rfl)) (hd : (x == ("__debug__" : Str)) = false := by decide)
  (hcd : (x == ("__classdict__" : Str)) = false := by decide) : PE X (.Name x pos) (Zk6 i) := Z81 hN hv hd hcd
end
theorem Z4w {A B : Prop} (h : B) : if false = true then A else B := by
 rw [if_neg Bool.false_ne_true]
 exact h
theorem Z34 {A B : Prop} (h : A) : if true = true then A else B := by
 rw [if_pos rfl]
 exact h
theorem Z14 {c A B : Prop} [Decidable c] (h1 : c -> A) (h2 : ¬ c -> B) : if c then A else B := by
 by_cases h : c
 ·rw [if_pos h]
  exact h1 h
 ·rw [if_neg h]
  exact h2 h
def Same (H H' : Hp) : Prop := ∀ b o, H b = some o -> H' b = some o
theorem Same.refl (H : Hp) : Same H H := fun _ _ h => h
theorem Same.trans {H H1 H2 : Hp} (a : Same H H1) (b : Same H1 H2) : Same H H2 := fun c o h => b c o (a c o h)
theorem Same.seq {K : PySem.W.Frag} {H H' : Hp} {a : Addr} {xs : List V} (e : Same H H') (h : SqL K H a xs) : SqL K H' a xs := by
 rcases h with (h | ⟨o, h⟩) | h
 ·exact .inl (.inl (e _ _ h))
 ·exact .inl (.inr ⟨o, e _ _ h⟩)
 ·exact .inr h
section
variable {X : Cx}
end
section
variable {κ : Type} [DecidableEq κ]
end
section
variable {prog : Program} {w : World} {A : Around} {E : Value -> Shared -> Prop} {R : Result -> Shared -> Prop} {s : Shared}
theorem Z8k {elt target iter : Expr} {ifs : List Expr} {scope : Scope} {pos : Pos} {it acc : Value} {env : Env} (I : Nat -> Shared -> Prop)
  (turn : ∀ n s, I n s -> wpAny (model prog w) A (pyNext it) (fun r s1 => match r with
   | none => R (.ok .next) s1
   | some v => wpAny (model prog w) A (letOwnedTupleGo target it v) (fun _ s1' => wpAny (model prog w) A (assign target env v) (fun _ s2 =>
     wpAny (model prog w) A (forIn ifs true fun c r => if r = true then do let ok ← isTrue c env (eval c env); pure (ForInStep.yield ok) else pure (ForInStep.yield r)) (fun ok s3 =>
      if ok = true then wpAny (model prog w) A (eval elt env) (fun x s4 =>
       wpAny (model prog w) A (call (.builtin "list.append") [acc, x]) (fun _ s5 => ∃ m, m < n /\ I m s5) (fun _ _ => False) s4) (fun _ _ => False) s3
      else ∃ m, m < n /\ I m s3) (fun _ _ => False) s2) (fun _ _ => False) s1') (fun _ _ => False) s1) (fun _ _ => False) s)
  (n : Nat) (h : I n s) :
  codeAny (model prog w) A (.compLoop (.ListComp elt [⟨target, iter, ifs, 0⟩] scope pos) 0 it acc env) R s := by
 refine codeAny_loop rfl I (fun n s hI => ?_) n h
 show wpAny _ A ((compTurn (.ListComp elt [⟨target, iter, ifs, 0⟩] scope pos) 0 it acc env).onRaise (fun x => do noteFrame x env; theTreesLotGoes x)) _ _ s
 refine wpAny_noted ?_
 rw [compTurn_list]
 refine wpAny_bind (wpAny_standAt (wpAny_bind (wpAny_mono (turn n s hI) (fun r s₁ h₁ => ?_) fun _ _ h' => h'.elim)))
 cases r with
 | none => exact wpAny_pure h₁
 | some v =>
  refine wpAny_bind (wpAny_mono h₁ (fun _ s1' h1' => ?_) fun _ _ h' => h'.elim)
  refine wpAny_bind (wpAny_mono h1' (fun _ s₂ h₂ => wpAny_bind (wpAny_mono h₂ (fun ok s₃ h₃ => ?_) fun _ _ h' => h'.elim)) fun _ _ h' => h'.elim)
  cases ok with
  | false => exact wpAny_pure ⟨rfl, h₃⟩
  | true =>
   exact wpAny_bind (wpAny_bind (wpAny_mono h₃ (fun x s₄ h₄ => wpAny_bind (wpAny_mono h₄ (fun _ s₅ h₅ => wpAny_pure (wpAny_pure ⟨rfl, h₅⟩)) fun _ _ h' => h'.elim)) fun _ _ h' => h'.elim))
end
theorem Z4x {env : Env} : ∀ (names : List (Str × NameKind)) (cs : List (Str × Addr)), (∀ n, (n, NameKind.free) ∈ names -> ∃ c, env.cells.lookup n = some c) →
  ∃ cl, (forIn names cs fun (x : Str × NameKind) (r : List (Str × Addr)) => match x with
   | (name, kind) => if (kind == NameKind.free) = true then do let c ← cellOf env name; pure (ForInStep.yield ((name, c) :: r)) else pure (ForInStep.yield r) : Sem (List (Str × Addr))) = pure cl ∧
   (∀ p ∈ cl, p ∈ cs ∨ env.cells.lookup p.1 = some p.2) /\ (∀ p ∈ cs, p ∈ cl) /\ (∀ n, (n, NameKind.free) ∈ names -> ∃ c, (n, c) ∈ cl)
 | [], cs, _ => ⟨cs, by simp, fun p hp => .inl hp, fun p hp => hp, fun n hn => by cases hn⟩
 | (n, k) :: r, cs, h => by
  by_cases hk : (k == NameKind.free) = true
  ·have hk' : k = NameKind.free := eq_of_beq hk
   subst hk'
   obtain ⟨c, hc⟩ := h n (List.mem_cons_self)
   obtain ⟨cl, e, h1, h2, h3⟩ := Z4x r ((n, c) :: cs) fun m hm => h m (List.mem_cons_of_mem _ hm)
   refine ⟨cl, ?_, fun p hp => ?_, fun p hp => h2 p (List.mem_cons_of_mem _ hp), fun m hm => ?_⟩
   ·rw [List.forIn_cons]
    simp only [hk, if_true]
    unfold cellOf
    rw [hc]
    exact e
   ·rcases h1 p hp with q | q
    ·rcases List.mem_cons.mp q with q | q
     ·subst q; exact .inr hc
     ·exact .inl q
    ·exact .inr q
   ·rcases List.mem_cons.mp hm with q | q
    ·cases q; exact ⟨c, h2 _ List.mem_cons_self⟩
    ·exact h3 m q
  ·obtain ⟨cl, e, h1, h2, h3⟩ := Z4x r cs fun m hm => h m (List.mem_cons_of_mem _ hm)
   refine ⟨cl, ?_, h1, h2, fun m hm => ?_⟩
   ·rw [List.forIn_cons]
    simp only [hk]
    exact e
   ·rcases List.mem_cons.mp hm with q | q
    ·cases q; exact absurd rfl hk
    ·exact h3 m q
theorem Z6t {κ : Type} [BEq κ] [LawfulBEq κ] {β : Type} : ∀ {l : List (κ × β)} {x : κ} {c : β}, l.lookup x = some c -> (x, c) ∈ l
 | [], _, _, h => by simp at h
 | (n, k) :: r, x, c, h => by
  cases hx : x == n with
  | true =>
   simp only [List.lookup_cons, hx] at h
   cases h
   have e := eq_of_beq hx
   subst e
   exact List.mem_cons_self
  | false =>
   simp only [List.lookup_cons, hx] at h
   exact List.mem_cons_of_mem _ (Z6t h)
theorem Z6u {κ : Type} [BEq κ] [LawfulBEq κ] {β : Type} : ∀ {l : List (κ × β)} {x : κ} {c : β}, (x, c) ∈ l -> ∃ c', l.lookup x = some c'
 | (n, k) :: r, x, c, h => by
  cases hx : x == n with
  | true => exact ⟨k, by simp only [List.lookup_cons, hx]⟩
  | false =>
   rcases List.mem_cons.mp h with q | q
   ·cases q; simp at hx
   ·obtain ⟨c', e⟩ := Z6u q
    exact ⟨c', by simp only [List.lookup_cons, hx]; exact e⟩
theorem Z6v {scope : Scope} {env : Env} (h : ∀ n, (n, NameKind.free) ∈ scope.names -> ∃ c, env.cells.lookup n = some c) :
  ∃ cl, closureFor scope env = pure cl /\ (∀ x c, cl.lookup x = some c -> env.cells.lookup x = some c) /\ ∀ n, (n, NameKind.free) ∈ scope.names -> ∃ c, cl.lookup n = some c := by
 obtain ⟨cl, e, h1, _, h3⟩ := Z4x scope.names [] h
 refine ⟨cl, ?_, fun x c hx => ?_, fun n hn => ?_⟩
 ·have e2 : closureFor scope env = ((forIn scope.names ([] : List (Str × Addr)) fun (x : Str × NameKind) (r : List (Str × Addr)) => match x with
     | (name, kind) => if (kind == NameKind.free) = true then do let c ← cellOf env name; pure (ForInStep.yield ((name, c) :: r)) else pure (ForInStep.yield r) : Sem (List (Str × Addr))) >>= fun r => pure r) := rfl
  rw [e2, e]
  rfl
 ·rcases h1 _ (Z6t hx) with q | q
  ·cases q
  ·exact q
 ·obtain ⟨c, hc⟩ := h3 n hn
  exact Z6u hc
def Z2a (X : Cx) (N' : List Str) (scope : Scope) (cl : List (Str × Addr)) (C : Addr) (ex : List Addr) (s0 : Shared) (H0 : Hp) : Cx :=
 { X with N := N', s₀ := s0, H₀ := H0, env := compEnvC scope cl C X.env, outer := X.stack, stack := X.stack, ex := ex, fn := fun _ => false, pn := [], xe := fun _ _ => False }
section
variable {X : Cx} {pins : List (Addr × Obj)} {σ : St} {H : Hp} {s : Shared}
theorem Inv.track {a : Addr} {o : HO} (I : Inv X pins σ H s) (f : Z6f X pins H a) (new : ObjOk X.prog X.w (upd H a o) s.heap a o) : Inv X pins σ (upd H a o) s := by
 obtain ⟨f0, f1, f2, f3, f4, f5⟩ := f
 have ne : ∀ b u, H b = some u -> b ≠ a := fun b u e => Z0h e f0
 refine ⟨I.ok, I.os, I.bare, ⟨I.base.keep, I.base.slot, fun b ob e n hx => ?_, I.base.there, fun b xs e => ?_, fun b ob u e => ?_, fun b ps e => ?_⟩, I.loc, I.cell, ?_, fun x c e => ?_, fun p hp => ?_, fun b u e => ?_, I.len⟩
 ·have hb : b ≠ a := by
   rintro rfl
   rcases f3 with z | z
   ·exact hx z
   ·exact absurd (Nat.lt_of_lt_of_le (Heap.lt_size e) z) (Nat.lt_irrefl _)
  rw [Z0a hb]
  exact I.base.free b ob e n hx
 ·have q := I.base.tups b xs e
  rw [Z0a (ne _ _ q)]; exact q
 ·have q := I.base.frzs b ob u e
  rw [Z0a (ne _ _ q)]; exact q
 ·obtain ⟨more, q⟩ := I.base.tbls b ps e
  exact ⟨more, by rw [Z0a (ne _ _ q)]; exact q⟩
 ·rw [Z0a (Ne.symm f1)]; exact I.free
 ·rw [Z0a (f4 x c e)]; exact I.freeC x c e
 ·obtain ⟨e, n, ne', nf, d⟩ := I.pin p hp
  exact ⟨e, by rw [Z0a (f5 p hp)]; exact n, ne', nf, d⟩
 ·by_cases hb : b = a
  ·subst hb
   rw [Z00] at e; cases e
   exact new
  ·rw [Z0a hb] at e
   exact (I.hok b u e).stay (fun c v _ q => q) (fun c q => by rw [Z0a (ne _ _ q)]; exact q) fun c xs q => by rw [Z0a (ne _ _ q)]; exact q
end
def PTs (X : Cx) (ifs : List Expr) (t : TT) : Prop :=
 ∀ (pins : List (Addr × Obj)) (s : Shared) (σ : St) (H : Hp) (Q : Bool -> Hp -> Prop), Inv X pins σ H s -> t σ H Q →
  wpAny (model X.prog X.w) X.A (forIn ifs true fun c r => if r = true then do let ok ← isTrue c X.env (eval c X.env); pure (ForInStep.yield ok) else pure (ForInStep.yield r)) (TP X pins σ Q) X.xe s
def tNoTest : TT := fun _ H Q => Q true H
theorem Z2o {X : Cx} : PTs X [] tNoTest := fun _ _ _ H _ I h => wpAny_tests_nil ⟨H, I, h⟩
theorem Z4y {X : Cx} {c : Expr} {t : TT} (h : PT X c t) : PTs X [c] t := fun pins s σ H Q I q => wpAny_tests_one (h pins s σ H Q I q)
def Zd1 (src : List (Option Nat)) (σ : St) : St := src.map fun o => match o with | some j => (σ[j]?).getD none | none => none
def Zie (src : List (Option Nat)) (wi : TI) (g : TG) (tt : TT) (te : TE) : TE := fun σ H Q => wi σ H fun J H1 => ∃ W : Nat -> Nat -> List V -> St -> Hp -> Prop, (∃ m, W 0 m [] (Zd1 src σ) H1) /\ ∀ i m ys σc H, W i m ys σc H →
 (J.stop i H /\ ∀ l, H l = none -> Q (.ref l) (upd H l (.lst ys))) ∨
 (J.go i H /\ ys.length < sizeLine /\ ∀ x H', J.yld i H x H' -> g x σc H' fun σ2 H2 => tt σ2 H2 fun b H3 =>
  if b = true then te σ2 H3 fun v H4 => ∃ m', m' < m /\ W (i + 1) m' (ys ++ [v]) σ2 H4 else ∃ m', m' < m /\ W (i + 1) m' ys σ2 H3)
section
variable {X : Cx} {elt tg iter : Expr} {ifs : List Expr} {scope : Scope} {pos : Pos} {N' : List Str} {src : List (Option Nat)} {wi : TI} {g : TG} {tt : TT} {te : TE}
theorem Z3d {env : Env} : ∀ {names : List (Str × NameKind)} {x : Str} {k : NameKind}, (names.map fun (n, k) => if (k == NameKind.free && env.scope.kind == .function && env.kindOf n == some .cell) then (n, NameKind.cell) else (n, k)).lookup x = some k →
  (k = .cell ∨ k = .free) -> (∀ y ∈ names, y.2 ≠ .cell) -> (x, NameKind.free) ∈ names
 | [], _, _, h, _, _ => by simp at h
 | (n, k') :: r, x, k, h, hk, hc => by
  have ih := @Z3d env r x k
  have h' : List.lookup x ((if (k' == NameKind.free && env.scope.kind == .function && env.kindOf n == some .cell) = true then (n, NameKind.cell) else (n, k')) :: (r.map fun (n, k) => if (k == NameKind.free && env.scope.kind == .function && env.kindOf n == some .cell) then (n, NameKind.cell) else (n, k))) = some k := h
  by_cases hx : x = n
  ·subst hx
   by_cases hf : k' = .free
   ·subst hf; exact List.mem_cons_self
   ·have e : (k' == NameKind.free) = false := by simpa using hf
    rw [e] at h'
    simp only [Bool.false_and, Bool.false_eq_true, if_false, List.lookup_cons, beq_self_eq_true] at h'
    have e' : k' = k := Option.some.inj h'
    rcases hk with q | q
    ·exact absurd (e'.trans q) (hc (x, k') List.mem_cons_self)
    ·exact absurd (e'.trans q) hf
  ·have e : (x == n) = false := by simpa using hx
   have h2 : (r.map fun (n, k) => if (k == NameKind.free && env.scope.kind == .function && env.kindOf n == some .cell) then (n, NameKind.cell) else (n, k)).lookup x = some k := by
    by_cases hc2 : (k' == NameKind.free && env.scope.kind == .function && env.kindOf n == some .cell) = true
    ·rw [if_pos hc2] at h'; simp only [List.lookup_cons, e] at h'; exact h'
    ·rw [if_neg hc2] at h'; simp only [List.lookup_cons, e] at h'; exact h'
   exact List.mem_cons_of_mem _ (ih h2 hk fun y hy => hc y (List.mem_cons_of_mem _ hy))
structure CompScope (X : Cx) (scope : Scope) (N' : List Str) (src : List (Option Nat)) : Prop where
 kind : scope.kind = .function
 cell : ∀ y ∈ scope.names, y.2 ≠ .cell
 names : ∀ x ∈ scope.names, x.2 = .local -> scope.names.lookup x.1 = some .local
 fr : ∀ n, (n, NameKind.free) ∈ scope.names -> X.env.kindOf n = some .cell ∨ X.env.kindOf n = some .free
 excl : ∀ n, (n, NameKind.free) ∈ scope.names -> ¬ scope.names.lookup n = some .local
 len : N'.length = src.length
 src : ∀ (i j : Nat), src[i]? = some (some j) -> ∃ x : Str, N'[i]? = some x /\ X.N[j]? = some x /\ (x, NameKind.free) ∈ scope.names
theorem Z6w {cl : List (Str × Addr)} {C D : Addr} {fp : List Addr} {pins : List (Addr × Obj)} {σ : St} {H : Hp} {s3 : Shared} {h1 : Heap} {tk : Nat} (S : CompScope X scope N' src) (I3 : Inv X pins σ H s3)
  (hcl1 : ∀ x c, cl.lookup x = some c -> X.env.cells.lookup x = some c) (hcl2 : ∀ n, (n, NameKind.free) ∈ scope.names -> ∃ c, cl.lookup n = some c) (hC : C = s3.heap.objs.size)
  (hf : ∀ b ∈ D :: fp, Z6f X pins H b) (hlt : ∀ b ∈ D :: fp, b < s3.heap.objs.size) (hns : h1.Ns C (fun _ => none)) (hk : ∀ b o, s3.heap.get? b = some o -> h1.get? b = some o) :
  Inv (Z2a X N' scope cl C (D :: fp) s3 H) [] (Zd1 src σ) H { s3 with heap := h1, toks := tk } := by
 have neC : ∀ b o, s3.heap.get? b = some o -> b ≠ C := fun b o e => by rw [hC]; exact Nat.ne_of_lt (Heap.lt_size e)
 have HC : H C = none := I3.hok.fresh (Nat.le_of_eq hC.symm)
 have ok : (Z2a X N' scope cl C (D :: fp) s3 H).Ok := by
  refine ⟨I3.ok.mod, S.kind, I3.ok.glob, I3.ok.blt, Nat.le_of_eq hC.symm, fun x y c e1 e2 => I3.ok.inj x y c (hcl1 x c e1) (hcl1 y c e2), fun x hx => ?_, fun x c z => absurd z Bool.false_ne_true, I3.ok.hd, I3.ok.frames, .inl rfl, fun b hb => ⟨?_, fun x c e => ?_⟩, I3.bs, Nat.le_trans I3.ok.bsz I3.sz, fun b o e hb => ?_, fun b hb => ?_, I3.stack, I3.stkFree⟩
  ·refine hcl2 x ?_
   rcases hx with z | z
   ·exact Z3d (env := X.env) (show ((scope.names.map _).lookup x) = some .cell from z) (.inl rfl) S.cell
   ·exact Z3d (env := X.env) (show ((scope.names.map _).lookup x) = some .free from z) (.inr rfl) S.cell
  ·show b ≠ C
   rw [hC]; exact Nat.ne_of_lt (hlt b hb)
  ·exact (hf b hb).2.2.2.2.1 x c (hcl1 x c e)
  ·rcases (hf b hb).2.2.2.1 with z | z
   ·exact I3.ok.noex b o e z
   ·exact absurd (Nat.lt_of_lt_of_le (Nat.lt_of_lt_of_le (Heap.lt_size e) I3.ok.bsz) z) (Nat.lt_irrefl _)
  ·intro z
   have z' : b ∈ frs X.stack := z
   rcases List.mem_cons.mp (I3.stkSub b z') with q | q
   ·exact (hf b hb).2.1 q
   ·exact (hf b hb).2.2.1 q
 refine ⟨ok, rfl, I3.bare, Un.kept hk, ⟨_, hns, fun i x v e1 e2 e3 => ?_⟩, fun x c e => ?_, HC, fun x c e => I3.freeC x c (hcl1 x c e), fun p hp => absurd (show p ∈ ([] : List (Addr × Obj)) from hp) (by simp), I3.hok.kept hk, ?_⟩
 ·have e2' : (src.map fun o => match o with | some j => (σ[j]?).getD none | none => none)[i]? = some (some v) := e2
  rw [List.getElem?_map] at e2'
  cases q : src[i]? with
  | none => rw [q] at e2'; cases e2'
  | some o =>
   rw [q] at e2'
   cases o with
   | none => cases e2'
   | some j =>
    obtain ⟨x', hx1, hx2, hx3⟩ := S.src i j q
    have ex : x' = x := Option.some.inj (hx1.symm.trans e1)
    subst ex
    have ev : σ[j]? = some (some v) := by
     cases q2 : σ[j]? with
     | none => simp [q2] at e2'
     | some o => simp [q2] at e2'; rw [e2']
    obtain ⟨m, hn, hl⟩ := I3.loc
    have hkind := S.fr x' hx3
    obtain ⟨u, r, l⟩ := hl j x' v hx2 ev (by
     rcases hkind with z | z
     ·exact .inr (.inl z)
     ·exact .inr (.inr z))
    refine ⟨u, r, .inr ⟨?_, ?_⟩⟩
    ·rcases e3 with z | z | z
     ·exfalso
      have z' : (scope.names.map fun (n, k) => if (k == NameKind.free && X.env.scope.kind == .function && X.env.kindOf n == some .cell) then (n, NameKind.cell) else (n, k)).lookup x' = some .local := z
      rcases l with ⟨k, _⟩ | ⟨_, c, hc, hcell⟩
      ·rcases hkind with y | y <;> (rw [y] at k; cases k)
      ·exact (show False by
        have := S.names
        have hm := hx3
        clear e2 e2'
        have key : ∀ (names : List (Str × NameKind)), (names.map fun (n, k) => if (k == NameKind.free && X.env.scope.kind == .function && X.env.kindOf n == some .cell) then (n, NameKind.cell) else (n, k)).lookup x' = some .local →
          names.lookup x' = some .local := by
         intro names
         induction names with
         | nil => intro h; simp at h
         | cons y r ih =>
          obtain ⟨n, k⟩ := y
          intro h
          have h' : List.lookup x' ((if (k == NameKind.free && X.env.scope.kind == .function && X.env.kindOf n == some .cell) = true then (n, NameKind.cell) else (n, k)) :: (r.map fun (n, k) => if (k == NameKind.free && X.env.scope.kind == .function && X.env.kindOf n == some .cell) then (n, NameKind.cell) else (n, k))) = some .local := h
          by_cases hx : (x' == n) = true
          ·by_cases hc2 : (k == NameKind.free && X.env.scope.kind == .function && X.env.kindOf n == some .cell) = true
           ·rw [if_pos hc2] at h'; simp only [List.lookup_cons, hx] at h'; cases h'
           ·rw [if_neg hc2] at h'; simp only [List.lookup_cons, hx] at h' ⊢; exact h'
          ·have hx' : (x' == n) = false := by simpa using hx
           by_cases hc2 : (k == NameKind.free && X.env.scope.kind == .function && X.env.kindOf n == some .cell) = true
           ·rw [if_pos hc2] at h'; simp only [List.lookup_cons, hx'] at h' ⊢; exact ih h'
           ·rw [if_neg hc2] at h'; simp only [List.lookup_cons, hx'] at h' ⊢; exact ih h'
        have z2 := key _ z'
        obtain ⟨c2, hc2⟩ := hcl2 x' hx3
        exact S.excl x' hx3 z2)
     ·exact .inl z
     ·exact .inr z
    ·rcases l with ⟨k, _⟩ | ⟨_, c, hc, hcell⟩
     ·rcases hkind with y | y <;> (rw [y] at k; cases k)
     ·obtain ⟨c2, hc2⟩ := hcl2 x' hx3
      have e := hcl1 x' c2 hc2
      rw [hc] at e; cases e
      obtain ⟨oc, ho, hd⟩ := hcell
      exact ⟨c, hc2, oc, hk c oc ho, hd⟩
 ·obtain ⟨v, oc, ho, hd⟩ := I3.cell x c (hcl1 x c e)
  exact ⟨v, oc, hk c oc ho, hd⟩
 ·show (src.map _).length = N'.length
  rw [List.length_map, S.len]
theorem Z6x {cl : List (Str × Addr)} {C D : Addr} {fp : List Addr} {pins pinsY : List (Addr × Obj)} {σ σc : St} {H H' : Hp} {s3 s4 : Shared} {h' : Heap} {ys : List V} {us : List Value} (I3 : Inv X pins σ H s3) (hC : C = s3.heap.objs.size)
  (hf : ∀ b ∈ D :: fp, Z6f X pins H b) (hlt : ∀ b ∈ D :: fp, b < s3.heap.objs.size) (IY : Inv (Z2a X N' scope cl C (D :: fp) s3 H) pinsY σc H' s4) (hD : H' D = none) (pl : s4.heap.PlainList D us.toArray) (rv : Vals ys us) (hz : ys.length <= sizeLine)
  (hs : Heap.SameBut C s4.heap h') : Inv X pins σ (upd H' D (.lst ys)) { s4 with heap := h' } := by
 have J : Inv X pins σ H' s4 := I3.call' IY.os IY.base IY.hok IY.bare (ch := D :: fp) fun b hb => ⟨(hf b hb).2.2.2.1, (hf b hb).2.1, (hf b hb).2.2.2.2.1, (hf b hb).2.2.2.2.2⟩
 have fC : Z6f X pins H' C := I3.fpOk (Nat.le_of_eq hC.symm) IY.free
 have J2 : Inv X pins σ H' { s4 with heap := h' } := J.turned (t' := s4.toks) (fun b o hb e => (hs.2 b hb).trans e) fC.1 fC.2.1 fC.2.2.2.1 fC.2.2.2.2.1 fC.2.2.2.2.2
 have hDC : D ≠ C := by rw [hC]; exact Nat.ne_of_lt (hlt D List.mem_cons_self)
 obtain ⟨n, e⟩ := pl
 have fD := hf D List.mem_cons_self
 exact J2.track ⟨hD, fD.2⟩ ⟨hz, us, n, rv, (hs.2 D hDC).trans e⟩
theorem Zal {cl : List (Str × Addr)} {C D it : Addr} {fp : List Addr} {tn : Nat -> Heap -> Prop} {J : It} {pins : List (Addr × Obj)} {σ σ0 : St} {H : Hp} {s3 s4 : Shared} {R : Result -> Shared -> Prop} {W : Nat -> Nat -> List V -> St -> Hp -> Prop} {m0 : Nat} {Q : List V -> Hp -> Prop}
  (hc : X.calm = true) (T : Turn X.prog X.w X.K tg J fp it tn) (I3 : Inv X pins σ H s3) (hC : C = s3.heap.objs.size)
  (hf : ∀ b ∈ D :: fp, Z6f X pins H b) (hlt : ∀ b ∈ D :: fp, b < s3.heap.objs.size) (hDf : D ∉ fp) (IY : Inv (Z2a X N' scope cl C (D :: fp) s3 H) [] σ0 H s4) (st : tn 0 s4.heap) (pl : s4.heap.PlainList D #[])
  (hg : PG (Z2a X N' scope cl C (D :: fp) s3 H) tg g) (ht : PTs (Z2a X N' scope cl C (D :: fp) s3 H) ifs tt) (he : PE (Z2a X N' scope cl C (D :: fp) s3 H) elt te) (w0 : W 0 m0 [] σ0 H)
  (turn : ∀ i m ys σc H, W i m ys σc H -> (J.stop i H /\ Q ys H) ∨ (J.go i H /\ ys.length < sizeLine /\ ∀ x H', J.yld i H x H' -> g x σc H' fun σ2 H2 => tt σ2 H2 fun b H3 =>
   if b = true then te σ2 H3 fun v H4 => ∃ m', m' < m /\ W (i + 1) m' (ys ++ [v]) σ2 H4 else ∃ m', m' < m /\ W (i + 1) m' ys σ2 H3))
  (fin : ∀ s5 σc H' ys us pinsY, Inv (Z2a X N' scope cl C (D :: fp) s3 H) pinsY σc H' s5 -> H' D = none -> s5.heap.PlainList D us.toArray -> Vals ys us -> ys.length <= sizeLine -> Q ys H' -> R (.ok .next) s5) :
  codeAny (model X.prog X.w) X.A (.compLoop (.ListComp elt [⟨tg, iter, ifs, 0⟩] scope pos) 0 (.ref it) (.ref D) (compEnvC scope cl C X.env)) R s4 := by
 have eY : (Z2a X N' scope cl C (D :: fp) s3 H).env = compEnvC scope cl C X.env := rfl
 generalize hY : Z2a X N' scope cl C (D :: fp) s3 H = Y at *
 have e1 : Y.prog = X.prog := by rw [<- hY]; rfl
 have e2 : Y.w = X.w := by rw [<- hY]; rfl
 have e3 : Y.K = X.K := by rw [<- hY]; rfl
 have e4 : Y.A = X.A := by rw [<- hY]; rfl
 have e5 : Y.calm = true := by rw [<- hY]; exact hc
 have e6 : Y.xe = fun _ _ => False := by rw [<- hY]; rfl
 have e7 : Y.env.locals = C := by rw [eY]; rfl
 have e8 : Y.ex = D :: fp := by rw [<- hY]; rfl
 have e9 : Y.pn = [] := by rw [<- hY]; rfl
 have e10 : Y.fs = frs X.stack := by rw [<- hY]; rfl
 have e11 : ∀ x c, Y.env.cells.lookup x = some c -> ∀ b ∈ D :: fp, c ≠ b := fun x c e b hb => (IY.ok.exf b (by rw [e8]; exact hb)).2 x c e
 have nst : ∀ b ∈ D :: fp, b ∉ Y.fs := fun b hb => IY.ok.exfs b (by rw [e8]; exact hb)
 have fpY : ∀ (pinsY : List (Addr × Obj)) (H' : Hp), (∀ p ∈ pinsY, p.1 = D) -> ∀ b ∈ fp, H' b = none -> Z6f Y pinsY H' b := fun pinsY H' hp b hb hn =>
  ⟨hn, by rw [e7, hC]; exact Nat.ne_of_lt (hlt b (List.mem_cons_of_mem _ hb)), nst b (List.mem_cons_of_mem _ hb), .inl (by rw [e8]; exact List.mem_cons_of_mem _ hb), fun x c e => e11 x c e b (List.mem_cons_of_mem _ hb), fun p hp' z => by
   rw [e9, List.nil_append] at hp'
   have q := hp p hp'
   rw [z] at q
   rw [q] at hb
   exact hDf hb⟩
 have fpD : ∀ (pinsY : List (Addr × Obj)) (H' : Hp), (∀ p ∈ pinsY, p.1 ≠ D) -> H' D = none -> Z6f Y pinsY H' D := fun pinsY H' hp hn =>
  ⟨hn, by rw [e7, hC]; exact Nat.ne_of_lt (hlt D List.mem_cons_self), nst D List.mem_cons_self, .inl (by rw [e8]; exact List.mem_cons_self), fun x c e => e11 x c e D List.mem_cons_self, fun p hp' => by
   rw [e9, List.nil_append] at hp'
   exact hp p hp'⟩
 have T' : Turn Y.prog Y.w Y.K tg J fp it tn := by rw [e1, e2, e3]; exact T
 rw [<- eY, <- e1, <- e2, <- e4]
 refine Z8k (fun n s' => ∃ i ys us σc H', Inv Y [] σc H' s' /\ tn i s'.heap /\ (∀ b ∈ fp, H' b = none) /\ H' D = none /\ s'.heap.PlainList D (us : List Value).toArray /\ Vals ys us /\ ys.length <= sizeLine /\ W i n ys σc H') ?_ m0
  ⟨0, [], [], σ0, H, IY, st, fun b hb => (hf b (List.mem_cons_of_mem _ hb)).1, (hf D List.mem_cons_self).1, pl, .nil, Nat.zero_le _, w0⟩
 rintro n s5 ⟨i, ys, us, σc, H5, I5, st5, fr5, hD5, pl5, rv5, hz5, w5⟩
 obtain ⟨nn, hob⟩ := id pl5
 have I5' : Inv Y [(D, { cls := .type "list", data := .seq us.toArray nn })] σc H5 s5 := I5.pins_of fun p hp => by
  rw [List.mem_singleton] at hp
  subst hp
  exact ⟨hob, hD5, by rw [e7, hC]; exact Nat.ne_of_lt (hlt D List.mem_cons_self), nst D List.mem_cons_self, fun v z => by
   have z' : Data.seq us.toArray nn = Data.cell v := z
   cases z'⟩
 have f5 : ∀ b ∈ fp, Z6f Y [(D, { cls := .type "list", data := .seq us.toArray nn })] H5 b := fun b hb => fpY _ _ (fun p hp => by rw [List.mem_singleton] at hp; rw [hp]) b hb (fr5 b hb)
 rcases turn i n ys σc H5 w5 with ⟨stop, q⟩ | ⟨go, hz, step⟩
 ·refine thn (T'.done Y rfl rfl rfl e5 i _ s5 σc H5 (fun _ _ => False) I5' f5 st5 stop) fun r s6 ⟨hr, I6⟩ => ?_
  subst hr
  exact fin s6 σc H5 ys us _ I6 hD5 ⟨nn, (I6.pin (D, _) (List.mem_append_right _ List.mem_cons_self)).1⟩ rv5 hz5 q
 ·refine thn (T'.item Y rfl rfl rfl e5 i _ s5 σc H5 (fun _ _ => False) I5' f5 st5 go) fun r s6 ⟨u, hr, h6⟩ => ?_
  subst hr
  refine thn h6 fun _ s7 ⟨x, H7, I7, r7, y7, st7, fr7⟩ => ?_
  have f7 : ∀ b ∈ fp, Z6f Y [(D, { cls := .type "list", data := .seq us.toArray nn })] H7 b := fun b hb => fpY _ _ (fun p hp => by rw [List.mem_singleton] at hp; rw [hp]) b hb (fr7 b hb)
  have I7' := I7.pinned f7 (T.obj _ _ st7)
  have hx := hg _ s7 σc H7 x u _ I7' r7 (step x H7 y7)
  rw [e6] at hx
  refine thn hx fun _ s8 ⟨σ8, H8, I8, q8⟩ => ?_
  have hx2 := ht _ s8 σ8 H8 _ I8 q8
  rw [e6] at hx2
  have keepT : ∀ {σ9 : St} {H9 : Hp} {s9 : Shared}, Inv Y ([(D, { cls := .type "list", data := .seq us.toArray nn })] ++ Z85 fp s7.heap) σ9 H9 s9 -> tn (i + 1) s9.heap /\ (∀ b ∈ fp, H9 b = none) /\ H9 D = none /\ s9.heap.get? D = some { cls := .type "list", data := .seq us.toArray nn } := fun {σ9 H9 s9} I9 => by
   have pD := I9.pin (D, _) (List.mem_append_right _ (List.mem_append_left _ List.mem_cons_self))
   refine ⟨T.keep _ _ _ st7 fun b hb o e => (I9.pin (b, o) (List.mem_append_right _ (List.mem_append_right _ (Z3k hb e)))).1, fun b hb => ?_, pD.2.1, pD.1⟩
   obtain ⟨o, e, d⟩ := T.obj _ _ st7 b hb
   exact (I9.pin (b, o) (List.mem_append_right _ (List.mem_append_right _ (Z3k hb e)))).2.1
  refine thn hx2 fun ok s9 ⟨H9, I9, q9⟩ => ?_
  cases ok with
  | false =>
   rw [if_neg Bool.false_ne_true] at q9
   rw [if_neg Bool.false_ne_true]
   obtain ⟨m', hm, w9⟩ := q9
   obtain ⟨k1, k2, k3, k4⟩ := keepT I9
   exact ⟨m', hm, i + 1, ys, us, σ8, H9, I9.pins_of (fun p hp => nomatch hp), k1, k2, k3, ⟨nn, k4⟩, rv5, hz5, w9⟩
  | true =>
   rw [if_pos rfl] at q9
   rw [if_pos rfl]
   have hx3 := he _ s9 σ8 H9 _ I9 q9
   rw [e6] at hx3
   refine thn hx3 fun xv s10 ⟨v, H10, I10, r10, m', hm, w10⟩ => ?_
   obtain ⟨k1, k2, k3, k4⟩ := keepT I10
   have hl := rv5.length
   refine wpAny_list_append_plain ⟨nn, k4⟩ (fun h' pl' sb => ?_) (by rw [List.size_toArray]; omega)
   have fD := fpD [] H10 (fun p hp => nomatch hp) k3
   have I11 : Inv Y [] σ8 H10 { s10 with heap := h' } := (I10.pins_of (pins' := []) fun p hp => nomatch hp).turned (t' := s10.toks) (fun b o hb e => (sb.2 b hb).trans e) fD.1 fD.2.1 fD.2.2.2.1 fD.2.2.2.2.1 fD.2.2.2.2.2
   refine ⟨m', hm, i + 1, ys ++ [v], us ++ [xv], σ8, H10, I11, T.keep _ _ _ k1 (fun b hb o e => (sb.2 b ?_).trans e), k2, k3, ?_, rv5.append (.cons r10 .nil), ?_, w10⟩
   ·intro z; rw [z] at hb; exact hDf hb
   ·rw [show (us ++ [xv]).toArray = us.toArray.push xv by simp]; exact pl'
   ·rw [List.length_append, List.length_singleton]; exact hz
theorem Z21 (hc : X.calm = true) (S : CompScope X scope N' src) (hi : PI X tg iter wi)
  (hb : ∀ cl C ex s0 H0, PG (Z2a X N' scope cl C ex s0 H0) tg g /\ PTs (Z2a X N' scope cl C ex s0 H0) ifs tt /\ PE (Z2a X N' scope cl C ex s0 H0) elt te)
  (hs : ∀ x, foldedSetIterable iter X.env x = pure x := by intro _; rfl) : PE X (.ListComp elt [⟨tg, iter, ifs, 0⟩] scope pos) (Zie src wi g tt te) := by
 intro pins s σ H Q I h
 obtain ⟨cl, hclos, hcl1, hcl2⟩ := Z6v (scope := scope) (env := X.env) fun n hn => I.ok.has n (S.fr n hn)
 rw [eval_ListComp]
 refine wpAny_comprehension_free (use := none) rfl hs hclos S.kind S.names ?_
 refine thn (hi pins s σ H _ I h) fun v s1 h1 => thn h1 fun itv s2 h2 => ?_
 obtain ⟨it, fp, tn, J, H2, e, I2, T, st2, f2, W, ⟨m0, w0⟩, turn⟩ := h2
 subst e
 refine wpAny_newObj_type (wpAny_newFunctionEnv S.cell (by intro y hy; simp at hy) (fun h₁ hns₁ hsb₁ => ?_) S.kind)
 dsimp only at hns₁ hsb₁ ⊢
 generalize hH3 : s2.heap.push { cls := .type "list", dict := none, data := .seq ([] : List Value).toArray } = H3 at hns₁ hsb₁ ⊢
 have hsz : H3.objs.size = s2.heap.objs.size + 1 := by rw [<- hH3, Heap.size_push]
 have I3 : Inv X pins σ H2 { s2 with heap := H3 } := I2.kept (t' := s2.toks) fun b o e => by rw [<- hH3]; exact Heap.get?_push_of_some _ e
 have fD : Z6f X pins H2 s2.heap.objs.size := I2.fpOk (Nat.le_refl _) (I2.hok.fresh (Nat.le_refl _))
 have hDf : s2.heap.objs.size ∉ fp := fun hm => by
  obtain ⟨o, e, _⟩ := T.obj 0 _ st2 _ hm
  exact Nat.lt_irrefl _ (Heap.lt_size e)
 have hf : ∀ b ∈ s2.heap.objs.size :: fp, Z6f X pins H2 b := fun b hb => by
  rcases List.mem_cons.mp hb with z | z
  ·rw [z]; exact fD
  ·exact f2 b z
 have hlt : ∀ b ∈ s2.heap.objs.size :: fp, b < H3.objs.size := fun b hb => by
  rcases List.mem_cons.mp hb with z | z
  ·rw [z, hsz]; exact Nat.lt_succ_self _
  ·obtain ⟨o, e, _⟩ := T.obj 0 _ st2 b z
   rw [hsz]; exact Nat.lt_succ_of_lt (Heap.lt_size e)
 have kp : ∀ b o, H3.get? b = some o -> h₁.get? b = some o := fun b o e => hsb₁.extBut b o (Nat.ne_of_lt (Heap.lt_size e)) (Heap.get?_push_of_some _ e)
 have kp0 : ∀ b o, s2.heap.get? b = some o -> h₁.get? b = some o := fun b o e => kp b o (by rw [<- hH3]; exact Heap.get?_push_of_some _ e)
 have hacc : h₁.PlainList s2.heap.objs.size #[] := ⟨_, kp _ _ (by rw [<- hH3]; exact Heap.get?_push_size _ rfl)⟩
 have st1 : tn 0 h₁ := T.keep _ _ _ st2 fun b _ o e => kp0 b o e
 have IY := Z6w (N' := N') (src := src) (scope := scope) (cl := cl) (C := H3.objs.size) (D := s2.heap.objs.size) (fp := fp) (s3 := { s2 with heap := H3 }) (h1 := h₁) (tk := s2.toks) S I3 hcl1 hcl2 rfl hf hlt hns₁ kp
 obtain ⟨hg, ht, he⟩ := hb cl H3.objs.size (s2.heap.objs.size :: fp) { s2 with heap := H3 } H2
 have loop := Zal (R := compPost (model X.prog X.w) X.A X.xe none (EP X pins σ Q) (.ref s2.heap.objs.size) H3.objs.size) (elt := elt) (iter := iter) (ifs := ifs) (pos := pos) (Q := fun ys H => ∀ l, H l = none -> Q (.ref l) (upd H l (.lst ys)))
  hc T I3 rfl hf hlt hDf IY st1 hacc hg ht he w0 turn (fun s5 σc H' ys us pinsY IY5 hD pl rv hz q => by
   obtain ⟨m, hn, _⟩ := IY5.loc
   refine ⟨m, hn, fun h' hs' => ⟨.ref s2.heap.objs.size, upd H' s2.heap.objs.size (.lst ys), ?_, rfl, q _ hD⟩⟩
   exact Z6x I3 rfl hf hlt IY5 hD pl rv hz hs')
 exact codeAny_compStart_list loop (T.self _ 0 _ _ _ st1 loop)
end
def Its (x : Str) : It := ⟨fun i _ => i < x.cps.size, fun i H v H' => H' = H /\ ∃ c, x.cps[i]? = some c /\ v = .str ⟨#[c]⟩, fun i _ => i = x.cps.size⟩
theorem Zam {P : Program} {w : World} {K : PySem.W.Frag} {tg : Expr} {it : Addr} {x : Str} {t : Tok} {ty : String} (hty : ["enumerate", "zip", "dict_itemiterator", "dict_reverseitemiterator", "odict_iterator", "itertools.zip_longest", "itertools.pairwise"].contains ty = false)
  (W : ∀ A : Around, A.handled = none -> Walks P w A it [it] [it] x.cps.size (SignAt x) (fun i h => h.IsStrIter it ty x t i))
  (self : ∀ (A : Around) (i : Nat) (s : Shared) (Q : Value -> Shared -> Prop) (E : Value -> Shared -> Prop), s.heap.IsStrIter it ty x t i -> Q (.ref it) s -> wpAny (model P w) A (pyIter (.ref it)) Q E s) :
  Turn P w K tg (Its x) [it] it (fun i h => h.IsStrIter it ty x t i) where
 mem := by simp
 obj := fun i h st b hb => by
  have e : b = it := by simpa using hb
  subst e
  obtain ⟨o, e, c, d⟩ := st
  exact ⟨o, e, fun v z => by rw [d] at z; cases z⟩
 keep := fun i h h' st k => by
  obtain ⟨o, e, r⟩ := st
  exact ⟨o, k it (by simp) o e, r⟩
 item := by
  intro X hP hw hK hc i pins s σ H E I hf st hg
  subst hP hw hK
  obtain ⟨f0, f1, f2, f3, f4, f5⟩ := hf it (by simp)
  refine (W X.A (I.ok.hd hc)).item i s _ _ hg st fun v h' tk hv st' kk => ?_
  obtain ⟨c, u, hcx, rfl⟩ := hv
  have I1 : Inv X pins σ H { s with heap := h', toks := tk } := I.turned (fun b o hb e => kk b o (by simpa using hb) e) f0 f1 f3 f4 f5
  obtain ⟨o, e, hcl, hd⟩ := id st'
  exact ⟨_, rfl, Zez (s := { s with heap := h', toks := tk }) e hcl hd hty ⟨.str ⟨#[c]⟩, H, I1, ⟨u, rfl⟩, ⟨rfl, c, hcx, rfl⟩, st', fun b hb => (hf b hb).1⟩⟩
 done := by
  intro X hP hw hK hc i pins s σ H E I hf st hg
  subst hP hw hK
  obtain ⟨f0, f1, f2, f3, f4, f5⟩ := hf it (by simp)
  have hi : i = x.cps.size := hg
  subst hi
  exact (W X.A (I.ok.hd hc)).done s _ _ st fun h' tk kk => ⟨rfl, I.turned (fun b o hb e => kk b o (by simpa using hb) e) f0 f1 f3 f4 f5⟩
 self := self
section
variable {X : Cx} {tg : Expr}
def Zoi (tl : TE) : TI := fun σ H R => tl σ H fun x H1 => ∃ z, x = .str z /\ R (Its z) H1
theorem Zh7 {l : Expr} {tl : TE} (hl : PE X l tl) : PI X tg l (Zoi tl) := by
 intro pins s σ H R I h
 refine thn (hl pins s σ H _ I h) fun v s1 ⟨x, H1, I1, r1, q1⟩ => ?_
 obtain ⟨z, e, q⟩ := q1
 subst e
 obtain ⟨t, rfl⟩ := r1
 cases ha : z.cps.all (· < 128) with
 | false =>
  refine wpAny_pyIter_wide ha ?_
  refine ⟨s1.heap.objs.size, [s1.heap.objs.size], _, _, H1, rfl, I1.kept (t' := s1.toks) fun b o e => Heap.get?_push_of_some _ e, Zam (ty := "str_iterator") (t := t) (by decide) (fun A hA => Walks.strWide hA _ z t) (fun A i s Q E st h => wpAny_pyIter_striter_wide st h), ⟨_, Heap.get?_push_size _ rfl, rfl, rfl⟩, fun b hb => ?_, q⟩
  have e : b = s1.heap.objs.size := by simpa using hb
  subst e
  exact I1.fpOk (Nat.le_refl _) (I1.hok.fresh (Nat.le_refl _))
 | true =>
  refine wpAny_pyIter_ascii ha ?_
  refine ⟨s1.heap.objs.size, [s1.heap.objs.size], _, _, H1, rfl, I1.kept (t' := s1.toks) fun b o e => Heap.get?_push_of_some _ e, Zam (ty := "str_ascii_iterator") (t := t) (by decide) (fun A hA => Walks.strAscii hA _ z t) (fun A i s Q E st h => wpAny_pyIter_striter_ascii st h), ⟨_, Heap.get?_push_size _ rfl, rfl, rfl⟩, fun b hb => ?_, q⟩
  have e : b = s1.heap.objs.size := by simpa using hb
  subst e
  exact I1.fpOk (Nat.le_refl _) (I1.hok.fresh (Nat.le_refl _))
theorem Z8l : OpR X (compareOp .LtE) (fun x y H Q => ∃ i j, x = .str i /\ y = .str j /\ Q (.bl (!decide (j.cps.toList < i.cps.toList))) H) := by
 intro pins s σ H x y v u Q I rx ry h
 obtain ⟨i, j, rfl, rfl, q⟩ := h
 obtain ⟨t, rfl⟩ := rx
 obtain ⟨t', rfl⟩ := ry
 exact PySem.P.le_str ⟨.bl _, H, I, rfl, q⟩
theorem Zd2 : OpR X (compareOp .Gt) (fun x y H Q => ∃ i j, x = .str i /\ y = .str j /\ Q (.bl (decide (j.cps.toList < i.cps.toList))) H) := by
 intro pins s σ H x y v u Q I rx ry h
 obtain ⟨i, j, rfl, rfl, q⟩ := h
 obtain ⟨t, rfl⟩ := rx
 obtain ⟨t', rfl⟩ := ry
 exact PySem.P.gt_str ⟨.bl _, H, I, rfl, q⟩
def rSlS : V -> Option Int -> Option Int -> Hp -> VK -> Prop := fun x lo hi H Q => ∃ z, x = .str z /\ z.length <= sizeLine /\ Q (.str (Txt.slice z lo hi)) H
theorem Zan : SlR X rSlS := by
 intro pins s σ H x v vl vu lo hi sl Q I rx hs pl pu h
 obtain ⟨z, rfl, hz, q⟩ := h
 obtain ⟨t, rfl⟩ := rx
 refine ⟨"str", _, F.slot_str_getitem.lookup, typeIs_str _ _ _, ?_⟩
 obtain ⟨os, hos, hcs, hds⟩ := id hs
 have fin : ∀ t' k, EP X pins σ Q (.str (Txt.slice z lo hi) t') { s with toks := k } := fun t' k => ⟨.str _, H, I.tok _, ⟨_, rfl⟩, q⟩
 cases pl with
 | none =>
  cases pu with
  | none => exact wpAny_getItem_str_slice (l := none) (u := none) (st := none) ⟨os, hos, hcs, hds⟩ rfl (post_val_or_str ⟨Nat.le_trans (Txt.slice_le z _ _) hz, fin⟩)
  | int j uj => exact wpAny_getItem_str_slice (l := none) (u := some (j, uj)) (st := none) ⟨os, hos, hcs, hds⟩ rfl (post_val_or_str ⟨Nat.le_trans (Txt.slice_le z _ _) hz, fin⟩)
 | int i ui =>
  cases pu with
  | none => exact wpAny_getItem_str_slice (l := some (i, ui)) (u := none) (st := none) ⟨os, hos, hcs, hds⟩ rfl (post_val_or_str ⟨Nat.le_trans (Txt.slice_le z _ _) hz, fin⟩)
  | int j uj => exact wpAny_getItem_str_slice (l := some (i, ui)) (u := some (j, uj)) (st := none) ⟨os, hos, hcs, hds⟩ rfl (post_val_or_str ⟨Nat.le_trans (Txt.slice_le z _ _) hz, fin⟩)
theorem Z0t : Z5o X (.builtin "isinstance") (fun xs H Q => ∃ x T ty b, xs = [x, .ty T] /\ TyOf X.K H x ty /\ PySem.W.kitOne X.K ty (.type T) = some b /\ Q (.bl b) H) := by
 intro pins s σ H xs us Q I r h
 obtain ⟨x, T, ty, b, rfl, h1, h2, q⟩ := h
 obtain ⟨u, w', rfl, rx, rT⟩ := Zmi r
 cases (show w' = Value.type T from rT)
 exact Zcp I rx h1 h2 fun tk => ⟨.bl b, H, I.tok _, rfl, q⟩
theorem Zao : ∀ {bs : List Bool} {us : List Value}, Vals (bs.map V.bl) us -> us = bs.map Value.bool
 | [], us, r => by cases r; rfl
 | b :: bs, us, r => by
  cases r with
  | cons r1 r2 => cases r1; rw [Zao r2]; rfl
theorem Zbu (bs : List Bool) : ((List.range bs.length).all fun i => (bs[i]?).getD true) = bs.all id := by
 rw [Bool.eq_iff_iff, List.all_eq_true, List.all_eq_true]
 constructor
 ·intro h b hb
  obtain ⟨i, hi, rfl⟩ := List.getElem_of_mem hb
  have := h i (List.mem_range.mpr hi)
  simpa [List.getElem?_eq_getElem hi] using this
 ·intro h i hi
  have hi' := List.mem_range.mp hi
  rw [List.getElem?_eq_getElem hi']
  exact h _ (List.getElem_mem hi')
theorem Z5t (hc : X.calm = true) : Z5o X (.builtin "all") (fun xs H Q => ∃ (p : Addr) (bs : List Bool), xs = [.ref p] /\ SqL X.K H p (bs.map V.bl) /\ Q (.bl (bs.all id)) H) := by
 intro pins s σ H xs us Q I r h
 obtain ⟨p, bs, rfl, hq, q⟩ := h
 obtain ⟨u, rfl, rx⟩ := Z9d r
 cases rx
 obtain ⟨its, r', pl, hz⟩ := I.list hq
 have e := Zao r'
 subst e
 have hlt : p < s.heap.objs.size := by obtain ⟨_, e, _⟩ := pl.isList; exact Heap.lt_size e
 refine call_all_walk (wpAny_pyIter_list pl.isList ?_)
 refine ⟨s.heap.objs.size, [s.heap.objs.size, p], [s.heap.objs.size], (bs.map Value.bool).toArray.size, _, _, fun i => (bs[i]?).getD true, rfl, Walks.list (A := X.A.in1) (I.ok.hd hc) _ p (Nat.ne_of_lt hlt) (bs.map Value.bool).toArray,
  ⟨⟨_, Heap.get?_push_size _ rfl, rfl, rfl⟩, pl.isList.push _⟩, fun i v s' Q' E' hP hQ => ?_, fun h' tk hk => ?_⟩
 ·have hP' : (bs.map Value.bool)[i]? = some v := by simpa using hP
  rw [List.getElem?_map] at hP'
  cases e : bs[i]? with
  | none => rw [e] at hP'; cases hP'
  | some b =>
   rw [e] at hP'
   cases hP'
   simp only [e, Option.getD_some] at hQ
   exact wpAny_truthy_bool hQ
 ·have e : ((List.range (bs.map Value.bool).toArray.size).all fun i => (bs[i]?).getD true) = bs.all id := by
   rw [List.size_toArray, List.length_map]; exact Zbu bs
  rw [e]
  refine ⟨.bl _, H, I.kept fun b o eb => hk b o ?_ (Heap.get?_push_of_some _ eb), rfl, q⟩
  intro z
  rw [List.mem_singleton.mp z] at eb
  exact Nat.lt_irrefl _ (Heap.lt_size eb)
def Zh8 (xs ys : List V) : Bool := xs.length == ys.length && (List.range xs.length).all fun j => eqV (xs.getD j .non) (ys.getD j .non)
theorem Z6y (hu : X.A.units < cLine) : OpR X (compareOp .Eq) (fun x y H Q => ∃ a b xs ys, x = .ref a /\ y = .ref b /\ SqL X.K H a xs /\ SqL X.K H b ys /\ xs.all Z33 = true /\ ys.all Z33 = true /\ Q (.bl (Zh8 xs ys)) H) := by
 intro pins s σ H x y v u Q I rx ry h
 obtain ⟨a, b, xs, ys, rfl, rfl, hx, hy, fx, fy, q⟩ := h
 cases rx
 cases ry
 obtain ⟨its, r, pl, hz⟩ := I.list hx
 obtain ⟨its2, r2, pl2, hz2⟩ := I.list hy
 have hl := r.length
 have hl2 := r2.length
 by_cases hs : xs.length = ys.length
 ·refine SeqAt.eq_listAt (e := fun j => eqV (xs.getD j .non) (ys.getD j .non)) pl.isList pl2.isList (by simp only [List.size_toArray]; omega) hu (fun j h1 h2 => ?_) ?_
  ·simp only [List.size_toArray] at h1 h2
   have g1 : xs[j]? = some xs[j] := List.getElem?_eq_getElem (by omega)
   have g2 : ys[j]? = some ys[j] := List.getElem?_eq_getElem (by omega)
   obtain ⟨u1, e1, ru1⟩ := r.get g1
   obtain ⟨u2, e2, ru2⟩ := r2.get g2
   have k1 : its.toArray[j] = u1 := by
    have : its[j]? = some its[j] := List.getElem?_eq_getElem h1
    rw [e1] at this
    simpa using (Option.some.inj this).symm
   have k2 : its2.toArray[j] = u2 := by
    have : its2[j]? = some its2[j] := List.getElem?_eq_getElem h2
    rw [e2] at this
    simpa using (Option.some.inj this).symm
   rw [k1, k2, show xs.getD j .non = xs[j] by simp [List.getD, g1], show ys.getD j .non = ys[j] by simp [List.getD, g2]]
   exact Zcv ru1 ru2 (List.all_eq_true.mp fx _ (List.getElem_mem _)) (List.all_eq_true.mp fy _ (List.getElem_mem _))
  ·refine Z1h I q ?_
   unfold Zh8
   rw [List.size_toArray, <- hl, hs]
   simp
 ·refine SeqAt.eq_list_lengthsAt pl.isList pl2.isList (by simp only [List.size_toArray, bne_iff_ne]; omega) hu ?_
  refine Z1h I q ?_
  unfold Zh8
  rw [beq_eq_false_iff_ne.mpr hs]
  rfl
end
section
variable {X : Cx} {elt tg iter : Expr} {ifs : List Expr} {scope : Scope} {pos : Pos} {N' : List Str} {src : List (Option Nat)} {wi : TI} {g : TG} {tt : TT} {te : TE}
theorem Z4z {i : Nat} {x : Str} {pos' spos : Pos} (hc : X.calm = true) (hN : X.N.Nodup) (hix : X.N[i]? = some x) (hx : Loc X.env.scope x) (S : CompScope X scope N' src) (hi : PI X tg iter wi)
  (hb : ∀ cl C ex s0 H0, PG (Z2a X N' scope cl C ex s0 H0) tg g /\ PTs (Z2a X N' scope cl C ex s0 H0) ifs tt /\ PE (Z2a X N' scope cl C ex s0 H0) elt te)
  (hsw : swapsWith (.ListComp elt [⟨tg, iter, ifs, 0⟩] scope pos) (some (.Name x pos')) spos.line X.env = pure true := by rfl)
  (hs : ∀ x, foldedSetIterable iter X.env x = pure x := by intro _; rfl)
  (hfn : X.fn x = true ∨ X.env.scope.names.lookup x = some .local := by first | exact .inl rfl | exact .inr rfl | assumption) :
  PS X (.Assign [.Name x pos'] (.ListComp elt [⟨tg, iter, ifs, 0⟩] scope pos) spos) (Zk9 (Zie src wi g tt te) (Z83 i)) := by
 intro pins s σ H D I h
 obtain ⟨cl, hclos, hcl1, hcl2⟩ := Z6v (scope := scope) (env := X.env) fun n hn => I.ok.has n (S.fr n hn)
 rw [exec_Assign_Name_used _ _ _ _ hsw]
 refine wpAny_bind (wpAny_standAt (wpAny_bind ?_))
 show wpAny _ _ (do let _ ← comprehension (.ListComp elt [⟨tg, iter, ifs, 0⟩] scope pos) scope X.env _ (newList []) false (eval iter X.env) (some (assign (.Name x pos') X.env))) _ _ s
 refine wpAny_bind (wpAny_mono (wpAny_comprehension_free (use := some (assign (.Name x pos') X.env)) (Q := fun _ s' => SP X pins D .next s') rfl hs hclos S.kind S.names ?_) (fun _ s' hq => wpAny_pure (wpAny_pure hq)) fun _ _ e => e)
 refine thn (hi pins s σ H _ I h) fun v s1 h1 => thn h1 fun itv s2 h2 => ?_
 obtain ⟨it, fp, tn, J, H2, e, I2, T, st2, f2, W, ⟨m0, w0⟩, turn⟩ := h2
 subst e
 refine wpAny_newObj_type (wpAny_newFunctionEnv S.cell (by intro y hy; simp at hy) (fun h₁ hns₁ hsb₁ => ?_) S.kind)
 dsimp only at hns₁ hsb₁ ⊢
 generalize hH3 : s2.heap.push { cls := .type "list", dict := none, data := .seq ([] : List Value).toArray } = H3 at hns₁ hsb₁ ⊢
 have hsz : H3.objs.size = s2.heap.objs.size + 1 := by rw [<- hH3, Heap.size_push]
 have I3 : Inv X pins σ H2 { s2 with heap := H3 } := I2.kept (t' := s2.toks) fun b o e => by rw [<- hH3]; exact Heap.get?_push_of_some _ e
 have fD : Z6f X pins H2 s2.heap.objs.size := I2.fpOk (Nat.le_refl _) (I2.hok.fresh (Nat.le_refl _))
 have hDf : s2.heap.objs.size ∉ fp := fun hm => by
  obtain ⟨o, e, _⟩ := T.obj 0 _ st2 _ hm
  exact Nat.lt_irrefl _ (Heap.lt_size e)
 have hf : ∀ b ∈ s2.heap.objs.size :: fp, Z6f X pins H2 b := fun b hb => by
  rcases List.mem_cons.mp hb with z | z
  ·rw [z]; exact fD
  ·exact f2 b z
 have hlt : ∀ b ∈ s2.heap.objs.size :: fp, b < H3.objs.size := fun b hb => by
  rcases List.mem_cons.mp hb with z | z
  ·rw [z, hsz]; exact Nat.lt_succ_self _
  ·obtain ⟨o, e, _⟩ := T.obj 0 _ st2 b z
   rw [hsz]; exact Nat.lt_succ_of_lt (Heap.lt_size e)
 have kp : ∀ b o, H3.get? b = some o -> h₁.get? b = some o := fun b o e => hsb₁.extBut b o (Nat.ne_of_lt (Heap.lt_size e)) (Heap.get?_push_of_some _ e)
 have kp0 : ∀ b o, s2.heap.get? b = some o -> h₁.get? b = some o := fun b o e => kp b o (by rw [<- hH3]; exact Heap.get?_push_of_some _ e)
 have hacc : h₁.PlainList s2.heap.objs.size #[] := ⟨_, kp _ _ (by rw [<- hH3]; exact Heap.get?_push_size _ rfl)⟩
 have st1 : tn 0 h₁ := T.keep _ _ _ st2 fun b _ o e => kp0 b o e
 have IY := Z6w (N' := N') (src := src) (scope := scope) (cl := cl) (C := H3.objs.size) (D := s2.heap.objs.size) (fp := fp) (s3 := { s2 with heap := H3 }) (h1 := h₁) (tk := s2.toks) S I3 hcl1 hcl2 rfl hf hlt hns₁ kp
 obtain ⟨hg, ht, he⟩ := hb cl H3.objs.size (s2.heap.objs.size :: fp) { s2 with heap := H3 } H2
 have loop := Zal (R := compPost (model X.prog X.w) X.A X.xe (some (assign (.Name x pos') X.env)) (fun _ s' => SP X pins D .next s') (.ref s2.heap.objs.size) H3.objs.size) (elt := elt) (iter := iter) (ifs := ifs) (pos := pos) (Q := fun ys H => ∀ l, H l = none -> D.nx (σ.set i (some (.ref l))) (upd H l (.lst ys)))
  hc T I3 rfl hf hlt hDf IY st1 hacc hg ht he w0 turn (fun s5 σc H' ys us pinsY IY5 hD pl rv hz q => by
   have IX : Inv X pins σ (upd H' s2.heap.objs.size (.lst ys)) s5 := Z6x (h' := s5.heap) I3 rfl hf hlt IY5 hD pl rv hz (.refl ..)
   show wpAny _ _ (assign (.Name x pos') X.env (.ref s2.heap.objs.size)) _ _ s5
   refine wpAny_assign_Name (Z80 (v := .ref s2.heap.objs.size) IX hN hix hx rfl (fun s6 I6 ⟨a, sb, ha⟩ => ?_) hfn)
   obtain ⟨m, hn, _⟩ := IY5.loc
   have fC : Z6f X pins (upd H' s2.heap.objs.size (.lst ys)) H3.objs.size := I3.fpOk (Nat.le_refl _) (by
    rw [Z0a (by rw [hsz]; exact Nat.ne_of_gt (Nat.lt_succ_self _))]
    exact IY5.free)
   have hCa : H3.objs.size ≠ a := by
    rcases ha with z | z
    ·rw [z]; exact fC.2.1
    ·exact fun q => fC.2.2.2.2.1 x a z q.symm
   refine ⟨m, hn.sameBut sb hCa, fun h' hs' => ⟨_, _, I6.turned (t' := s6.toks) (fun b o hb e => (hs'.2 b hb).trans e) fC.1 fC.2.1 fC.2.2.2.1 fC.2.2.2.2.1 fC.2.2.2.2.2, q _ hD⟩⟩)
 exact codeAny_compStart_list loop (T.self _ 0 _ _ _ st1 loop)
end
section
variable {X : Cx}
def Zms (_ j : Int) : Prop := 0 < j /\ j < 18446744073709551616
theorem Z5l : OpR X (binaryOp .FloorDiv) (rI Zms fun i j => .int (i / j)) := opI fun i j _ _ _ _ _ hc q => by
 have h1 : (0 : Int) < j := hc.1
 have h2 : j < 18446744073709551616 := hc.2
 refine floordiv_int (by omega) (by rw [Int.fdiv_eq_ediv_of_nonneg i (by omega)]; exact q) (.inl (PyProof.noPylong_of_log2 ?_))
 have h64 : j.natAbs.log2 < 64 := (Nat.log2_lt (by omega)).mpr (by omega)
 omega
theorem Z3l (hu : X.A.units < cLine) : OpR X (compareOp .NotEq) (fun x y H Q => ∃ a b xs ys, x = .ref a /\ y = .ref b /\ SqL X.K H a xs /\ SqL X.K H b ys /\ xs.all Z33 = true /\ ys.all Z33 = true /\ Q (.bl (!Zh8 xs ys)) H) := by
 intro pins s σ H x y v u Q I rx ry h
 obtain ⟨a, b, xs, ys, rfl, rfl, hx, hy, fx, fy, q⟩ := h
 cases rx
 cases ry
 obtain ⟨its, r, pl, hz⟩ := I.list hx
 obtain ⟨its2, r2, pl2, hz2⟩ := I.list hy
 have hl := r.length
 have hl2 := r2.length
 by_cases hs : xs.length = ys.length
 ·refine SeqAt.RcNeAt.lists (e := fun j => eqV (xs.getD j .non) (ys.getD j .non)) pl.isList pl2.isList (by simp only [List.size_toArray]; omega) hu (fun j h1 h2 => ?_) X.prog X.w _ _ ?_
  ·simp only [List.size_toArray] at h1 h2
   have g1 : xs[j]? = some xs[j] := List.getElem?_eq_getElem (by omega)
   have g2 : ys[j]? = some ys[j] := List.getElem?_eq_getElem (by omega)
   obtain ⟨u1, e1, ru1⟩ := r.get g1
   obtain ⟨u2, e2, ru2⟩ := r2.get g2
   have k1 : its.toArray[j] = u1 := by
    have : its[j]? = some its[j] := List.getElem?_eq_getElem h1
    rw [e1] at this
    simpa using (Option.some.inj this).symm
   have k2 : its2.toArray[j] = u2 := by
    have : its2[j]? = some its2[j] := List.getElem?_eq_getElem h2
    rw [e2] at this
    simpa using (Option.some.inj this).symm
   rw [k1, k2, show xs.getD j .non = xs[j] by simp [List.getD, g1], show ys.getD j .non = ys[j] by simp [List.getD, g2]]
   exact Zcv ru1 ru2 (List.all_eq_true.mp fx _ (List.getElem_mem _)) (List.all_eq_true.mp fy _ (List.getElem_mem _))
  ·refine Z1h I q ?_
   unfold Zh8
   rw [List.size_toArray, <- hl, hs]
   simp
 ·refine SeqAt.RcNeAt.lists_lengths pl.isList pl2.isList (by simp only [List.size_toArray, bne_iff_ne]; omega) hu X.prog X.w _ _ ?_
  refine Z1h I q ?_
  unfold Zh8
  rw [beq_eq_false_iff_ne.mpr hs]
  rfl
end
def Zoj (t u : TS) : TS := fun D σ H => ∃ Pv : St -> Hp -> Prop, t { D with nx := Pv } σ H /\ ∀ σ' H', Pv σ' H' -> u D σ' H'
section
variable {X : Cx} {st : Stmt} {rest : List Stmt} {t u : TS}
theorem Z0p (h1 : PS X st t) (h2 : PSs X rest u) : PSs X (st :: rest) (Zoj t u) := by
 intro pins s σ H D I h
 obtain ⟨Pv, h, hr⟩ := h
 refine wpAny_execs_cons (thn (h1 pins s σ H { D with nx := Pv } I h) fun f s1 q => ?_)
 cases f with
 | next =>
  obtain ⟨σ', H', I', q⟩ := q
  exact h2 pins s1 σ' H' D I' (hr σ' H' q)
 | ret v => exact q
 | brk => exact q
 | cont => exact q
end
def Zap (kindOf : Str -> Option NameKind) (XN : List Str) (scope : Scope) (N' : List Str) (src : List (Option Nat)) : Bool :=
 (scope.kind == .function) && (scope.names.all fun y => (y.2 != .cell) && (y.2 != .local || scope.names.lookup y.1 == some .local) && (y.2 != .free || ((kindOf y.1 == some .cell || kindOf y.1 == some .free) && scope.names.lookup y.1 != some .local))) &&
 (N'.length == src.length) && ((List.range src.length).all fun i => match src[i]? with
  | some (some j) => (match N'[i]?, XN[j]? with | some x, some y => x == y && scope.names.contains (x, NameKind.free) | _, _ => false)
  | _ => true)
theorem Z0m {X : Cx} {scope : Scope} {N' : List Str} {src : List (Option Nat)} (sc : Scope) (hsc : X.env.scope = sc) (N : List Str) (hN : X.N = N) (h : Zap (fun x => sc.names.lookup x) N scope N' src = true) : CompScope X scope N' src := by
 subst hsc hN
 unfold Zap at h
 simp only [Bool.and_eq_true, List.all_eq_true, beq_iff_eq, bne_iff_ne, ne_eq, Bool.or_eq_true] at h
 obtain ⟨⟨⟨h1, h2⟩, h3⟩, h4⟩ := h
 refine ⟨h1, fun y hy => (h2 y hy).1.1, fun y hy hl => ?_, fun n hn => ?_, fun n hn => ?_, h3, fun i j e => ?_⟩
 ·rcases (h2 y hy).1.2 with z | z
  ·exact absurd hl z
  ·exact z
 ·rcases (h2 _ hn).2 with z | z
  ·exact absurd rfl z
  ·exact z.1
 ·rcases (h2 _ hn).2 with z | z
  ·exact absurd rfl z
  ·exact z.2
 ·have hi : i < src.length := (List.getElem?_eq_some_iff.mp e).1
  have q := h4 i (List.mem_range.mpr hi)
  rw [e] at q
  dsimp only at q
  cases e1 : N'[i]? with
  | none => rw [e1] at q; cases q
  | some x =>
   cases e2 : X.N[j]? with
   | none => rw [e1, e2] at q; cases q
   | some y =>
    rw [e1, e2] at q
    simp only [Bool.and_eq_true, beq_iff_eq] at q
    obtain ⟨rfl, q⟩ := q
    exact ⟨x, rfl, rfl, by simpa using q⟩
def Nx (N i : Nat) (P : Prop) : Prop := ∃ m', m' < N - i /\ m' = N - (i + 1) /\ i + 1 <= N /\ P
theorem nx {N i : Nat} {P : Prop} (h : i < N) (p : P) : Nx N i P := ⟨_, by omega, rfl, h, p⟩
section
variable {x : Str} {σ0 : St} {H : Hp} {g : TG} {tt : TT} {te : TE} {Q : List V -> Hp -> Prop}
theorem Zaq (Pv : Nat -> List V -> St -> Hp -> Prop) (h0 : Pv 0 [] σ0 H)
  (hs : ∀ i c ys σc H, x.cps[i]? = some c -> i < x.cps.size -> Pv i ys σc H -> ys.length < sizeLine /\ g (.str ⟨#[c]⟩) σc H fun σ2 H2 => tt σ2 H2 fun b H3 =>
   if b = true then te σ2 H3 fun v H4 => Nx x.cps.size i (Pv (i + 1) (ys ++ [v]) σ2 H4) else Nx x.cps.size i (Pv (i + 1) ys σ2 H3))
  (hd : ∀ ys σc H, Pv x.cps.size ys σc H -> Q ys H) :
  ∃ W : Nat -> Nat -> List V -> St -> Hp -> Prop, (∃ m, W 0 m [] σ0 H) /\ ∀ i m ys σc H, W i m ys σc H →
   ((Its x).stop i H /\ Q ys H) ∨ ((Its x).go i H /\ ys.length < sizeLine /\ ∀ v H', (Its x).yld i H v H' -> g v σc H' fun σ2 H2 => tt σ2 H2 fun b H3 =>
    if b = true then te σ2 H3 fun v H4 => ∃ m', m' < m /\ W (i + 1) m' (ys ++ [v]) σ2 H4 else ∃ m', m' < m /\ W (i + 1) m' ys σ2 H3) := by
 refine ⟨fun i m ys σc H => m = x.cps.size - i /\ i <= x.cps.size /\ Pv i ys σc H, ⟨_, rfl, Nat.zero_le _, h0⟩, ?_⟩
 rintro i m ys σc H ⟨rfl, hi, p⟩
 by_cases hlt : i < x.cps.size
 ·have hc : x.cps[i]? = some x.cps[i] := by simp [hlt]
  obtain ⟨z, _⟩ := hs i _ ys σc H hc hlt p
  refine .inr ⟨hlt, z, fun v H' y => ?_⟩
  obtain ⟨e, c, hc', ev⟩ := y
  subst e ev
  exact (hs i c ys σc _ hc' hlt p).2
 ·have e : i = x.cps.size := by omega
  subst e
  exact .inl ⟨rfl, hd ys σc H p⟩
theorem Z3m {lo : Int} {n : Nat} (Pv : Nat -> List V -> St -> Hp -> Prop) (h0 : Pv 0 [] σ0 H)
  (hs : ∀ i ys σc H, i < n -> Pv i ys σc H -> ys.length < sizeLine /\ g (.int (lo + i)) σc H fun σ2 H2 => tt σ2 H2 fun b H3 =>
   if b = true then te σ2 H3 fun v H4 => Nx n i (Pv (i + 1) (ys ++ [v]) σ2 H4) else Nx n i (Pv (i + 1) ys σ2 H3))
  (hd : ∀ ys σc H, Pv n ys σc H -> Q ys H) :
  ∃ W : Nat -> Nat -> List V -> St -> Hp -> Prop, (∃ m, W 0 m [] σ0 H) /\ ∀ i m ys σc H, W i m ys σc H →
   ((Itr lo n).stop i H /\ Q ys H) ∨ ((Itr lo n).go i H /\ ys.length < sizeLine /\ ∀ v H', (Itr lo n).yld i H v H' -> g v σc H' fun σ2 H2 => tt σ2 H2 fun b H3 =>
    if b = true then te σ2 H3 fun v H4 => ∃ m', m' < m /\ W (i + 1) m' (ys ++ [v]) σ2 H4 else ∃ m', m' < m /\ W (i + 1) m' ys σ2 H3) := by
 refine ⟨fun i m ys σc H => m = n - i /\ i <= n /\ Pv i ys σc H, ⟨_, rfl, Nat.zero_le _, h0⟩, ?_⟩
 rintro i m ys σc H ⟨rfl, hi, p⟩
 by_cases hlt : i < n
 ·obtain ⟨z, _⟩ := hs i ys σc H hlt p
  refine .inr ⟨hlt, z, fun v H' y => ?_⟩
  obtain ⟨e, ev⟩ := y
  subst e ev
  exact (hs i ys σc _ hlt p).2
 ·have e : i = n := by omega
  subst e
  exact .inl ⟨Nat.le_refl _, hd ys σc H p⟩
end
theorem Z01 {H : Hp} {a : Addr} {o : HO} (h : H a = none) : Same H (upd H a o) := fun b u e => by rw [Z0a (Z0h e h)]; exact e
theorem Zkm {α : Type} {xs : List α} (h : 0 < xs.length) (i : Int) : ∃ v, v ∈ xs /\ atI xs (i % (xs.length : Int)) = some v := by
 have h0 : 0 <= i % (xs.length : Int) := Int.emod_nonneg _ (by omega)
 have h1 : i % (xs.length : Int) < xs.length := Int.emod_lt_of_pos _ (by omega)
 obtain ⟨j, hj⟩ := Int.eq_ofNat_of_zero_le h0
 have hl : j < xs.length := by omega
 refine ⟨xs[j], List.getElem_mem hl, ?_⟩
 rw [hj]
 exact Z32 (List.getElem?_eq_getElem hl)
theorem Z9k {α : Type} {xs : List α} {i : Int} (h0 : 0 <= i) (h1 : i < xs.length) : ∃ v, v ∈ xs /\ atI xs i = some v := by
 obtain ⟨j, hj⟩ := Int.eq_ofNat_of_zero_le h0
 have hl : j < xs.length := by omega
 refine ⟨xs[j], List.getElem_mem hl, ?_⟩
 rw [hj]
 exact Z32 (List.getElem?_eq_getElem hl)
section
variable {X : Cx} {es : List Expr} {te : TE} {t : TA}
theorem Z1y {c : Const} {j : Nat} {p : Pos} (h : PE X (.Constant c j p) te) (hr : PA X es t) : PA X (.Constant c j p :: es) (Z7f te t) := Z08 h hr rfl
theorem Z0j {x : Str} {p : Pos} (h : PE X (.Name x p) te) (hr : PA X es t) : PA X (.Name x p :: es) (Z7f te t) := Z08 h hr rfl
theorem Zev {xs : List Expr} {j : Nat} {p : Pos} (h : PE X (.Tuple xs j p) te) (hr : PA X es t) : PA X (.Tuple xs j p :: es) (Z7f te t) := Z08 h hr rfl
theorem Zkn {xs : List Expr} {p : Pos} (h : PE X (.List xs p) te) (hr : PA X es t) : PA X (.List xs p :: es) (Z7f te t) := Z08 h hr rfl
theorem Z6h {f : Expr} {xs : List Expr} {ks : List Keyword} {p : Pos} (h : PE X (.Call f xs ks p) te) (hr : PA X es t) : PA X (.Call f xs ks p :: es) (Z7f te t) := Z08 h hr rfl
end
def Z3w : Expr -> Option V
 | .Constant (.int i) _ _ => some (.int i)
 | .Constant (.str x) _ _ => some (.str x)
 | .Constant (.bool b) _ _ => some (.bl b)
 | .Constant .none _ _ => some .non
 | _ => none
theorem Z49 {X : Cx} : ∀ {es : List Expr} {vs : List V}, es.map Z3w = vs.map some -> PA X es (fun _ H Q => Q vs H)
 | [], [], _ => Z02
 | [], v :: vs, h => by cases h
 | e :: es, [], h => by cases h
 | e :: es, v :: vs, h => by
  rw [List.map_cons, List.map_cons] at h
  injection h with h1 h2
  have ih := Z49 (X := X) h2
  cases e with
  | Constant c j p =>
   cases c with
   | int i => cases h1; exact Z1y Z05 ih
   | str x => cases h1; exact Z1y Z09 ih
   | bool b => cases h1; exact Z1y Z28 ih
   | none => cases h1; exact Z1y Za9 ih
   | _ => cases h1
  | _ => cases h1
theorem nd1 (x : Str) : [x].Nodup := by simp
section
variable {K : PySem.W.Frag} {a : Addr} {xs : List V} {σ0 : St} {H : Hp} {g : TG} {tt : TT} {te : TE} {Q : List V -> Hp -> Prop}
theorem Z4a (Pv : Nat -> List V -> St -> Hp -> Prop) (h0 : Pv 0 [] σ0 H) (hl : ∀ i ys σc H, Pv i ys σc H -> SqT K H a xs)
  (hs : ∀ i x ys σc H, xs[i]? = some x -> i < xs.length -> Pv i ys σc H -> ys.length < sizeLine /\ g x σc H fun σ2 H2 => tt σ2 H2 fun b H3 =>
   if b = true then te σ2 H3 fun v H4 => Nx xs.length i (Pv (i + 1) (ys ++ [v]) σ2 H4) else Nx xs.length i (Pv (i + 1) ys σ2 H3))
  (hd : ∀ ys σc H, Pv xs.length ys σc H -> Q ys H) :
  ∃ W : Nat -> Nat -> List V -> St -> Hp -> Prop, (∃ m, W 0 m [] σ0 H) /\ ∀ i m ys σc H, W i m ys σc H →
   ((Itt K a).stop i H /\ Q ys H) ∨ ((Itt K a).go i H /\ ys.length < sizeLine /\ ∀ v H', (Itt K a).yld i H v H' -> g v σc H' fun σ2 H2 => tt σ2 H2 fun b H3 =>
    if b = true then te σ2 H3 fun v H4 => ∃ m', m' < m /\ W (i + 1) m' (ys ++ [v]) σ2 H4 else ∃ m', m' < m /\ W (i + 1) m' ys σ2 H3) := by
 refine ⟨fun i m ys σc H => m = xs.length - i /\ i <= xs.length /\ Pv i ys σc H, ⟨_, rfl, Nat.zero_le _, h0⟩, ?_⟩
 rintro i m ys σc H ⟨rfl, hi, p⟩
 have q := hl i ys σc H p
 by_cases hlt : i < xs.length
 ·have hx : xs[i]? = some xs[i] := List.getElem?_eq_getElem hlt
  obtain ⟨z, _⟩ := hs i _ ys σc H hx hlt p
  refine .inr ⟨⟨xs, xs[i], q, hx⟩, z, fun v H' y => ?_⟩
  obtain ⟨e, y⟩ := y
  subst e
  exact (hs i v ys σc _ (y xs q) hlt p).2
 ·have e : i = xs.length := by omega
  subst e
  exact .inl ⟨⟨xs, q, Nat.le_refl _⟩, hd ys σc H p⟩
theorem Z4b (Pv : Nat -> List V -> St -> Hp -> Prop) (h0 : Pv 0 [] σ0 H) (hl : ∀ i ys σc H, Pv i ys σc H -> SqL K H a xs)
  (hs : ∀ i x ys σc H, xs[i]? = some x -> i < xs.length -> Pv i ys σc H -> ys.length < sizeLine /\ g x σc H fun σ2 H2 => tt σ2 H2 fun b H3 =>
   if b = true then te σ2 H3 fun v H4 => Nx xs.length i (Pv (i + 1) (ys ++ [v]) σ2 H4) else Nx xs.length i (Pv (i + 1) ys σ2 H3))
  (hd : ∀ ys σc H, Pv xs.length ys σc H -> Q ys H) :
  ∃ W : Nat -> Nat -> List V -> St -> Hp -> Prop, (∃ m, W 0 m [] σ0 H) /\ ∀ i m ys σc H, W i m ys σc H →
   ((Itl K a).stop i H /\ Q ys H) ∨ ((Itl K a).go i H /\ ys.length < sizeLine /\ ∀ v H', (Itl K a).yld i H v H' -> g v σc H' fun σ2 H2 => tt σ2 H2 fun b H3 =>
    if b = true then te σ2 H3 fun v H4 => ∃ m', m' < m /\ W (i + 1) m' (ys ++ [v]) σ2 H4 else ∃ m', m' < m /\ W (i + 1) m' ys σ2 H3) := by
 refine ⟨fun i m ys σc H => m = xs.length - i /\ i <= xs.length /\ Pv i ys σc H, ⟨_, rfl, Nat.zero_le _, h0⟩, ?_⟩
 rintro i m ys σc H ⟨rfl, hi, p⟩
 have q := hl i ys σc H p
 by_cases hlt : i < xs.length
 ·have hx : xs[i]? = some xs[i] := List.getElem?_eq_getElem hlt
  obtain ⟨z, _⟩ := hs i _ ys σc H hx hlt p
  refine .inr ⟨⟨xs, xs[i], q, hx⟩, z, fun v H' y => ?_⟩
  obtain ⟨e, y⟩ := y
  subst e
  exact (hs i v ys σc _ (y xs q) hlt p).2
 ·have e : i = xs.length := by omega
  subst e
  exact .inl ⟨⟨xs, q, Nat.le_refl _⟩, hd ys σc H p⟩
end
theorem Z2l {X : Cx} {K : PySem.W.Frag} (hK : X.K = K) : Z5o X (.builtin "isinstance") (fun xs H Q => ∃ x T ty b, xs = [x, .ty T] /\ TyOf K H x ty /\ PySem.W.kitOne K ty (.type T) = some b /\ Q (.bl b) H) := by
 subst hK
 exact Z0t
theorem Zko {X : Cx} {e st : Expr} {te ts : TE} {pos p2 : Pos} (he : PE X e te) (hst : PE X st ts) : PE X (.Subscript e (.Slice none none (some st) p2) pos)
  (fun σ H Q => te σ H fun x H1 => ts σ H1 fun y H2 => y = .int (-1) /\ ∃ a xs, x = .ref a /\ SqL X.K H2 a xs /\ ∀ p, H2 p = none -> Q (.ref p) (upd H2 p (.lst xs.reverse))) := by
 intro pins s σ H Q I h
 refine Subscript_ (thn (he pins s σ H _ I h) fun v s1 ⟨x, H1, I1, r1, q1⟩ => ?_)
 refine wpAny_Slice ?_
 rw [evalPart_none]
 refine wpAny_pure (wpAny_pure ?_)
 rw [evalPart_some]
 refine thn (hst pins s1 σ H1 _ I1 q1) fun vs s3 ⟨y, H3, I3, ry, ey, a, xs, ex, hx, q⟩ => ?_
 subst ey ex
 cases r1
 obtain ⟨t, rfl⟩ := ry
 have I4 : Inv X pins σ H3 { s3 with heap := s3.heap.push { cls := .type "slice", data := .fields #[.none, .none, .int (-1) t] } } := I3.kept (t' := s3.toks) fun b ob q => Heap.get?_push_of_some _ q
 obtain ⟨its, r, ht, hz⟩ := I4.list hx
 have hlen := r.length
 refine tail_any (ops := [.ref a, .ref s3.heap.objs.size]) ht.isList.typeIs slot_list_getitem.lookup (wpAny_getItem_list_slice ht.isList (Heap.IsSliceOf.new ..) .none .none (.int (-1) t) (by simp) ?_ (by rw [List.size_toArray] <;> omega)) (by with_unfolding_all rfl)
 rw [PySem.W.krv_pick]
 refine ⟨.ref _, _, I4.laid (t' := s3.toks) (o := .lst xs.reverse) (fun b ob q => Heap.get?_push_of_some _ q) (Nat.le_refl _) ?_, rfl, q _ (I4.hok.fresh (Nat.le_refl _))⟩
 exact ⟨by rw [List.length_reverse]; exact hz, its.reverse, 0, r.reverse, by
  rw [show (its.toArray.toList.reverse).toArray = its.reverse.toArray by simp]
  exact Heap.get?_push_size _ rfl⟩
theorem Z50 {α : Type} {l : List α} {i : Nat} {c : α} (p : α -> Bool) (h : l[i]? = some c) : (l.take (i + 1)).filter p = (l.take i).filter p ++ (if p c = true then [c] else []) := by
 rw [List.take_add_one, h, List.filter_append]
 cases hp : p c <;> simp [hp]
section
variable {X : Cx} {K : PySem.W.Frag}
end
section
variable {X : Cx}
end
section
variable {X : Cx} {pins : List (Addr × Obj)} {σ : St} {H : Hp} {s : Shared}
end
section
variable {X : Cx}
end
end L2
namespace L2
open PySem PySem.Spec PyProof.Rows PySem.Builtin PySem.Builtin.Str
theorem Zif {n : Nat} {j : Int} (h : (n : Int) <= j) : (strSliceIndices none (some j) 1 n).length = n := by
 unfold strSliceIndices sliceRange
 simp only [show (1 : Int) > 0 by decide, if_true, List.length_map, List.length_range]
 split <;> (try split) <;> (try split) <;> (try simp only [Int.ediv_one]) <;> omega
theorem Zig {x : Str} {j : Int} (hx : 0 < x.length) (hj : 1 <= j) : 0 < (Txt.slice x none (some j)).length := by
 have hl : x.cps.toList.length = x.length := by simp [Str.length]
 by_cases h : j <= x.length
 ·have e := beq_iff_eq.mp (slice_closes_to (x := x) (j := j) ⟨by omega, by rw [hl]; exact h⟩)
  rw [e]
  show 0 < (List.toArray _).size
  rw [List.size_toArray, List.length_take, List.length_drop, hl]
  omega
 ·have e : Txt.slice x none (some j) = x := by
   unfold Txt.slice
   rw [Zif (show ((x.length : Nat) : Int) <= j by omega)]
   simp
  rw [e]; exact hx
theorem Zh9 {x : Str} {j : Int} (hj : 0 <= j) : ((Txt.slice x none (some j)).length : Int) <= j := by
 have hl : x.cps.toList.length = x.length := by simp [Str.length]
 by_cases h : j <= x.length
 ·have e := beq_iff_eq.mp (slice_closes_to (x := x) (j := j) ⟨hj, by rw [hl]; exact h⟩)
  rw [e]
  show (((List.toArray _).size : Nat) : Int) <= j
  rw [List.size_toArray, List.length_take, List.length_drop, hl]
  omega
 ·have := Txt.slice_le x none (some j)
  omega
theorem Zf9 {x : Str} {i : Int} (h0 : 0 <= i) (h : i <= x.length) : ((Txt.slice x (some i) none).length : Int) = x.length - i := by
 have hl : x.cps.toList.length = x.length := by simp [Str.length]
 rw [slice_from_eq h0 h rfl]
 show (((List.toArray _).size : Nat) : Int) = _
 rw [List.size_toArray, List.length_take, List.length_drop, hl]
 omega
end L2
namespace L2
open PySem PySem.Spec PyProof.Rows
def Zfa : Expr -> Option (List V)
 | .List es _ => es.mapM Z3w
 | _ => none
theorem Zfb : ∀ {es : List Expr} {vs : List V}, es.mapM Z3w = some vs -> es.map Z3w = vs.map some := by
 intro es
 induction es with
 | nil =>
  intro vs h
  rw [List.mapM_nil] at h
  have : vs = [] := (Option.some.inj h).symm
  subst this
  rfl
 | cons e es ih =>
  intro vs h
  rw [List.mapM_cons] at h
  cases he : Z3w e with
  | none => rw [he] at h; cases h
  | some v =>
   cases hr : es.mapM Z3w with
   | none => rw [he, hr] at h; cases h
   | some r =>
    rw [he, hr] at h
    have : vs = v :: r := (Option.some.inj h).symm
    subst this
    rw [List.map_cons, List.map_cons, he, ih hr]
theorem Z4c {X : Cx} {e : Expr} {vs : List V} (h : Zfa e = some vs) : PE X e (Znq (fun _ H Q => Q vs H)) := by
 cases e with
 | List es p => exact Z0y (Z49 (Zfb h))
 | _ => cases h
section
variable {X : Cx} {CX : CXT} {k : Nat} {E : XK} {x : Str} {p pos : Pos} {e : Expr} {es : List Expr} {tf : TE} {t : TA} {Pf : Addr -> Prop} {sp : Addr -> Sp}
def Zkp (Pf : Addr -> Prop) (sp : Addr -> Sp) (E : XK) (tf : TE) (t : TA) : TE := fun σ H Q => tf σ H fun fv H1 => ∃ f, fv = .ref f /\ Pf f /\ t σ H1 fun vs H2 => sp f vs H2 Q E
theorem Zar (hF : ∀ f, Pf f -> ∃ fd ps, FnOk X.prog X.w X.K X.mg X.base CX k f fd ps (sp f) /\ PySem.W.keepIn X.K (.ref f) = true /\ Binds X.K fd ps []) (hr : Room k X.A) (hx : Z86 CX X E) (hfn : PE X (.Name x p) tf)
  (ha : PA X (e :: es) t) (he : starEach (e :: es) X.env = (false, eval e X.env) :: starEach es X.env := by rfl) (hpl : (backTo pos (starEach es X.env)).any (·.1) = false := by rfl) :
  PE X (.Call (.Name x p) (e :: es) [] pos) (Zkp Pf sp E tf t) := by
 intro pins s σ H Q I h
 refine wpAny_Call_Name_kw (thn (hfn pins s σ H _ I h) fun u s1 ⟨v, H1, I1, r1, f, ev, hp, q1⟩ => ?_)
 subst ev
 cases r1
 obtain ⟨fd, ps, F, hk, hb⟩ := hF f hp
 refine PySem.W.callWith_K (h₀ := X.base) I.ok.mod.kin hk (thn (ha pos pins s1 σ H1 _ I1 q1) fun us s2 ⟨vs, H2, I2, r, q⟩ => ⟨I2.kIn, ?_⟩) he hpl
 exact Zcq (dvs := []) F hr hb .nil hx I2 r (by rw [List.append_nil]; exact q)
end
inductive Th where
 | at (v : V)
 | tup (xs : List Th)
 | lst (xs : List Th)
def Z3e : V -> Bool
 | .str x => decide (x.length <= 1000)
 | v => Z33 v
mutual
inductive IsTh (H : Hp) : V -> Th -> Prop where
 | at {v : V} (f : Z3e v = true) : IsTh H v (.at v)
 | tup {a : Addr} {vs : List V} {ts : List Th} (h : H a = some (.tup vs)) (r : IsThs H vs ts) : IsTh H (.ref a) (.tup ts)
 | lst {a : Addr} {vs : List V} {ts : List Th} (h : H a = some (.lst vs)) (r : IsThs H vs ts) : IsTh H (.ref a) (.lst ts)
inductive IsThs (H : Hp) : List V -> List Th -> Prop where
 | nil : IsThs H [] []
 | cons {v : V} {vs : List V} {t : Th} {ts : List Th} (h : IsTh H v t) (r : IsThs H vs ts) : IsThs H (v :: vs) (t :: ts)
end
def Kp (H H' : Hp) : Prop := ∀ a o, H a = some o -> (∀ kvs, o ≠ .dK kvs) -> H' a = some o
theorem Kp.of {H H1 : Hp} (a : Same H H1) : Kp H H1 := fun c o e _ => a c o e
mutual
theorem IsTh.kp {H H' : Hp} (k : Kp H H') : ∀ {v : V} {t : Th}, IsTh H v t -> IsTh H' v t
 | _, _, .at f => .at f
 | _, _, .tup h r => .tup (k _ _ h (fun _ z => by cases z)) (IsThs.kp k r)
 | _, _, .lst h r => .lst (k _ _ h (fun _ z => by cases z)) (IsThs.kp k r)
theorem IsThs.kp {H H' : Hp} (k : Kp H H') : ∀ {vs : List V} {ts : List Th}, IsThs H vs ts -> IsThs H' vs ts
 | _, _, .nil => .nil
 | _, _, .cons h r => .cons (IsTh.kp k h) (IsThs.kp k r)
end
theorem IsThs.len {H : Hp} : ∀ (vs : List V) {ts : List Th}, IsThs H vs ts -> vs.length = ts.length := by
 intro vs
 induction vs with
 | nil => intro ts h; cases h; rfl
 | cons v vs ih =>
  intro ts h
  cases h with
  | cons a b => rw [List.length_cons, List.length_cons, ih b]
theorem IsThs.app {H : Hp} : ∀ (vs : List V) {ws : List V} {ts us : List Th}, IsThs H vs ts -> IsThs H ws us -> IsThs H (vs ++ ws) (ts ++ us) := by
 intro vs
 induction vs with
 | nil => intro ws ts us h g; cases h; exact g
 | cons v vs ih =>
  intro ws ts us h g
  cases h with
  | cons a b => exact .cons a (ih b g)
inductive KEnt (w : World) : List DictEntry -> List (Str × V) -> Prop where
 | nil : KEnt w [] []
 | cons {x : Str} {tk : Tok} {u : Value} {v : V} {es : List DictEntry} {kvs : List (Str × V)} (r : RelV v u) (q : KEnt w es kvs) : KEnt w (⟨PyData.keyHash w.params x, .str x tk, u⟩ :: es) ((x, v) :: kvs)
structure KDict (K : PySem.W.Frag) (w : World) (a : Addr) (kvs : List (Str × V)) : Prop where
 ex : ∃ (o : Obj) (es : Array DictEntry) (ep : Nat), K.lookup a = some o /\ o.cls = .type "dict" /\ o.dict = none /\ o.slots = #[] /\ o.data = .dict es ep /\ KEnt w es.toList kvs
 nd : (kvs.map (·.1)).Nodup
 sm : (a == sysModules) = false
def Z5u (kvs : List (Str × V)) : List (Key × V) := kvs.map fun p => (Sum.inr p.1, p.2)
def Zih (kvs : List (Str × V)) (t : Str) : Option V := Z2h (Z5u kvs) (Sum.inr t)
theorem KEnt.pairs {P : Program} {w : World} : ∀ (es : List DictEntry) {kvs : List (Str × V)}, KEnt w es kvs →
  ∃ vs : List (Key × Value), KV (Z5u kvs) vs /\ Pairs (Z0x P w) es vs /\ (∀ e ∈ es, ∃ k, (Z0x P w).is k e.key = true /\ e.hash = (Z0x P w).hash k) /\ vs.map (·.1) = kvs.map fun p => (Sum.inr p.1 : Key) := by
 intro es
 induction es with
 | nil =>
  intro kvs h
  cases h
  exact ⟨[], .nil, .nil, (fun e he => absurd he List.not_mem_nil), rfl⟩
 | cons e es ih =>
  intro kvs h
  cases h with
  | @cons x tk u v _ kvs' r q =>
   obtain ⟨vs, h1, h2, h3, h4⟩ := ih q
   refine ⟨(Sum.inr x, u) :: vs, .cons ⟨rfl, r⟩ h1, .cons (Z3z P w x tk) rfl h2, fun e he => ?_, by rw [List.map_cons, List.map_cons, h4]⟩
   rcases List.mem_cons.mp he with z | z
   ·subst z
    exact ⟨Sum.inr x, Z3z P w x tk, rfl⟩
   ·exact h3 e z
theorem Zd3 {kvs : List (Str × V)} (h : (kvs.map (·.1)).Nodup) : (kvs.map fun p => (Sum.inr p.1 : Key)).Nodup := by
 have e : (kvs.map fun p => (Sum.inr p.1 : Key)) = (kvs.map (·.1)).map Sum.inr := by rw [List.map_map]; rfl
 rw [e]
 exact List.Pairwise.map _ (fun a b hab z => hab (by injection z)) h
theorem KDict.of {X : Cx} {pins : List (Addr × Obj)} {σ : St} {H : Hp} {s : Shared} {a : Addr} {kvs : List (Str × V)} (I : Inv X pins σ H s) (d : KDict X.K X.w a kvs) :
  ∃ vs, KV (Z5u kvs) vs /\ s.heap.DictOf (Z0x X.prog X.w) a vs := by
 obtain ⟨⟨o, es, ep, h1, h2, h3, h4, h5, h6⟩, nd, _⟩ := d
 obtain ⟨vs, q1, q2, q3, q4⟩ := h6.pairs (P := X.prog)
 refine ⟨vs, q1, o, es, ep, I.kIn a o h1, ⟨h2, h3, h4⟩, h5, fun e he => q3 e (by simpa using he), q2, ?_⟩
 rw [q4]
 exact Zd3 nd
section
variable {X : Cx} {o e f : Expr} {apos cpos : Pos} {td ty tx : TE}
def Zkq (K : PySem.W.Frag) (w : World) (td ty : TE) : TE := fun σ H Q => td σ H fun x H1 => ∃ a kvs, x = .ref a /\ KDict K w a kvs /\ ty σ H1 fun y H2 => ∃ t, y = .str t /\ Q ((Zih kvs t).getD .non) H2
theorem Zmt {pins : List (Addr × Obj)} {σ : St} {H : Hp} {s : Shared} {a : Addr} {kvs : List (Str × V)} (I : Inv X pins σ H s) (d : KDict X.K X.w a kvs) :
  s.TypeIs (.ref a) "dict" /\ ∀ b, Value.ref a = .ref b -> ∃ ob, s.heap.get? b = some ob /\ ob.dict = none := by
 obtain ⟨vs, _, dd⟩ := d.of I
 refine ⟨dd.typeIs, fun b q => ?_⟩
 cases q
 obtain ⟨ob, _, _, h1, h2, _⟩ := dd
 exact ⟨ob, h1, h2.2.1⟩
theorem Zfc (ho : PE X o td) (he : PE X e ty) (m : M1 X o "get" apos e cpos) : PE X (.Call (.Attribute o "get" apos) [e] [] cpos) (Zkq X.K X.w td ty) := by
 intro pins s σ H Q I h
 refine wpAny_Call_method m.base m.few m.line PySem.F.plainAttrs_dict PySem.F.slot_dict_get PySem.F.type_dict_get (thn (ho pins s σ H _ I h) fun u s1 ⟨x, H1, I1, rx, a, kvs, ex, d, q1⟩ => ?_)
 subst ex
 obtain rfl : u = Value.ref a := rx
 obtain ⟨t1, t2⟩ := Zmt I1 d
 refine ⟨t1, t2, ?_⟩
 rw [m.trees]
 refine Calls.callWith_builtin rfl (Calls.evalArgs_plain (Calls.spliced_cons (thn (he pins s1 σ H1 _ I1 q1) fun iv s2 ⟨y, H2, I2, ry, t, ey, q2⟩ => Calls.spliced_nil ?_)))
 subst ey
 obtain ⟨vs, rel, dd⟩ := d.of I2
 refine call_meetsIn PySem.F.slot_dict_get dd.typeIs PySem.F.entry_dict_get (PySem.F.args_dict_get_2 _ _) (meets_dict_get (Z0x X.prog X.w) a (Zbt (k := Sum.inr t) ry) d.sm) ⟨_, dd.mapOf, ⟨(Zih kvs t).getD .non, H2, I2.tok _, ?_, q2⟩⟩
 exact (rel.val (Sum.inr t)).getD rfl
end
section
variable {X : Cx}
theorem Zd4 {c : TT} {tb : TS} {D : Ends} {σ : St} {H : Hp} (Pv : Nat -> St -> Hp -> Prop) (m0 : Nat) (h0 : Pv m0 σ H)
  (hs : ∀ m σ H, Pv m σ H -> c σ H fun b H1 => if b = true then tb { D with nx := fun σ' H' => ∃ m', m' < m /\ Pv m' σ' H', ct := fun σ' H' => ∃ m', m' < m /\ Pv m' σ' H', bk := D.nx } σ H1 else D.nx σ H1)
  (mono : ∀ σ H Q Q', (∀ b H1, Q b H1 -> Q' b H1) -> c σ H Q -> c σ H Q') : Zci c tb D σ H := by
 refine ⟨Pv, ⟨m0, h0⟩, ?_⟩
 intro m σ H p
 refine mono σ H _ _ (fun b H1 q => ?_) (hs m σ H p)
 cases b with
 | true => exact ⟨_, fun σ' H' z => z, q⟩
 | false => exact q
def rExtendT : V -> List V -> Hp -> VK -> Prop := fun x vs H Q => ∃ l b xs zs, x = .ref l /\ vs = [.ref b] /\ H l = some (.lst xs) /\ H b = some (.tup zs) /\ xs.length + zs.length <= sizeLine /\ Q .non (upd H l (.lst (xs ++ zs)))
theorem Z5g (l : Addr) (items : Array Value) (n : Nat) (b : Addr) (items2 : Array Value) (n2 : Nat) (dd2 : Option Addr) (sl2 : Array (Option Value)) (hs0 : ¬(!items.isEmpty && Builtin.List.listTooLong (items.size + items2.size)) = true) (hs1 : items.size <= sizeLine) (hs2 : items.size + items2.size <= sizeLine + 1) :
  Meets (Builtin.«list.extend» ⟨[.ref l, .ref b], []⟩) (fun _ R s => s.heap.get? l = some { cls := .type "list", dict := none, data := .seq items n, slots := #[] } /\ s.heap.get? b = some { cls := .type "tuple", dict := dd2, data := .seq items2 n2, slots := sl2 } /\ R (.ok (.ret Value.none)) { s with heap := s.heap.update l (Obj.mapSeq (· ++ items2)), toks := s.toks }) := by
 refine .of_wp fun prog w A R s h => ?_
 obtain ⟨hp, g, d, tk, os⟩ := s
 obtain ⟨e1, e2, k⟩ := h
 have g1 := AutoSeq1.idx_int
 have g2 := AutoSeq1.sub_tuple_tuple
 have g3 := AutoSeq1.sub_list_list
 have g4 := AutoSeq1.sub_tuple_list
 have g5 := AutoSeq1.sub_list_tuple
 have fits : (items ++ items2).size <= sizeLine + 1 := by
  rw [Array.size_append]
  exact hs2
 wp_walk using (wpAny_updateSeq e1 rfl (hz := hs1) (_hz' := fits)), AutoSeq1.wpAny_loadPart' e1, AutoSeq1.wpAny_loadPart' e2
 exact ⟨_, rfl, k⟩
theorem Zbv : MtM X "list.extend" rExtendT := by
 intro pins s σ H x vs v us Q I rx rv h
 obtain ⟨l, b, xs, zs, rfl, rfl, hH, hB, hz, q⟩ := h
 cases rx
 obtain ⟨u, rfl, ru⟩ := rv.one
 cases ru
 obtain ⟨z, its, n, r, hl, e⟩ := I.lstM hH
 obtain ⟨its2, r2, p2, hz2⟩ := I.tuple (SqT.of (K := X.K) hB)
 have hl2 := r2.length
 obtain ⟨⟨c2, dd2, data2, sl2⟩, ho2, hc2, n2, hd2⟩ := id p2
 simp only at hc2 hd2
 subst hc2 hd2
 have hsz : its.toArray.size + its2.toArray.size <= sizeLine := by rw [List.size_toArray, List.size_toArray]; omega
 have hlong : ¬ (!its.toArray.isEmpty && Builtin.List.listTooLong (its.toArray.size + its2.toArray.size)) = true := by
  rw [Zag hsz, Bool.and_false]
  exact Bool.false_ne_true
 refine call_meets F.slot_list_extend ⟨_, e, rfl⟩ F.entry_list_extend (F.args_list_extend_2 _ _)
  (Z5g l its.toArray n b its2.toArray n2 dd2 sl2 hlong (by rw [List.size_toArray]; omega) (by omega)) ⟨e, ho2, ?_⟩
 refine ⟨.non, _, I.lset (its' := its ++ its2) hH e (by simp) (r.append r2) ?_, rfl, q⟩
 rw [List.length_append]
 omega
end
end L2
namespace L2
open PySem PySem.Spec PyProof.Rows PySem.Builtin PySem.Builtin.Str
end L2
namespace L2
open PySem PySem.Spec PyProof.Rows
section
variable {X : Cx}
end
end L2
namespace HT
open PySem PySem.Spec PyProof.Rows
section
variable {prog : Program} {w : World} {A : Around} {E : Value -> Shared -> Prop} {s : Shared}
theorem getItem_tuple_all {t sl : Addr} {items : Array Value} {vl vu : Value} {lo hi : Option Int} {Q : Value -> Shared -> Prop} (ht : IsTup s.heap t items) (hs : s.heap.IsSliceOf sl vl vu .none) (pl : IsPart vl lo) (pu : IsPart vu hi)
  (hw : sIx items.size 0 lo = 0 /\ sIx items.size items.size hi = items.size) (h : Q (.ref t) s) : wpAny (model prog w) A (getItem (.ref t) (.ref sl)) Q E s := by
 obtain ⟨os, hos, hcs, hds⟩ := id hs
 have hTs : s.TypeIs (.ref sl) "slice" := ⟨os, hos, hcs⟩
 unfold getItem
 try with_reducible refine wpAny_holding ?_
 first | refine wpAny_bind (wpAny_pure ?_) | skip
 refine wpAny_bind (wpAny_sequenceKey ht.typeIs (by decide) ?_)
 refine wpAny_bind (wpAny_callSpecial?_slot (name := Str.ofString "__getitem__") ht.typeIs PyProof.Rows.slot_tuple_getitem
  (wpAny_call_entry PyProof.Rows.slot_tuple_getitem ht.typeIs entry_tuple_getitem ?_ (args_tuple_getitem _ _)))
 show wpAny _ _ (Builtin.Tuple.tupleItemsOf (.ref t) >>= _) _ _ s
 refine wpAny_bind (tupleItemsOf_ ht ?_)
 refine wpAny_bind (wpAny_typeOf hTs ?_)
 rw [if_pos (by decide)]
 refine wpAny_bind (Z3a hs pl pu ?_)
 have hno : ((((sIx items.size 0 lo : Nat) : Int) == 0 && (1 : Int) == 1 && (sIx items.size items.size hi - sIx items.size 0 lo) == items.size) = true) := by
  rw [hw.1, hw.2]; simp
 show wpAny _ _ (if (((sIx items.size 0 lo : Nat) : Int) == 0 && (1 : Int) == 1 && (sIx items.size items.size hi - sIx items.size 0 lo) == items.size) = true then _ else _) _ _ s
 rw [if_pos hno]
 refine wpAny_bind (m := Builtin.Tuple.tupleIsExact _) (wpAny_bind (wpAny_typeOf ht.typeIs (wpAny_pure ?_)))
 rw [if_pos (by decide)]
 refine wpAny_bind (wpAny_rule ?_)
 exact wpAny_pure ⟨_, rfl, wpAny_pure h⟩
end
end HT
namespace L2
open PySem PySem.Spec PyProof.Rows
section
variable {X : Cx}
theorem Zfd {xs : List V} {lo hi : Option Int} (h : HT.sIx xs.length 0 lo = 0 /\ HT.sIx xs.length xs.length hi = xs.length) : Z3s xs lo hi = xs := by
 unfold Z3s
 rw [h.1, h.2, List.drop_zero, Nat.sub_zero, List.take_of_length_le (Nat.le_refl _)]
def Zmu (K : PySem.W.Frag) : R2 := fun x y H Q => ∃ a n xs, x = .ref a /\ y = .int n /\ SqT K H a xs /\ xs ≠ [] /\ 2 <= n /\ n <= 1000 /\ xs.length <= 1000 /\ ∀ p, H p = none -> Q (.ref p) (upd H p (.tup (List.replicate n.toNat xs).flatten))
theorem Z5h : fillsNumberSlot (.type "tuple") "mul" = pure false :=
 PySem.fillsNumberSlot_seq (id := "tuple.__mul__") (r := some (.builtin "tuple.__rmul__")) F.slot_tuple_mul.lookup (by decide +kernel) F.slot_tuple_rmul.lookup (by decide +kernel)
theorem Z8m : seqRepeat? (.type "tuple") = pure (some (.builtin "tuple.__mul__")) := by
 unfold seqRepeat?
 rw [PySem.seqSlot_of (T := "tuple") (name := "__mul__") (id := "tuple.__mul__") F.slot_tuple_mul.lookup (by decide +kernel), PySem.seqSlot_of (T := "tuple") (name := "__rmul__") (id := "tuple.__rmul__") F.slot_tuple_rmul.lookup (by decide +kernel)]
 rfl
theorem Z8n (a : Int) (t : Tok) (l : Addr) (o : Obj) (items : Array Value) (n : Nat) (hc : o.cls = .type "tuple") (hd : o.data = .seq items n) :
  Meets (Builtin.«int.__rmul__» ⟨[.int a t, .ref l], []⟩) (fun _ R s => s.heap.get? l = some o /\ R (.ok (.ret Value.notImplemented)) s) :=
 .of_wp fun prog w A R s h => by obtain ⟨hp, g, d, tk, os⟩ := s; obtain ⟨hl, h⟩ := h; cases o; cases hc; cases hd; wp_walk; exact ⟨_, rfl, h⟩
theorem Zii : OpR X (binaryOp .Mult) (Zmu X.K) := by
 intro pins s σ H x y v u Q I rx ry h
 obtain ⟨a, k, xs, rfl, rfl, hx, hne, h2, h3, hl, q⟩ := h
 cases rx
 obtain ⟨t, rfl⟩ := ry
 obtain ⟨its, r, ht, hz⟩ := I.tuple hx
 obtain ⟨o, e1, e2, n, e3⟩ := id ht
 have hlen : its.toArray.size = xs.length := by rw [List.size_toArray]; exact r.length.symm
 have hpos : 0 < xs.length := List.length_pos_iff.mpr hne
 refine wpAny_binaryOp_repeat_ref (T := "tuple") (U := "int") (by decide) ht.typeIs (fun s' => typeIs_int s' k t) Z5h F.fills_int_mul F.slot_int_rmul Z8m F.slot_int_index.lookup
  (call_meets F.slot_int_rmul (typeIs_int s k t) F.entry_int_rmul (F.args_int_rmul_2 _ _) (Z8n k t a o _ n e2 e3)
   ⟨e1, rfl, ht.typeIs, ?_⟩)
 refine wpAny_call_entry F.slot_tuple_mul ht.typeIs F.entry_tuple_mul ?_ (F.args_tuple_mul_2 _ _)
 show wpAny _ _ (asIndex (.int k t) >>= _) _ _ s
 refine wpAny_bind (wpAny_of_eq (show asIndex (.int k t) = pure k from rfl) ?_)
 have c1 : ¬ (decide (k < -2 ^ 63) || decide (k ≥ 2 ^ 63)) = true := by
  rw [Bool.or_eq_true, decide_eq_true_iff, decide_eq_true_iff]; omega
 have hie : its.toArray.isEmpty = false := by
  cases its with
  | nil => rw [List.size_toArray] at hlen; simp at hlen; omega
  | cons _ _ => simp
 have c2 : ¬ (its.toArray.isEmpty || k == 1) = true := by
  rw [hie, Bool.false_or, beq_iff_eq]; omega
 have c3 : ¬ (decide (k <= 0) || its.toArray.isEmpty) = true := by
  rw [hie, Bool.or_false, decide_eq_true_iff]; omega
 have hm : (its.toArray.size : Int) * k <= 1000 * 1000 := Int.mul_le_mul (by omega) h3 (by omega) (by decide)
 have c4 : ¬ (its.toArray.size : Int) * k > (2 ^ 63 - 1) / 8 := by omega
 have c5 : ¬ Builtin.Tuple.tupleTooMany ((its.toArray.size : Int) * k) = true := by
  unfold Builtin.Tuple.tupleTooMany
  rw [decide_eq_true_iff]
  have : sizeLine = 16777216 := sizeLine_eq
  omega
 rw [if_neg c1]
 refine wpAny_bind (tupleItemsOf_ ht ?_)
 rw [if_neg c2, if_neg c3, if_neg c4, if_neg c5]
 have hnew : List.foldl (fun x1 x2 => x1 ++ x2) #[] (List.replicate k.toNat its.toArray) = (List.replicate k.toNat its).flatten.toArray := by
  have := Z8d its k.toNat []
  rw [List.nil_append] at this
  exact this
 rw [hnew]
 have hzz : (List.replicate k.toNat its).flatten.length <= sizeLine := by
  rw [Z9g]
  have : sizeLine = 16777216 := sizeLine_eq
  have h4 : k.toNat * its.length <= 1000 * 1000 := Nat.mul_le_mul (by omega) (by rw [List.size_toArray] at hlen; omega)
  omega
 refine wpAny_bind (m := Builtin.Tuple.tupleExact _) (wpAny_newObj_type ?_ (by show _ <= sizeLine; rw [List.size_toArray]; exact hzz))
 refine wpAny_pure ⟨_, rfl, ?_⟩
 refine ⟨.ref s.heap.objs.size, _, I.laid (t' := s.toks) (o := .tup (List.replicate k.toNat xs).flatten) (fun b ob q => Heap.get?_push_of_some _ q) (Nat.le_refl _) ?_, rfl, q _ (I.hok.fresh (Nat.le_refl _))⟩
 exact ⟨by rw [Z9g]; rw [Z9g] at hzz; rw [r.length]; exact hzz, _, r.rep k.toNat, IsTup.new _ _⟩
end
section
variable {X : Cx}
def rSlP : V -> Option Int -> Option Int -> Hp -> VK -> Prop := fun x lo hi H Q => ∃ a xs, x = .ref a /\ H a = some (.tup xs) /\ ∀ p H', Same H H' -> H' p = some (.tup (Z3s xs lo hi)) -> Q (.ref p) H'
theorem Z5v : SlR X rSlP := by
 intro pins s σ H x v vl vu lo hi sl Q I rx hs pl pu h
 obtain ⟨a, xs, rfl, hx, q⟩ := h
 by_cases hw : HT.sIx xs.length 0 lo = 0 /\ HT.sIx xs.length xs.length hi = xs.length
 ·cases rx
  obtain ⟨its, r, ht, hz⟩ := I.tuple (SqT.of hx)
  have hlen : its.toArray.size = xs.length := by rw [List.size_toArray]; exact r.length.symm
  refine ⟨"tuple", _, PyProof.Rows.slot_tuple_getitem.lookup, ht.typeIs, ?_⟩
  refine HT.getItem_tuple_all ht hs pl pu (by rw [hlen]; exact hw) ?_
  exact ⟨.ref a, H, I, rfl, q a H (Same.refl H) (by rw [Zfd hw]; exact hx)⟩
 ·exact Zct pins s σ H (.ref a) v vl vu lo hi sl Q I rx hs pl pu ⟨a, xs, rfl, SqT.of hx, hw, fun p hp => q p _ (Z01 hp) Z00⟩
def rCatP : R2 := fun x y H Q => ∃ a b xs ys, x = .ref a /\ y = .ref b /\ H a = some (.tup xs) /\ H b = some (.tup ys) /\ xs.length + ys.length <= sizeLine ∧
 ∀ p H', Same H H' -> H' p = some (.tup (xs ++ ys)) -> Q (.ref p) H'
theorem Z5w : OpR X (binaryOp .Add) rCatP := by
 intro pins s σ H x y v u Q I rx ry h
 obtain ⟨a, b, xs, ys, rfl, rfl, ha, hb, hz, q⟩ := h
 by_cases hx : xs = []
 ·subst hx
  cases rx
  cases ry
  obtain ⟨its, r1, p1, _⟩ := I.tuple (SqT.of ha)
  obtain ⟨its2, r2, p2, _⟩ := I.tuple (SqT.of hb)
  cases r1
  obtain ⟨⟨cls, dd, data, sl⟩, ho, hc, n, hd⟩ := id p1
  obtain ⟨⟨cls2, dd2, data2, sl2⟩, ho2, hc2, n2, hd2⟩ := id p2
  simp only at hc hd hc2 hd2
  subst hc hd hc2 hd2
  exact concat_meets ⟨_, ho, rfl⟩ ⟨_, ho2, rfl⟩ noFill_tuple_add seq_tuple_add PySem.F.slot_tuple_add PySem.F.entry_tuple_add (PySem.F.args_tuple_add_2 _ _)
   (tuple_addW0 a b _ _ n n2 dd dd2 sl sl2 (by simp)) ⟨ho, ho2, ⟨.ref b, H, I, rfl, q b H (Same.refl H) hb⟩⟩
 ·refine Zia pins s σ H (.ref a) (.ref b) v u Q I rx ry ⟨a, b, xs, ys, rfl, rfl, SqT.of ha, SqT.of hb, hx, hz, fun hy => ?_, fun hy p hp => ?_⟩
  ·subst hy
   exact q a H (Same.refl H) (by rw [List.append_nil]; exact ha)
  ·exact q p _ (Z01 hp) Z00
theorem Z0z {e : Expr} {t t' : TE} (h : PE X e t) (i : ∀ σ H Q, t' σ H Q -> t σ H Q) : PE X e t' := fun pins s σ H Q I q => h pins s σ H Q I (i σ H Q q)
theorem Zas {es : List Expr} {t t' : TA} (h : PA X es t) (i : ∀ σ H Q, t' σ H Q -> t σ H Q) : PA X es t' := fun pos pins s σ H Q I q => h pos pins s σ H Q I (i σ H Q q)
end
section
variable {X : Cx} {pins : List (Addr × Obj)} {σ : St} {H H1 : Hp} {s s1 : Shared}
end
section
variable {X : Cx} {CX : CXT} {k : Nat} {f : Addr} {fd : FuncData} {ps : List Str} {sp : Sp} {E : XK} {x : Str} {p pos : Pos} {e : Expr} {es : List Expr} {t : TA} {ds : List Value} {dvs : List V}
end
def Zij : List (Option Expr) -> List Expr -> Option (List (Str × V))
 | [], [] => some []
 | some (.Constant (.str x) _ _) :: ks, v :: vs => (match Z3w v, Zij ks vs with
  | some c, some r => some ((x, c) :: r)
  | _, _ => none)
 | _, _ => none
def Zmv : Expr -> Option (List (Str × V))
 | .Dict ks vs _ => if ks.length <= 15 /\ ks.length = vs.length /\ 0 < ks.length /\ ks.all (·.isSome) = true then Zij ks vs else none
 | _ => none
section
variable {X : Cx}
theorem Zfe {e : Expr} {v : V} (h : Z3w e = some v) : PE X e (tC v) := by
 cases e with
 | Constant c j p =>
  cases c with
  | int i => cases h; exact Z05
  | str x => cases h; exact Z09
  | bool b => cases h; exact Z28
  | none => cases h; exact Za9
  | _ => cases h
 | _ => cases h
theorem Zkr {pos : Pos} : ∀ (ks : List (Option Expr)) (vs : List Expr) {r : List (Str × V)}, Zij ks vs = some r -> PPs X pos ks vs (r.map fun p => (tC (.str p.1), tC p.2)) := by
 intro ks
 induction ks with
 | nil =>
  intro vs r h
  cases vs with
  | nil => cases h; exact Z7k
  | cons _ _ => cases h
 | cons k ks ih =>
  intro vs r h
  unfold Zij at h
  split at h
  ·rename_i z; cases z
  ·rename_i x _ _ ks' v vs' z
   cases z
   split at h
   ·rename_i c r' h1 h2
    cases h
    exact Z25 Z09 (Zfe h1) (ih _ h2)
   ·cases h
  ·cases h
theorem Zff {σ : St} {H : Hp} : ∀ (r : List (Str × V)) {Q : List (V × V) -> Hp -> Prop}, Q (r.map fun p => (.str p.1, p.2)) H -> Z8i (r.map fun p => (tC (.str p.1), tC p.2)) σ H Q := by
 intro r
 induction r with
 | nil => intro Q h; exact h
 | cons p r ih => intro Q h; exact ih h
theorem Zik {e : Expr} {r : List (Str × V)} (h : Zmv e = some r) : PE X e (fun _ H Q => ∀ p, H p = none -> Q (.ref p) (upd H p (.dK (Z2k [] (Z5u r))))) := by
 cases e with
 | Dict ks vs pos =>
  have h' : (if ks.length <= 15 /\ ks.length = vs.length /\ 0 < ks.length /\ ks.all (·.isSome) = true then Zij ks vs else none) = some r := h
  split at h'
  ·rename_i hk
   obtain ⟨h1, h2, h3, h4⟩ := hk
   refine Z0z (Z7l (Zkr ks vs h') h4 h2 (fun z => by rw [z] at h3; simp at h3) h1) fun σ H Q q p hp => ?_
   refine Zff r ⟨Z00, Z5u r, ?_, ?_, ?_⟩
   ·unfold Z5u
    rw [List.map_map]
    rfl
   ·have : ∀ (ks : List (Option Expr)) (vs : List Expr) {r : List (Str × V)}, Zij ks vs = some r -> r.length = ks.length := by
     intro ks
     induction ks with
     | nil => intro vs r h; cases vs with
      | nil => cases h; rfl
      | cons _ _ => cases h
     | cons k ks ih =>
      intro vs r h
      unfold Zij at h
      split at h
      ·rename_i z; cases z
      ·rename_i x _ _ ks' v vs' z
       cases z
       split at h
       ·rename_i c r' h1 h2
        cases h
        rw [List.length_cons, List.length_cons, ih _ h2]
       ·cases h
      ·cases h
    have e := this ks vs h'
    show (r.map _).length <= 15
    rw [List.length_map]
    omega
   ·rw [Zi1]
    exact q p hp
  ·cases h'
 | _ => cases h
end
section
variable {X : Cx}
theorem Z9l : OpR X (compareOp .IsNot) (fun x y H Q => ∃ b c, x = .bl b /\ y = .bl c /\ Q (.bl (!decide (b = c))) H) := by
 intro pins s σ H x y v u Q I rx ry h
 obtain ⟨b, c, rfl, rfl, q⟩ := h
 cases rx
 cases ry
 cases b <;> cases c <;> exact wpAny_pure (Z1h I q rfl)
end
section
variable {X : Cx} {pins : List (Addr × Obj)} {σ : St} {H : Hp} {s : Shared} {h' : Heap}
theorem Inv.turnedL {t' : Nat} {ch : List Addr} (I : Inv X pins σ H s) (k : ∀ b o, b ∉ ch -> s.heap.get? b = some o -> h'.get? b = some o) (hf : ∀ b ∈ ch, Z6f X pins H b) : Inv X pins σ H { s with heap := h', toks := t' } := by
 have nit : ∀ b u, H b = some u -> b ∉ ch := fun b u e z => by rw [(hf b z).1] at e; cases e
 refine I.step (g' := s.gens) (d' := s.drawn) (ch := ch) (fun b hb => ?_) (fun b o _ _ hc e _ => k b o hc e) (fun b o _ _ hc e _ => ⟨o.slots, k b o hc e⟩) (fun _ _ _ _ n => n)
  (fun b o hc e => ⟨o, k b o hc e⟩) (fun _ _ e => e) (fun _ _ _ e => e) (fun b ps e => ⟨#[], by rw [e]; simp⟩) (fun m hm => ?_) (fun b u e => ?_) I.bare
 ·obtain ⟨f0, f1, f2, f3, f4, f5⟩ := hf b hb
  exact ⟨f3, f1, f4, f5⟩
 ·obtain ⟨o, es, ep, ho, r⟩ := hm
  exact ⟨o, es, ep, k _ o (fun z => (hf _ z).2.1 rfl) ho, r⟩
 ·refine (I.hok b u e).stay (fun c v hc q => k c v ?_ q) (fun _ q => q) fun _ _ q => q
  rcases hc with z | z
  ·rw [z]; exact nit b u e
  ·exact nit c _ z
theorem Inv.turnedLaid {t' : Nat} {ch : List Addr} {a : Addr} {o : HO} (I : Inv X pins σ H s) (k : ∀ b o, b ∉ ch -> s.heap.get? b = some o -> h'.get? b = some o) (hf : ∀ b ∈ ch, Z6f X pins H b) (hp : s.heap.objs.size <= a) (new : ObjOk X.prog X.w (upd H a o) h' a o) :
  Inv X pins σ (upd H a o) { s with heap := h', toks := t' } := by
 have nit : ∀ b u, H b = some u -> b ∉ ch := fun b u e z => by rw [(hf b z).1] at e; cases e
 have hn : H a = none := I.hok.fresh hp
 have old : ∀ b u, H b = some u -> upd H a o b = some u := fun b u e => by rw [Z0a (Z0h e hn)]; exact e
 refine I.step (g' := s.gens) (d' := s.drawn) (ch := ch) (fun b hb => ?_) (fun b o _ _ hc e _ => k b o hc e) (fun b o _ _ hc e _ => ⟨o.slots, k b o hc e⟩) (fun b u _ e n => ?_)
  (fun b o hc e => ⟨o, k b o hc e⟩) (fun _ _ e => old _ _ e) (fun _ _ _ e => old _ _ e) (fun b ps e => ⟨#[], by rw [old _ _ e]; simp⟩) (fun m hm => ?_) (fun b u e => ?_) I.bare
 ·obtain ⟨f0, f1, f2, f3, f4, f5⟩ := hf b hb
  exact ⟨f3, f1, f4, f5⟩
 ·rw [Z0a (fun z => by subst z; exact absurd (Nat.lt_of_lt_of_le (Heap.lt_size e) hp) (Nat.lt_irrefl _))]
  exact n
 ·obtain ⟨o, es, ep, ho, r⟩ := hm
  exact ⟨o, es, ep, k _ o (fun z => (hf _ z).2.1 rfl) ho, r⟩
 ·by_cases hb : b = a
  ·subst hb; rw [Z00] at e; cases e; exact new
  ·rw [Z0a hb] at e
   refine (I.hok b u e).stay (fun c v hc q => k c v ?_ q) (fun c q => old _ _ q) fun c xs q => old _ _ q
   rcases hc with z | z
   ·rw [z]; exact nit b u e
   ·exact nit c _ z
end
def Ite (K : PySem.W.Frag) (a : Addr) : It :=
 ⟨fun i H => ∃ xs x, SqL K H a xs /\ xs[i]? = some x, fun i H v H' => ∃ T x, v = .ref T /\ H T = none /\ (∀ xs, SqL K H a xs -> xs[i]? = some x) /\ H' = upd H T (.tup [.int i, x]), fun i H => ∃ xs, SqL K H a xs /\ xs.length = i⟩
theorem Zd5 {P : Program} {w : World} {K : PySem.W.Frag} {elts : List Expr} {k : Nat} {pos : Pos} (a e it : Addr) (hne : e ≠ it) :
  Turn P w K (.Tuple elts k pos) (Ite K a) [e, it] e (fun i h => (∃ old, IsEnum h e it (i : Nat) old) /\ h.IsListIter it a i) where
 mem := by simp
 obj := fun i h st b hb => by
  obtain ⟨⟨old, s1⟩, o, s2, _, s3⟩ := st
  rcases List.mem_cons.mp hb with z | z
  ·subst z
   exact ⟨_, s1, fun v z => by cases z⟩
  ·have z : b = it := by simpa using z
   subst z
   exact ⟨o, s2, fun v z => by rw [s3] at z; cases z⟩
 keep := fun i h h' st k => by
  obtain ⟨⟨old, s1⟩, s2⟩ := st
  exact ⟨⟨old, k e (by simp) _ s1⟩, s2.at fun o e => k it (by simp) o e⟩
 item := by
  intro X hP hw hK hc i pins s σ H E I hf st hg
  subst hP hw hK
  obtain ⟨xs, x, hq, hx⟩ := hg
  obtain ⟨its, rv, p, hz⟩ := I.list hq
  obtain ⟨u, hu, ru⟩ := rv.get hx
  have hae : a ≠ e := fun z => by
   obtain ⟨⟨old, s1⟩, _⟩ := st
   obtain ⟨o, q1, q2, _⟩ := p.isList
   rw [z, s1] at q1
   cases q1
   injection q2 with q2
   exact absurd q2 (by decide)
  have hai : a ≠ it := fun z => by
   obtain ⟨_, o', s2, s3, _⟩ := st
   obtain ⟨o, q1, q2, _⟩ := p.isList
   rw [z, s2] at q1
   cases q1
   rw [s3] at q2
   injection q2 with q2
   exact absurd q2 (by decide)
  have W := WalksT.enumerate (prog := X.prog) (w := X.w) (I.ok.hd hc) e it a hne hae hai its.toArray
  have hi : i < its.toArray.size := by
   rw [List.size_toArray]
   exact (List.getElem?_eq_some_iff.mp hu).1
  refine W.item i s _ _ hi ⟨st.1, st.2, p.isList⟩ fun T vals h' tk hv hT hTup mid kk => ?_
  obtain ⟨t, x', hx', rfl⟩ := hv
  have ex : x' = u := by
   have : its.toArray[i]? = some u := by simpa using hu
   rw [this] at hx'
   exact (Option.some.inj hx').symm
  subst ex
  refine ⟨_, rfl, W.go elts k pos i T _ _ _ mid fun h'' st'' kk2 => ?_⟩
  have hTw : T ∉ [e, it] := W.apart i T _ mid
  have hfresh : H T = none := I.hok.fresh hT
  refine ⟨.ref T, _, I.turnedLaid (a := T) (o := .tup [.int i, x]) (ch := [e, it]) (fun b o hb q => kk2 b o hb (kk b o hb q)) hf hT ?_, rfl, ⟨T, x, rfl, hfresh, fun ys hy => by rw [I.list_inj hy hq]; exact hx, rfl⟩, ⟨st''.1, st''.2.1⟩, fun b hb => ?_⟩
  ·refine ⟨by show 2 <= sizeLine; decide, [Value.int (i : Nat) t, x'], .cons ⟨t, rfl⟩ (.cons ru .nil), ?_⟩
   obtain ⟨o, q1, q2⟩ := hTup
   exact ⟨o, kk2 T o hTw q1, q2⟩
  ·rw [Z0a (fun z => hTw (by rw [<- z]; exact hb))]
   exact (hf b hb).1
 done := by
  intro X hP hw hK hc i pins s σ H E I hf st hg
  subst hP hw hK
  obtain ⟨xs, hq, hx⟩ := hg
  obtain ⟨its, rv, p, hz⟩ := I.list hq
  have hae : a ≠ e := fun z => by
   obtain ⟨⟨old, s1⟩, _⟩ := st
   obtain ⟨o, q1, q2, _⟩ := p.isList
   rw [z, s1] at q1
   cases q1
   injection q2 with q2
   exact absurd q2 (by decide)
  have hai : a ≠ it := fun z => by
   obtain ⟨_, o', s2, s3, _⟩ := st
   obtain ⟨o, q1, q2, _⟩ := p.isList
   rw [z, s2] at q1
   cases q1
   rw [s3] at q2
   injection q2 with q2
   exact absurd q2 (by decide)
  have W := WalksT.enumerate (prog := X.prog) (w := X.w) (I.ok.hd hc) e it a hne hae hai its.toArray
  have hl := rv.length
  have hi : i = its.toArray.size := by rw [List.size_toArray]; omega
  subst hi
  exact W.done s _ _ ⟨st.1, st.2, p.isList⟩ fun h' tk kk => ⟨rfl, I.turnedL (ch := [e, it]) (fun b o hb q => kk b o hb q) hf⟩
 self := by
  intro A i s Q E st h
  obtain ⟨⟨old, s1⟩, _⟩ := st
  exact wpAny_pyIter_enum s1 h
end L2
namespace L2
open PySem PySem.Spec PyProof.Rows PySem.Builtin PySem.AutoSeq1
section
variable {P : Program} {w : World} {B : Around} {G : Value -> Shared -> Prop} {z : Shared}
theorem Zbw {gi tp : Addr} {n : Nat} {ys : Array Value} {y : Value} {R : Value -> Shared -> Prop} (g : z.heap.IsTupleIter gi tp n) (t : z.heap.IsTuple tp ys) (hy : ys[n]? = some y)
  (q : ∀ k, k.IsTupleIter gi tp (n + 1) -> Heap.SameBut gi z.heap k -> R y { z with heap := k }) : wpAny (model P w) B (SmallTypes.nextOf (.ref gi)) R G z := by
 obtain ⟨og, g1, g2, g3⟩ := id g
 obtain ⟨ot, t1, t2, m, t3⟩ := t
 unfold SmallTypes.nextOf
 refine wpAny_bind (wpAny_callSpecial?_slot (name := Str.ofString "__next__") g.typeIs F.slot_tuple_iterator_next (wpAny_call_entry F.slot_tuple_iterator_next g.typeIs F.entry_tuple_iterator_next ?_ (F.args_tuple_iterator_next_1 _)))
 show wpAny _ _ (field (.ref gi) 0 >>= _) _ _ z
 refine wpAny_bind (wpAny_field g1 g3 (x := .ref tp) rfl ?_)
 show wpAny _ _ (if (Value.ref tp == Value.none) = true then _ else _) _ _ z
 rw [if_neg (show ¬ ((Value.ref tp == Value.none) = true) from Bool.false_ne_true)]
 show wpAny _ _ (field (.ref gi) 1 >>= _) _ _ z
 refine wpAny_bind (wpAny_field g1 g3 (x := .int n 0) rfl ?_)
 show wpAny _ _ (seqItems? (.ref tp) >>= _) _ _ z
 refine wpAny_bind (wpAny_seqItems t1 t3 ?_)
 simp only [Int.toNat_natCast, hy]
 refine wpAny_bind (wpAny_setField g1 g3 (by simp) (wpAny_pure ⟨y, rfl, wpAny_pure (q _ ?_ (Heap.SameBut.update ..))⟩))
 exact ⟨_, Heap.get?_update_self _ g1 (Obj.isFreed_of_fields (Obj.data_mapFields g3 _)), (Obj.cls_mapFields ..).trans g2, by rw [Obj.data_mapFields g3]; simp [rawInt]⟩
theorem Zd6 {gi tp : Addr} {n : Nat} {ys : Array Value} {R : Value -> Shared -> Prop} (hb : B.handled = none) (g : z.heap.IsTupleIter gi tp n) (t : z.heap.IsTuple tp ys) (hy : ys[n]? = none)
  (q : ∀ k e, Heap.ExtBut gi z.heap k -> (∃ o, k.get? e = some o /\ o.cls = .type "StopIteration") -> G (.ref e) { z with heap := k }) : wpAny (model P w) B (SmallTypes.nextOf (.ref gi)) R G z := by
 obtain ⟨og, g1, g2, g3⟩ := id g
 obtain ⟨ot, t1, t2, m, t3⟩ := t
 unfold SmallTypes.nextOf
 refine wpAny_bind (wpAny_callSpecial?_slot (name := Str.ofString "__next__") g.typeIs F.slot_tuple_iterator_next (wpAny_call_entry F.slot_tuple_iterator_next g.typeIs F.entry_tuple_iterator_next ?_ (F.args_tuple_iterator_next_1 _)))
 show wpAny _ _ (field (.ref gi) 0 >>= _) _ _ z
 refine wpAny_bind (wpAny_field g1 g3 (x := .ref tp) rfl ?_)
 show wpAny _ _ (if (Value.ref tp == Value.none) = true then _ else _) _ _ z
 rw [if_neg (show ¬ ((Value.ref tp == Value.none) = true) from Bool.false_ne_true)]
 show wpAny _ _ (field (.ref gi) 1 >>= _) _ _ z
 refine wpAny_bind (wpAny_field g1 g3 (x := .int n 0) rfl ?_)
 show wpAny _ _ (seqItems? (.ref tp) >>= _) _ _ z
 refine wpAny_bind (wpAny_seqItems t1 t3 ?_)
 simp only [Int.toNat_natCast, hy]
 refine wpAny_bind (wpAny_rule (wpAny_bind (wpAny_setField g1 g3 (by simp) ?_)))
 refine wpAny_bind (m := newExc (.type "StopIteration") []) ?_
 simp only [newExc, newTuple]; refine wpAny_bind (wpAny_newObj_type ?_ (by size_fits))
 refine wpAny_bind (m := firstArgMember _ _) (wpAny_of_eq (a := Value.none) (by first | rfl | (simp only [firstArgMember]; rfl)) ?_); refine wpAny_newObj_type ?_ (by size_fits)
 simp only [raiseNew]; refine wpAny_bind (wpAny_handled ?_)
 first | rw [show B.in1.handled = none from hb] | rw [hb]
 refine wpAny_bind (wpAny_pure (wpAny_throw ?_)); exact q _ _ (((Heap.SameBut.update ..).extBut.push _).push _) ⟨_, Heap.get?_push_size _ rfl, rfl⟩
theorem Zha (hb : B.handled = none) (gi tp : Addr) (hne : tp ≠ gi) (ys : Array Value) : Draws P w B gi [gi, tp] ys.size (fun i v => ys[i]? = some v) (fun i k => k.IsTupleIter gi tp i /\ k.IsTuple tp ys) where
 live := fun _ _ st => let ⟨o, ho, _⟩ := st.1; ⟨o, ho⟩
 frame := fun _ _ _ st k => ⟨st.1.at fun o e => k gi (by simp) o e, let ⟨o, q1, q2⟩ := st.2; ⟨o, k tp (by simp) o q1, q2⟩⟩
 item := fun i z R G hi st q => by
  refine Zbw st.1 st.2 (y := ys[i]) (by simp [hi]) fun k g sb => ?_
  refine q _ k z.toks (by simp [hi]) ⟨g, ?_⟩ sb
  obtain ⟨o, q1, q2⟩ := st.2
  exact ⟨o, (sb.2 tp hne).trans q1, q2⟩
 done := fun z R G st q => Zd6 hb st.1 st.2 (by simp) q
theorem Zd7 (tp : Addr) (ys : Array Value) (n : Nat) (dd : Option Addr) (sl : Array (Option Value)) :
  Meets (Builtin.«enumerate.__new__» ⟨[.type "enumerate", .ref tp], []⟩) (fun _ R s => s.heap.get? tp = some { cls := .type "tuple", dict := dd, data := .seq ys n, slots := sl } ∧
   R (.ok (.ret (.ref (s.heap.push { cls := .type "tuple_iterator", data := .fields #[.ref tp, .int 0 0] }).objs.size)))
    { s with heap := (s.heap.push { cls := .type "tuple_iterator", data := .fields #[.ref tp, .int 0 0] }).push { cls := .type "enumerate", data := .fields #[.none, .bool false, .ref s.heap.objs.size, rawInt 0, .none, .none] } }) :=
 .of_wp fun prog w A R s h => by
  obtain ⟨hp, g, d, tk, os⟩ := s
  obtain ⟨ht, h⟩ := h
  have hsub := sub_enumerate
  have hT : Heap.IsTuple (Shared.heap ⟨hp, g, d, tk, os⟩) tp ys := ⟨_, ht, rfl, n, rfl⟩
  wp_walk using wpAny_loadPart' ht
  refine wpAny_stack_any fun st => wpAny_pure ?_
  split
  ·rename_i c _ _ _ _ _
   cases (c == Value.type "enumerate")
   ·wp_walk using wpAny_loadPart' ht, wpAny_pyIter_tuple hT
    exact ⟨_, rfl, h⟩
   ·wp_walk using wpAny_loadPart' ht, wpAny_pyIter_tuple hT
    exact ⟨_, rfl, h⟩
  ·wp_walk using wpAny_loadPart' ht, wpAny_pyIter_tuple hT
   exact ⟨_, rfl, h⟩
theorem Zbx {tp : Addr} {ys : Array Value} {R : Value -> Shared -> Prop} (t : z.heap.IsTuple tp ys)
  (h : ∀ k, IsEnum k (z.heap.objs.size + 1) z.heap.objs.size 0 .none -> k.IsTupleIter z.heap.objs.size tp 0 -> (∀ b o, z.heap.get? b = some o -> k.get? b = some o) -> R (.ref (z.heap.objs.size + 1)) { z with heap := k }) :
  wpAny (model P w) B (call (.type "enumerate") [.ref tp]) R G z := by
 obtain ⟨⟨c, dd, dt, sl⟩, t1, t2, n, t3⟩ := t
 simp only at t2 t3
 subst t2 t3
 refine callType_new F.called_enumerate (by decide) (F.typeCall_enumerate_1 _) (F.newCall_enumerate_1 _) (fun obj => F.args_object_init_2 obj _) F.entry_enumerate_new (Zd7 tp ys n dd sl) ⟨t1, ?_⟩
 have hz : (z.heap.push { cls := .type "tuple_iterator", data := .fields #[.ref tp, .int 0 0] }).objs.size = z.heap.objs.size + 1 := Heap.size_push ..
 show _ /\ _
 rw [hz]
 have he := Heap.get?_push_size (z.heap.push { cls := .type "tuple_iterator", data := .fields #[.ref tp, .int 0 0] }) (o := { cls := .type "enumerate", data := .fields #[.none, .bool false, .ref z.heap.objs.size, rawInt 0, .none, .none] }) rfl
 rw [hz] at he
 exact ⟨⟨_, he, rfl⟩, h _ he ⟨_, Heap.get?_push_of_some _ (Heap.get?_push_size _ rfl), rfl, rfl⟩ fun b o x => Heap.get?_push_of_some _ (Heap.get?_push_of_some _ x)⟩
end
end L2
namespace L2
open PySem PySem.Spec PyProof.Rows
def Itf (K : PySem.W.Frag) (a : Addr) : It :=
 ⟨fun i H => ∃ xs x, SqT K H a xs /\ xs[i]? = some x, fun i H v H' => ∃ T x, v = .ref T /\ H T = none /\ (∀ xs, SqT K H a xs -> xs[i]? = some x) /\ H' = upd H T (.tup [.int i, x]), fun i H => ∃ xs, SqT K H a xs /\ xs.length = i⟩
theorem Zby {P : Program} {w : World} {K : PySem.W.Frag} {elts : List Expr} {k : Nat} {pos : Pos} (a e it : Addr) (hne : e ≠ it) :
  Turn P w K (.Tuple elts k pos) (Itf K a) [e, it] e (fun i h => (∃ old, IsEnum h e it (i : Nat) old) /\ h.IsTupleIter it a i) where
 mem := by simp
 obj := fun i h st b hb => by
  obtain ⟨⟨old, s1⟩, o, s2, _, s3⟩ := st
  rcases List.mem_cons.mp hb with z | z
  ·subst z
   exact ⟨_, s1, fun v z => by cases z⟩
  ·have z : b = it := by simpa using z
   subst z
   exact ⟨o, s2, fun v z => by rw [s3] at z; cases z⟩
 keep := fun i h h' st k => by
  obtain ⟨⟨old, s1⟩, s2⟩ := st
  exact ⟨⟨old, k e (by simp) _ s1⟩, s2.at fun o e => k it (by simp) o e⟩
 item := by
  intro X hP hw hK hc i pins s σ H E I hf st hg
  subst hP hw hK
  obtain ⟨xs, x, hq, hx⟩ := hg
  obtain ⟨its, rv, p, hz⟩ := I.tuple hq
  obtain ⟨u, hu, ru⟩ := rv.get hx
  have p' : s.heap.IsTuple a its.toArray := p
  have hae : a ≠ e := fun z => by
   obtain ⟨⟨old, s1⟩, _⟩ := st
   obtain ⟨o, q1, q2, _⟩ := p'
   rw [z, s1] at q1
   cases q1
   injection q2 with q2
   exact absurd q2 (by decide)
  have hai : a ≠ it := fun z => by
   obtain ⟨_, o', s2, s3, _⟩ := st
   obtain ⟨o, q1, q2, _⟩ := p'
   rw [z, s2] at q1
   cases q1
   rw [s3] at q2
   injection q2 with q2
   exact absurd q2 (by decide)
  have W := WalksT.enumerateD (prog := X.prog) (w := X.w) (A := X.A) (Zha (B := X.A.in1) (I.ok.hd hc) it a hai its.toArray) e hne (by simp [hne, Ne.symm hae]) (by simp)
  have hi : i < its.toArray.size := by
   rw [List.size_toArray]
   exact (List.getElem?_eq_some_iff.mp hu).1
  refine W.item i s _ _ hi ⟨st.1, st.2, p'⟩ fun T vals h' tk hv hT hTup mid kk => ?_
  obtain ⟨t, x', hx', rfl⟩ := hv
  have ex : x' = u := by
   have : its.toArray[i]? = some u := by simpa using hu
   rw [this] at hx'
   exact (Option.some.inj hx').symm
  subst ex
  refine ⟨_, rfl, W.go elts k pos i T _ _ _ mid fun h'' st'' kk2 => ?_⟩
  have hTw : T ∉ [e, it] := W.apart i T _ mid
  have hfresh : H T = none := I.hok.fresh hT
  refine ⟨.ref T, _, I.turnedLaid (a := T) (o := .tup [.int i, x]) (ch := [e, it]) (fun b o hb q => kk2 b o hb (kk b o hb q)) hf hT ?_, rfl, ⟨T, x, rfl, hfresh, fun ys hy => by rw [I.tuple_inj hy hq]; exact hx, rfl⟩, ⟨st''.1, st''.2.1⟩, fun b hb => ?_⟩
  ·refine ⟨by show 2 <= sizeLine; decide, [Value.int (i : Nat) t, x'], .cons ⟨t, rfl⟩ (.cons ru .nil), ?_⟩
   obtain ⟨o, q1, q2⟩ := hTup
   exact ⟨o, kk2 T o hTw q1, q2⟩
  ·rw [Z0a (fun z => hTw (by rw [<- z]; exact hb))]
   exact (hf b hb).1
 done := by
  intro X hP hw hK hc i pins s σ H E I hf st hg
  subst hP hw hK
  obtain ⟨xs, hq, hx⟩ := hg
  obtain ⟨its, rv, p, hz⟩ := I.tuple hq
  have p' : s.heap.IsTuple a its.toArray := p
  have hae : a ≠ e := fun z => by
   obtain ⟨⟨old, s1⟩, _⟩ := st
   obtain ⟨o, q1, q2, _⟩ := p'
   rw [z, s1] at q1
   cases q1
   injection q2 with q2
   exact absurd q2 (by decide)
  have hai : a ≠ it := fun z => by
   obtain ⟨_, o', s2, s3, _⟩ := st
   obtain ⟨o, q1, q2, _⟩ := p'
   rw [z, s2] at q1
   cases q1
   rw [s3] at q2
   injection q2 with q2
   exact absurd q2 (by decide)
  have W := WalksT.enumerateD (prog := X.prog) (w := X.w) (A := X.A) (Zha (B := X.A.in1) (I.ok.hd hc) it a hai its.toArray) e hne (by simp [hne, Ne.symm hae]) (by simp)
  have hl := rv.length
  have hi : i = its.toArray.size := by rw [List.size_toArray]; omega
  subst hi
  exact W.done s _ _ ⟨st.1, st.2, p'⟩ fun h' tk kk => ⟨rfl, I.turnedL (ch := [e, it]) (fun b o hb q => kk b o hb q) hf⟩
 self := by
  intro A i s Q E st h
  obtain ⟨⟨old, s1⟩, _⟩ := st
  exact wpAny_pyIter_enum s1 h
section
variable {X : Cx}
def Zmw (K : PySem.W.Frag) (ta : TA) : TI := fun σ H R => ta σ H fun vs H1 => ∃ a, vs = [.ref a] /\ (((∃ xs, SqL K H1 a xs) /\ R (Ite K a) H1) ∨ ((∃ xs, SqT K H1 a xs) /\ R (Itf K a) H1))
theorem Zil {a : Expr} {ta : TA} {p pos qq : Pos} {elts : List Expr} {kn : Nat} (hg : Gl X "enumerate") (hm : X.mg "enumerate" = none) (ha : PA X [a] ta) (hs : starEach [a] X.env = [(false, eval a X.env)] := by rfl) :
  PI X (.Tuple elts kn qq) (.Call (.Name "enumerate" p) [a] [] pos) (Zmw X.K ta) := by
 intro pins s σ H R I h
 refine Call_ (Z82 I hg hm boot_enumerate (PyProof.Rows.callWith_type1 (thn (ha pos pins s σ H _ I h) fun us s1 ⟨vs, H1, I1, r1, q1⟩ => ?_) hs rfl))
 obtain ⟨l, e, q1⟩ := q1
 subst e
 cases r1 with
 | cons r rr =>
  cases rr
  cases r
  have fin : ∀ {k : Heap} {J : It} {tn : Nat -> Heap -> Prop}, (∀ b o, s1.heap.get? b = some o -> k.get? b = some o) -> IsEnum k (s1.heap.objs.size + 1) s1.heap.objs.size 0 .none →
    Turn X.prog X.w X.K (.Tuple elts kn qq) J [s1.heap.objs.size + 1, s1.heap.objs.size] (s1.heap.objs.size + 1) tn -> tn 0 k -> R J H1 →
    wpAny (model X.prog X.w) X.A (pyIter (.ref (s1.heap.objs.size + 1))) (PIE X pins σ (.Tuple elts kn qq) R) X.xe { s1 with heap := k } := fun {k J tn} kk ie T t0 hR => by
   refine wpAny_pyIter_enum ie ?_
   refine ⟨_, _, tn, J, H1, rfl, I1.kept (t' := s1.toks) kk, T, t0, fun b hb => ?_, hR⟩
   rcases List.mem_cons.mp hb with z | z
   ·subst z; exact I1.fpOk (Nat.le_succ _) (I1.hok.fresh (Nat.le_succ _))
   ·have z : b = s1.heap.objs.size := by simpa using z
    subst z; exact I1.fpOk (Nat.le_refl _) (I1.hok.fresh (Nat.le_refl _))
  rcases q1 with ⟨⟨xs, hq⟩, hR⟩ | ⟨⟨xs, hq⟩, hR⟩
  ·obtain ⟨its, rv, pl, hz⟩ := I1.list hq
   exact call_enumerate_list pl.isList fun k ie il _ kk => fin kk ie (Zd5 l _ _ (Nat.succ_ne_self _)) ⟨⟨_, ie⟩, il⟩ hR
  ·obtain ⟨its, rv, pl, hz⟩ := I1.tuple hq
   exact Zbx (show s1.heap.IsTuple l its.toArray from pl) fun k ie il kk => fin kk ie (Zby l _ _ (Nat.succ_ne_self _)) ⟨⟨_, ie⟩, il⟩ hR
end
section
variable {X : Cx}
end
section
variable {X : Cx}
end
def isTup : Th -> Bool
 | .tup _ => true
 | _ => false
def Zks : Th -> String
 | .at .non => "NoneType"
 | .at (.bl _) => "bool"
 | .at (.int _) => "int"
 | .at (.str _) => "str"
 | .tup _ => "tuple"
 | .lst _ => "list"
 | _ => ""
def Zkt : Th -> Bool
 | .at (.bl _) => true
 | _ => false
def Zd8 : Th -> Bool
 | .at (.int _) => true
 | .at (.bl _) => true
 | _ => false
theorem Z35 {K : PySem.W.Frag} {H : Hp} {v : V} {t : Th} (h : IsTh H v t) : TyOf K H v (.type (Zks t)) := by
 cases h with
 | «at» f =>
  cases v with
  | non => exact .non
  | bl b => exact .bl b
  | int i => exact .int i
  | str x => exact .str x
  | _ => exact absurd (show false = true from f) Bool.false_ne_true
 | tup e r => exact .tup e
 | lst e r => exact .lst e
structure Kits (K : PySem.W.Frag) : Prop where
 int : ∀ {H : Hp} {v : V} {t : Th}, IsTh H v t -> PySem.W.kitOne K (.type (Zks t)) (.type "int") = some (Zd8 t)
 bl : ∀ {H : Hp} {v : V} {t : Th}, IsTh H v t -> PySem.W.kitOne K (.type (Zks t)) (.type "bool") = some (Zkt t)
 tup : ∀ {H : Hp} {v : V} {t : Th}, IsTh H v t -> PySem.W.kitOne K (.type (Zks t)) (.type "tuple") = some (isTup t)
theorem Z22 {H : Hp} : ∀ (vs : List V) {ts : List Th} {i : Nat} {v : V}, IsThs H vs ts -> vs[i]? = some v -> ∃ t, ts[i]? = some t /\ IsTh H v t := by
 intro vs
 induction vs with
 | nil => intro ts i v h e; cases e
 | cons u vs ih =>
  intro ts i v h e
  cases h with
  | cons a b =>
   cases i with
   | zero =>
    have e' : u = v := by simpa using e
    subst e'
    exact ⟨_, rfl, a⟩
   | succ i =>
    rw [List.getElem?_cons_succ] at e
    obtain ⟨t, e1, e2⟩ := ih b e
    exact ⟨t, by rw [List.getElem?_cons_succ]; exact e1, e2⟩
theorem Zku {H : Hp} : ∀ (vs : List V) {ts : List Th} {i : Nat} {t : Th}, IsThs H vs ts -> ts[i]? = some t -> ∃ v, vs[i]? = some v /\ IsTh H v t := by
 intro vs
 induction vs with
 | nil => intro ts i t h e; cases h; simp at e
 | cons v vs ih =>
  intro ts i t h e
  cases h with
  | cons a b =>
   cases i with
   | zero => simp at e; subst e; exact ⟨v, rfl, a⟩
   | succ i => simp at e; obtain ⟨w, e1, e2⟩ := ih b e; exact ⟨w, by simpa using e1, e2⟩
theorem Z1v {H : Hp} {v : V} {ts : List Th} (h : IsTh H v (.tup ts)) : ∃ a vs, v = .ref a /\ H a = some (.tup vs) /\ IsThs H vs ts := by
 cases h with
 | tup e r => exact ⟨_, _, rfl, e, r⟩
theorem Zat {H : Hp} {v : V} {ts : List Th} (h : IsTh H v (.lst ts)) : ∃ a vs, v = .ref a /\ H a = some (.lst vs) /\ IsThs H vs ts := by
 cases h with
 | lst e r => exact ⟨_, _, rfl, e, r⟩
theorem Z40 {H : Hp} {v w : V} (h : IsTh H v (.at w)) : v = w /\ Z3e w = true := by
 cases h with
 | «at» f => exact ⟨rfl, f⟩
theorem Zau {H : Hp} : ∀ (ws : List V) {us : List Th}, IsThs H ws us -> ws ≠ [] -> ∃ ws' y us' u, ws = ws' ++ [y] /\ us = us' ++ [u] /\ IsThs H ws' us' /\ IsTh H y u := by
 intro ws
 induction ws with
 | nil => intro us h n; exact absurd rfl n
 | cons v vs ih =>
  intro us h _
  cases h with
  | @cons _ _ t ts a b =>
   cases vs with
   | nil => cases b; exact ⟨[], v, [], t, rfl, rfl, .nil, a⟩
   | cons v2 vs2 =>
    obtain ⟨ws', y, us', u, e1, e2, h1, h2⟩ := ih b (by intro z; cases z)
    exact ⟨v :: ws', y, t :: us', u, by rw [e1]; rfl, by rw [e2]; rfl, .cons a h1, h2⟩
theorem Zim {H : Hp} : ∀ (vs : List V) {ts : List Th}, IsThs H vs ts -> IsThs H vs.reverse ts.reverse := by
 intro vs
 induction vs with
 | nil => intro ts h; cases h; exact .nil
 | cons v vs ih =>
  intro ts h
  cases h with
  | cons a b =>
   rw [List.reverse_cons, List.reverse_cons]
   exact IsThs.app _ (ih b) (.cons a .nil)
mutual
def Th.sz : Th -> Nat
 | .at _ => 1
 | .tup xs => 1 + szs xs
 | .lst xs => 1 + szs xs
def szs : List Th -> Nat
 | [] => 0
 | x :: xs => Th.sz x + szs xs
end
theorem Zhb (t : Th) : 1 <= Th.sz t := by
 cases t with
 | «at» v => simp [Th.sz]
 | tup xs => simp [Th.sz]
 | lst xs => simp [Th.sz]
theorem szs_app : ∀ us ws : List Th, szs (us ++ ws) = szs us + szs ws := by
 intro us
 induction us with
 | nil => intro ws; simp [szs]
 | cons u us ih => intro ws; rw [List.cons_append, szs, szs, ih]; omega
theorem Zbz : ∀ ts : List Th, szs (ts.filter isTup) <= szs ts := by
 intro ts
 induction ts with
 | nil => simp [szs]
 | cons t ts ih =>
  rw [List.filter_cons]
  split
  ·rw [szs, szs]; omega
  ·rw [szs]; omega
theorem Z1b : ∀ ts : List Th, ts.length <= szs ts := by
 intro ts
 induction ts with
 | nil => simp [szs]
 | cons t ts ih => have := Zhb t; rw [List.length_cons, szs]; omega
theorem Z6z : ∀ (ts : List Th) (t : Th), t ∈ ts -> Th.sz t <= szs ts := by
 intro ts
 induction ts with
 | nil => intro t h; cases h
 | cons u ts ih =>
  intro t h
  rw [szs]
  rcases List.mem_cons.mp h with z | z
  ·subst z; omega
  ·have := ih t z; omega
def Z0r (ts : List Th) : List Th := ts.filter isTup
def OkT : Nat -> Th -> Prop
 | 0, _ => False
 | n + 1, t => ∃ (w : Str) (ts : List Th), t = .tup (.at (.str w) :: ts) /\ (w = "let" -> (Z0r ts).length = 2) /\ ∀ x ∈ ts, isTup x = true -> OkT n x
theorem OkT.up : ∀ (n : Nat) {t : Th}, OkT n t -> OkT (n + 1) t := by
 intro n
 induction n with
 | zero => intro t h; exact h.elim
 | succ n ih =>
  intro t h
  obtain ⟨w, ts, e, h1, h2⟩ := h
  exact ⟨w, ts, e, h1, fun x hx hx2 => ih (h2 x hx hx2)⟩
theorem OkT.le {n m : Nat} {t : Th} (h : OkT n t) (hm : n <= m) : OkT m t := by
 induction hm with
 | refl => exact h
 | step _ ih => exact OkT.up _ ih
theorem Z5x {H H' : Hp} {p : Addr} (s : Same H H') (h : H' p = none) : H p = none := by
 cases e : H p with
 | none => rfl
 | some o => rw [s p o e] at h; cases h
theorem Zmx (x : V) (xs : List V) : Z3s (x :: xs) (some 1) none = xs := by
 have e1 : HT.sIx (x :: xs).length 0 (some 1) = min 1 (x :: xs).length := rfl
 have e2 : HT.sIx (x :: xs).length (x :: xs).length none = (x :: xs).length := rfl
 unfold Z3s
 rw [e1, e2, List.length_cons]
 have e3 : min 1 (xs.length + 1) = 1 := by omega
 rw [e3]
 show List.take (xs.length + 1 - 1) xs = xs
 exact List.take_of_length_le (by omega)
end L2
namespace L2
open PySem
def Z3f (xs : List Th) : Bool := match xs with
 | .at (.str w) :: _ => decide (w = "let")
 | _ => false
def Z8o (l : Bool) (me : Th) : Nat -> List (Str × Th)
 | 0 => if l = true then [(("opened" : Str), me)] else []
 | 1 => if l = true then [(("closed" : Str), me)] else []
 | _ => []
mutual
def Z0e : Th -> List (Str × Th)
 | .tup xs => (("node" : Str), Th.tup xs) :: Z4d (Z3f xs) (.tup xs) 0 xs
 | .at _ => []
 | .lst _ => []
def Z4d (l : Bool) (me : Th) : Nat -> List Th -> List (Str × Th)
 | _, [] => []
 | i, x :: xs => if isTup x = true then Z0e x ++ (Z8o l me i ++ Z4d l me (i + 1) xs) else Z4d l me i xs
end
def Z5y (l : Bool) (me : Th) : Nat -> List Th -> List (Str × Th)
 | _, [] => []
 | i, k :: ks => Z0e k ++ (Z8o l me i ++ Z5y l me (i + 1) ks)
theorem Z70 (l : Bool) (me : Th) : ∀ (xs : List Th) (i : Nat), Z4d l me i xs = Z5y l me i (Z0r xs) := by
 intro xs
 induction xs with
 | nil => intro i; simp [Z4d, Z5y, Z0r]
 | cons x xs ih =>
  intro i
  rw [Z4d]
  unfold Z0r
  rw [List.filter_cons]
  split
  ·rw [Z5y, ih]; rfl
  ·rw [ih]; rfl
theorem Z8p (me : Th) : ∀ (ks : List Th) (i : Nat), Z5y false me i ks = (ks.map Z0e).flatten := by
 intro ks
 induction ks with
 | nil => intro i; rfl
 | cons k ks ih =>
  intro i
  have e : Z8o false me i = [] := by
   match i with
   | 0 => rfl
   | 1 => rfl
   | _ + 2 => rfl
  rw [Z5y, ih, e, List.map_cons, List.flatten_cons, List.nil_append]
theorem Z41 {xs : List Th} (h : Z3f xs = false) : Z0e (.tup xs) = (("node" : Str), Th.tup xs) :: ((Z0r xs).map Z0e).flatten := by
 rw [Z0e, Z70, h, Z8p]
theorem Z5z {xs : List Th} {k1 k2 : Th} (h : Z3f xs = true) (hk : Z0r xs = [k1, k2]) : Z0e (.tup xs) = (("node" : Str), Th.tup xs) :: (Z0e k1 ++ ((("opened" : Str), Th.tup xs) :: (Z0e k2 ++ [(("closed" : Str), Th.tup xs)]))) := by
 rw [Z0e, Z70, h, hk]
 simp [Z5y, Z8o]
def Z51 (p : Str × Th) : List (Str × Th) := if p.1 = "node" then Z0e p.2 else [p]
def Z29 (st : List (Str × Th)) : List (Str × Th) := (st.reverse.map Z51).flatten
theorem Z4e (st : List (Str × Th)) (x : Str × Th) : Z29 (st ++ [x]) = Z51 x ++ Z29 st := by
 unfold Z29; simp
theorem Zav (st r : List (Str × Th)) : Z29 (st ++ r.reverse) = (r.map Z51).flatten ++ Z29 st := by
 unfold Z29; simp
theorem Z3n (t : Th) : Z51 (("node" : Str), t) = Z0e t := by unfold Z51; simp
theorem Zc0 (t : Th) : Z51 (("opened" : Str), t) = [(("opened" : Str), t)] := by
 unfold Z51; rw [if_neg (by show ¬ (("opened" : Str) = "node"); decide +kernel)]
theorem Z9m (t : Th) : Z51 (("closed" : Str), t) = [(("closed" : Str), t)] := by
 unfold Z51; rw [if_neg (by show ¬ (("closed" : Str) = "node"); decide +kernel)]
theorem Zc1 {st : List (Str × Th)} {xs : List Th} (h : Z3f xs = false) : Z29 (st ++ [(("node" : Str), Th.tup xs)]) = (("node" : Str), Th.tup xs) :: Z29 (st ++ ((Z0r xs).map fun k => (("node" : Str), k)).reverse) := by
 rw [Z4e, Zav, Z3n, Z41 h, List.map_map]
 show _ :: (_ ++ _) = _ :: (_ ++ _)
 congr 2
theorem Zfg {st : List (Str × Th)} {xs : List Th} {k1 k2 : Th} (h : Z3f xs = true) (hk : Z0r xs = [k1, k2]) :
  Z29 (st ++ [(("node" : Str), Th.tup xs)]) = (("node" : Str), Th.tup xs) :: Z29 (st ++ ([(("node" : Str), k1), (("opened" : Str), Th.tup xs), (("node" : Str), k2), (("closed" : Str), Th.tup xs)] : List (Str × Th)).reverse) := by
 rw [Z4e, Zav, Z3n, Z5z h hk]
 simp [Z3n, Zc0, Z9m]
def pr (p : Str × Th) : Th := .tup [.at (.str p.1), p.2]
mutual
def cnt : Th -> Nat
 | .tup xs => 1 + Z60 xs
 | .at _ => 0
 | .lst _ => 0
def Z60 : List Th -> Nat
 | [] => 0
 | x :: xs => cnt x + Z60 xs
end
mutual
def dp : Th -> Nat
 | .tup xs => 1 + dps xs
 | .at _ => 0
 | .lst _ => 0
def dps : List Th -> Nat
 | [] => 0
 | x :: xs => max (dp x) (dps xs)
end
mutual
def Z6i : Th -> List (List Nat × Th)
 | .tup xs => ([], .tup xs) :: Z7m 0 xs
 | .at _ => []
 | .lst _ => []
def Z7m : Nat -> List Th -> List (List Nat × Th)
 | _, [] => []
 | i, x :: xs => if isTup x = true then (Z6i x).map (fun p => (i :: p.1, p.2)) ++ Z7m (i + 1) xs else Z7m i xs
end
def Z71 : Nat -> List Th -> List (List Nat × Th)
 | _, [] => []
 | i, k :: ks => (Z6i k).map (fun p => (i :: p.1, p.2)) ++ Z71 (i + 1) ks
theorem Z52 : ∀ (xs : List Th) (i : Nat), Z7m i xs = Z71 i (Z0r xs) := by
 intro xs
 induction xs with
 | nil => intro i; simp [Z7m, Z71, Z0r]
 | cons x xs ih =>
  intro i
  rw [Z7m]
  unfold Z0r
  rw [List.filter_cons]
  split
  ·rw [Z71, ih]; rfl
  ·rw [ih]; rfl
theorem Zfh : ∀ (ks ls : List Th) (i : Nat), Z71 i (ks ++ ls) = Z71 i ks ++ Z71 (i + ks.length) ls := by
 intro ks
 induction ks with
 | nil => intro ls i; simp [Z71]
 | cons k ks ih =>
  intro ls i
  rw [List.cons_append, Z71, Z71, ih, List.append_assoc, List.length_cons]
  congr 3
  omega
theorem Zd9 (t : Th) (h : isTup t = false) : cnt t = 0 := by
 cases t with
 | «at» v => simp [cnt]
 | lst xs => simp [cnt]
 | tup xs => cases h
theorem Zda : ∀ xs : List Th, Z60 xs = Z60 (Z0r xs) := by
 intro xs
 induction xs with
 | nil => rfl
 | cons x xs ih =>
  unfold Z0r
  rw [Z60, List.filter_cons]
  split
  ·rw [Z60, ih]; rfl
  ·rw [Zd9 x (by simp_all), Nat.zero_add, ih]; rfl
mutual
theorem Z61 : ∀ t : Th, (Z6i t).length = cnt t
 | .tup xs => by rw [Z6i, cnt, List.length_cons, Z7n xs 0]; omega
 | .at _ => by simp [Z6i, cnt]
 | .lst _ => by simp [Z6i, cnt]
theorem Z7n : ∀ (ts : List Th) (i : Nat), (Z7m i ts).length = Z60 ts
 | [], i => by simp [Z7m, Z60]
 | x :: xs, i => by
  rw [Z7m, Z60]
  split
  ·rw [List.length_append, List.length_map, Z61 x, Z7n xs]
  ·rw [Z7n xs, Zd9 x (by simp_all), Nat.zero_add]
end
end L2
namespace L2
open PySem PySem.Spec PyProof.Rows
section
variable {K : PySem.W.Frag} {a : Addr} {xs : List V} {σ0 : St} {H : Hp} {g : TG} {tt : TT} {te : TE} {Q : List V -> Hp -> Prop}
end
theorem Zdb {K : PySem.W.Frag} {a : Addr} {xs : List V} {g : TG} {tb : TS} {D : Ends} {σ : St} {H : Hp} (Pv : Nat -> St -> Hp -> Prop) (h0 : Pv 0 σ H) (hl : ∀ i σ H, i <= xs.length -> Pv i σ H -> SqL K H a xs)
  (hs : ∀ i x σ H T, xs[i]? = some x -> Pv i σ H -> H T = none -> g (.ref T) σ (upd H T (.tup [.int i, x])) fun σ2 H2 => tb { D with nx := Pv (i + 1), ct := Pv (i + 1), bk := D.nx } σ2 H2) (hd : ∀ σ H, Pv xs.length σ H -> D.nx σ H) :
  ∃ W : Nat -> Nat -> St -> Hp -> Prop, (∃ m, W 0 m σ H) /\ ∀ i m σ H, W i m σ H →
   ((Ite K a).stop i H /\ D.nx σ H) ∨ ((Ite K a).go i H /\ ∃ N : St -> Hp -> Prop, (∀ σ' H', N σ' H' -> ∃ m', m' < m /\ W (i + 1) m' σ' H') /\ ∀ x H', (Ite K a).yld i H x H' -> g x σ H' fun σ2 H2 => tb { D with nx := N, ct := N, bk := D.nx } σ2 H2) := by
 refine ⟨fun i m σ H => m = xs.length - i /\ i <= xs.length /\ Pv i σ H, ⟨xs.length, by simp, Nat.zero_le _, h0⟩, ?_⟩
 rintro i m σ H ⟨rfl, hi, p⟩
 have q := hl i σ H hi p
 by_cases hlt : i < xs.length
 ·refine .inr ⟨⟨xs, xs[i], q, by simp [hlt]⟩, Pv (i + 1), fun σ' H' p' => ⟨xs.length - (i + 1), by omega, rfl, hlt, p'⟩, fun v H' y => ?_⟩
  obtain ⟨T, x, rfl, hT, hxx, rfl⟩ := y
  exact hs i x σ H T (hxx xs q) p hT
 ·have e : i = xs.length := by omega
  subst e
  exact .inl ⟨⟨xs, q, rfl⟩, hd σ H p⟩
def Zkv (p : List Nat) : Th := .tup (p.map fun i => .at (.int (i : Nat)))
end L2
namespace Srt
open PySem PyProof.Rows
section
variable {prog : Program} {w : World} {A : Around} {E : Value -> Shared -> Prop} {s : Shared}
end
section
variable {prog : Program} {w : World} {A : Around} {E : Value -> Shared -> Prop} {s : Shared}
end
section
variable {prog : Program} {w : World} {A : Around} {E : Value -> Shared -> Prop} {s : Shared}
end
section
variable {prog : Program} {w : World} {A : Around} {E : Value -> Shared -> Prop} {s : Shared} {a₀ : Array Keyed} {P : Array (Nat × Nat × Nat)}
end
section
variable {prog : Program} {w : World} {A : Around} {E : Value -> Shared -> Prop} {s : Shared} {a₀ : Array Keyed} {P : Array (Nat × Nat × Nat)}
end
section
variable {prog : Program} {w : World} {A : Around} {E : Value -> Shared -> Prop} {s : Shared} {a₀ : Array Keyed} {P : Array (Nat × Nat × Nat)}
end
section
variable {M : Model} {A : Around} {E : Value -> Shared -> Prop}
end
section
variable {P : Program} {w : World} {A : Around} {E : Value -> Shared -> Prop} {s : Shared}
end
end Srt
namespace Srt
open PySem PyProof.Rows PySem.Spec
section
variable {P : Program} {w : World} {A : Around} {E : Value -> Shared -> Prop} {s : Shared}
end
section
variable {P : Program} {w : World} {A : Around} {R : Result -> Shared -> Prop} {I : Addr} {fp wr : List Addr} {G : Array GenState -> Array GenState -> Prop} {n : Nat} {Pv : Nat -> Value -> Prop} {St : Nat -> Shared -> Prop}
end
section
variable {P : Program} {w : World} {A : Around} {E : Value -> Shared -> Prop} {s : Shared}
end
section
variable {P : Program} {w : World} {A : Around} {E : Value -> Shared -> Prop} {s : Shared}
end
section
variable {P : Program} {w : World} {A : Around}
end
section
variable {P : Program} {w : World} {A : Around} {E : Value -> Shared -> Prop} {s : Shared}
end
section
variable {P : Program} {w : World} {A : Around} {E : Value -> Shared -> Prop} {s : Shared}
end
end Srt
namespace L2
open PySem PySem.Spec PyProof.Rows Srt
section
variable {X : Cx} {pins : List (Addr × Obj)} {σ : St} {H : Hp} {s : Shared}
end
section
variable {X : Cx} {o e : Expr} {to : TE} {t : TA} {apos cpos : Pos}
end
end L2
namespace L2
open PySem PySem.Spec PyProof.Rows
section
variable {X : Cx}
end
section
variable {X : Cx} {o e f : Expr} {apos cpos : Pos} {td ty tx : TE}
end
section
variable {P : Program} {w : World} {A : Around} {E : Value -> Shared -> Prop} {s : Shared}
end
section
variable {X : Cx}
end
end L2
namespace L2
open PySem PySem.Spec PyProof.Rows PySem.Builtin PySem.AutoSeq1
section
variable {prog : Program} {w : World} {A : Around} {E : Value -> Shared -> Prop} {s : Shared}
end
section
variable {prog : Program} {w : World} {A : Around} {E : Value -> Shared -> Prop} {s : Shared}
end
section
variable {X : Cx} {pins : List (Addr × Obj)} {σ : St}
end
section
variable {X : Cx}
end
end L2
namespace K02
open PySem L2
abbrev Z5c : Stmt := top 20
abbrev Z72 : Stmt := top 21
abbrev Z73 : Stmt := top 9
abbrev Z53 : Stmt := top 10
abbrev Zaw : Stmt := top 11
abbrev Zfi : Stmt := top 12
abbrev Zax : Stmt := top 13
abbrev Z4f : Stmt := top 15
abbrev Zc2 : Stmt := top 16
abbrev Zdc : Stmt := top 17
abbrev Z2v : Stmt := top 18
abbrev Z54 : Stmt := top 19
abbrev Zdd : Stmt := top 23
abbrev Zde : Stmt := top 24
abbrev Zkw : Stmt := top 25
abbrev Z27 : Stmt := top 26
abbrev Z4g : Stmt := top 27
abbrev Z3g : Stmt := top 28
abbrev Z2m : Stmt := top 29
abbrev Z8q : Stmt := top 30
abbrev Z2g : Stmt := top 31
abbrev Z3o : Stmt := top 32
abbrev Z9n : Stmt := top 33
abbrev Z6j : Stmt := top 34
abbrev Z8r : Stmt := top 35
abbrev Z23 : Stmt := top 36
abbrev Z3h : Stmt := top 37
abbrev Z62 : Stmt := top 38
abbrev Z2w : Stmt := top 39
abbrev Z3p : Stmt := top 40
abbrev Zkx : Stmt := top 41
abbrev Z6k : Stmt := top 42
abbrev Z63 : Stmt := top 43
abbrev Z9o : Stmt := top 44
abbrev Z8s : Stmt := top 45
abbrev Zdf : Stmt := top 46
def Z4h : Th -> Bool
 | .at (.str _) => true
 | _ => false
structure Kits (K : PySem.W.Frag) : Prop extends L2.Kits K where
 str : ∀ {H : Hp} {v : V} {t : Th}, IsTh H v t -> PySem.W.kitOne K (.type (Zks t)) (.type "str") = some (Z4h t)
structure TxtT (mg : Str -> Option Value) : Prop where
 isi : mg "isinstance" = none
 int : mg "int" = none
 bl : mg "bool" = none
 tup : mg "tuple" = none
 len : mg "len" = none
 str : mg "str" = none
 all : mg "all" = none
def spParts : Sp := fun vs H Q _ => ∃ (H0 : Hp) (v : V) (ts : List Th), vs = [v] /\ Same H0 H /\ IsTh H0 v (.tup ts) /\ ts.length <= 1000000 ∧
 ∀ (p : Addr) (ws : List V) H', Same H H' -> H' p = some (.tup ws) -> IsThs H0 ws (Z0r ts) -> Q (.ref p) H'
section
variable {P : Program} {w : World} {K : PySem.W.Frag} {mg : Str -> Option Value} {base : Heap}
theorem Zin : FnScope ["e"] ["e"] (Z03 Z5c) := ⟨rfl, rfl, rfl, by decide +kernel, rfl, by decide +kernel, by decide +kernel⟩
theorem Zay {f : Addr} {fd : FuncData} (F : Fun K "parts" "parts" Z5c f fd) (T : TxtT mg) (KI : Kits K) : FnOk P w K mg base CX0 1 f fd ["e"] spParts := by
 refine F.ok Zin (fun vs H Q E h => ?_) (fun cdv A outer s H vs Q E hr h => ?_)
 ·obtain ⟨H0, v, ts, rfl, _⟩ := h
  rfl
 ·obtain ⟨H0, v, ts, rfl, s0, hv, hz, k⟩ := h
  refine ⟨_, Z06 (Z0d (Z1a Z1f (by rfl) T.tup (by decide +kernel) (Z08 (Z21 (N' := ["part"]) (src := [none]) rfl (Z0m (Z03 Z5c) rfl ["e"] rfl (by decide +kernel)) (Z84 (pv 0))
   (fun cl C ex s0' H0' => ⟨Z0o (i := 0) (nd1 _) rfl (Or.inl rfl), Z4y (Z2c (Z0i (id := "isinstance") (Z2l (K := K) rfl) (by rfl) T.isi (by decide +kernel) (Z0j (pv 0) (Z0j (Z1i (v := .ty "tuple") (by rfl) T.tup (by decide +kernel) rfl) Z02)))), pv 0⟩)) Z02))), ?_⟩
  obtain ⟨a, xs, rfl, ha0, hts⟩ := Z1v hv
  have ha := s0 _ _ ha0
  have hl := IsThs.len _ hts
  refine ⟨_, rfl, a, rfl, ⟨_, SqT.of ha⟩, Z4a (K := K) (a := a) (xs := xs) (fun i ys σc H' => ∃ o, σc = [o] /\ IsThs H0 ys ((ts.take i).filter isTup) /\ ys.length <= i /\ H' = H) ⟨none, rfl, by rw [List.take_zero]; exact .nil, Nat.le_refl _, rfl⟩ (fun i ys σc H' ⟨_, _, _, _, e⟩ => by rw [e]; exact SqT.of ha) ?_ ?_⟩
  ·rintro i x ys σc H' hx hi ⟨o, rfl, hys, hyl, rfl⟩
   obtain ⟨t, ht, h1⟩ := Z22 _ hts hx
   have hnext : (ts.take (i + 1)).filter isTup = (ts.take i).filter isTup ++ (if isTup t = true then [t] else []) := Z50 _ ht
   refine ⟨by have : sizeLine = 16777216 := sizeLine_eq; omega, ?_⟩
   refine ⟨_, rfl, _, _, _, _, rfl, Z35 (IsTh.kp (Kp.of s0) h1), KI.tup h1, _, rfl, Z14 (fun g => ?_) (fun g => ?_)⟩
   ·refine ⟨_, rfl, nx hi ⟨_, rfl, ?_, by rw [List.length_append]; show ys.length + 1 <= i + 1; omega, rfl⟩⟩
    rw [hnext, if_pos g]
    exact IsThs.app _ hys (.cons h1 .nil)
   ·refine nx hi ⟨_, rfl, ?_, by omega, rfl⟩
    rw [hnext, if_neg g, List.append_nil]
    exact hys
  ·rintro ys σc H' ⟨o, rfl, hys, hyl, rfl⟩ l hl'
   refine ⟨l, _, rfl, .inl ⟨SqL.of Z00, fun p hp => ?_⟩⟩
   rw [List.take_of_length_le (by omega)] at hys
   have s2 := (Z01 (o := .lst ys) hl').trans (Z01 (o := .tup ys) hp)
   exact k p ys _ s2 Z00 hys
end
def off (a b : Addr) (H : Hp) : Hp := fun c => if c = a ∨ c = b then none else H c
theorem Z7o {a b : Addr} {H : Hp} : Same (off a b H) H := fun c o e => by
 unfold off at e
 split at e
 ·cases e
 ·exact e
theorem Z74 {a b c : Addr} {H : Hp} {o : HO} (h : H c = some o) (h1 : c ≠ a) (h2 : c ≠ b) : off a b H c = some o := by
 unfold off
 rw [if_neg (fun z => z.elim h1 h2)]
 exact h
theorem Zfj {a b : Addr} {H : Hp} {o : HO} : off a b (upd H a o) = off a b H := by
 funext c
 unfold off
 split
 ·rfl
 ·next h => rw [Z0a (fun z => h (.inl z))]
theorem Zaz {a b : Addr} {H : Hp} {o : HO} : off a b (upd H b o) = off a b H := by
 funext c
 unfold off
 split
 ·rfl
 ·next h => rw [Z0a (fun z => h (.inr z))]
theorem Z2b {a b : Addr} {H H' : Hp} (s : Same H H') : Same (off a b H) (off a b H') := fun c o e => by
 unfold off at e ⊢
 split at e
 ·cases e
 ·next h => rw [if_neg h]; exact s c o e
theorem Zky {a b : Addr} {H0 H : Hp} (s : Same H0 H) (h1 : H0 a = none) (h2 : H0 b = none) : Same H0 (off a b H) := fun c o e => Z74 (s c o e) (fun z => by rw [z, h1] at e; cases e) (fun z => by rw [z, h2] at e; cases e)
structure TxtD (mg : Str -> Option Value) : Prop where
 node : ∃ tk, mg "NODE" = some (.str "node" tk)
 opened : ∃ tk, mg "OPENED" = some (.str "opened" tk)
 closed : ∃ tk, mg "CLOSED" = some (.str "closed" tk)
def Zdg (N : Nat) : Sp := fun vs H Q _ => ∃ (v : V) (t : Th), vs = [v] /\ IsTh H v t /\ OkT N t /\ Th.sz t <= 100000 ∧
 ∀ (p : Addr) (ws : List V) H', Same H H' -> H p = none -> H' p = some (.lst ws) -> IsThs H' ws ((Z0e t).map pr) -> Q (.ref p) H'
mutual
theorem Z64 : ∀ t : Th, (Z0e t).length <= 3 * Th.sz t
 | .tup xs => by
  rw [Z0e, Th.sz, List.length_cons]
  have := Z65 (Z3f xs) (.tup xs) xs 0
  omega
 | .at _ => by simp [Z0e]
 | .lst _ => by simp [Z0e]
theorem Z65 (l : Bool) (me : Th) : ∀ (xs : List Th) (i : Nat), (Z4d l me i xs).length <= 3 * szs xs + (2 - i)
 | [], i => by simp [Z4d, szs]
 | x :: xs, i => by
  rw [Z4d, szs]
  have h1 := Z64 x
  have hm : (Z8o l me i).length <= (2 - i) - (2 - (i + 1)) := by
   match i with
   | 0 => cases l <;> simp [Z8o]
   | 1 => cases l <;> simp [Z8o]
   | _ + 2 => simp [Z8o]
  split
  ·have h2 := Z65 l me xs (i + 1)
   rw [List.length_append, List.length_append]
   omega
  ·have h2 := Z65 l me xs i
   omega
end
abbrev prs (l : List (Str × Th)) : List Th := l.map pr
theorem Zfk {H : Hp} {ws : List V} {st : List (Str × Th)} (h : IsThs H ws (prs st)) (hne : ws ≠ []) : ∃ ws' y st' d t a vn, ws = ws' ++ [y] /\ st = st' ++ [(d, t)] /\ IsThs H ws' (prs st') /\ y = .ref a /\ H a = some (.tup [.str d, vn]) /\ IsTh H vn t := by
 obtain ⟨ws', y, us', u, e1, e2, h1, h2⟩ := Zau ws h hne
 have hn : st ≠ [] := fun z => by
  subst z
  have := congrArg List.length e2
  simp [prs] at this
 obtain ⟨st', x, rfl⟩ : ∃ st' x, st = st' ++ [x] := ⟨st.dropLast, st.getLast hn, (List.dropLast_concat_getLast hn).symm⟩
 have e3 : prs (st' ++ [x]) = prs st' ++ [pr x] := by simp [prs]
 rw [e3] at e2
 have e4 := List.append_inj' e2 rfl
 obtain ⟨e5, e6⟩ := e4
 have e6' : pr x = u := by simpa using e6
 subst e6' e5
 obtain ⟨a, vs, rfl, ha, hvs⟩ := Z1v h2
 cases hvs with
 | cons c1 c2 =>
  cases c2 with
  | cons c3 c4 =>
   cases c4
   obtain ⟨rfl, _⟩ := Z40 c1
   exact ⟨ws', _, st', x.1, x.2, a, _, e1, rfl, h1, rfl, ha, c3⟩
theorem Z2x {d : Str} (h : d = "node" ∨ d = "opened" ∨ d = "closed") : Z3e (.str d) = true := by
 rcases h with rfl | rfl | rfl <;> decide +kernel
theorem Z1w (v : V) (vs : List V) : atI (v :: vs) 0 = some v := Z32 (j := 0) rfl
theorem Zio (u v : V) (vs : List V) : atI (u :: v :: vs) 1 = some v := Z32 (j := 1) rfl
theorem Zdh {n : Nat} {t : Th} (h : OkT n t) : 1 <= (Z0e t).length := by
 cases n with
 | zero => exact h.elim
 | succ n =>
  obtain ⟨w, ts, rfl, _⟩ := h
  rw [Z0e, List.length_cons]
  omega
def Zip (N : Nat) (p : Str × Th) : Prop := (p.1 = "node" ∨ p.1 = "opened" ∨ p.1 = "closed") /\ OkT N p.2 /\ Th.sz p.2 <= 100000
theorem Zb0 {N : Nat} : ∀ (st : List (Str × Th)), (∀ x ∈ st, Zip N x) -> st.length <= (Z29 st).length := by
 intro st
 induction st with
 | nil => intro _; exact Nat.zero_le _
 | cons x st ih =>
  intro h
  have h1 := ih (fun y hy => h y (List.mem_cons_of_mem _ hy))
  have h2 : 1 <= (Z51 x).length := by
   unfold Z51
   split
   ·exact Zdh (h x (List.mem_cons_self ..)).2.1
   ·exact Nat.le_refl _
  have e : Z29 (x :: st) = Z29 st ++ Z51 x := by unfold Z29; simp
  rw [e, List.length_append, List.length_cons]
  omega
theorem Zhc {N : Nat} {w : Str} {ts : List Th} (h : ∀ x ∈ ts, isTup x = true -> OkT N x) {k : Th} (hk : k ∈ Z0r (.at (.str w) :: ts)) : OkT N k := by
 unfold Z0r at hk
 rw [List.mem_filter] at hk
 rcases List.mem_cons.mp hk.1 with z | z
 ·subst z; cases hk.2
 ·exact h k z hk.2
theorem Z1c (w : Str) (ts : List Th) : Z0r (.at (.str w) :: ts) = Z0r ts := rfl
theorem Z8t {w : Str} {ts : List Th} : Z3f (.at (.str w) :: ts) = decide (w = "let") := rfl
section
variable {P : Program} {w : World} {K : PySem.W.Frag} {mg : Str -> Option Value} {base : Heap}
theorem scSteps : FnScope ["tree", "walk", "waiting", "deed", "node", "inner"] ["tree"] (Z03 Z72) := ⟨rfl, rfl, rfl, by decide +kernel, rfl, by decide +kernel, by decide +kernel⟩
theorem Zfl {f fP : Addr} {fd dP : FuncData} (F : Fun K "steps" "steps" Z72 f fd) (T : TxtT mg) (TD : TxtD mg) (KI : Kits K)
  (FP : Fun K "parts" "parts" Z5c fP dP) (bP : Binds K dP ["e"] []) (mP : mg "parts" = some (.ref fP)) (N : Nat) : FnOk P w K mg base CX0 2 f fd ["tree"] (Zdg N) := by
 have GP : FnOk P w K mg base CX0 1 fP dP ["e"] spParts := Zay FP T KI
 obtain ⟨tn, hNode⟩ := TD.node
 obtain ⟨to, hOpen⟩ := TD.opened
 obtain ⟨tc, hClose⟩ := TD.closed
 refine F.ok scSteps (fun vs H Q E h => ?_) (fun cdv A outer s H vs Q E hr h => ?_)
 ·obtain ⟨v, t, rfl, _⟩ := h
  rfl
 ·obtain ⟨v, t, rfl, ht, hok, hz, k⟩ := h
  have hsz : sizeLine = 16777216 := sizeLine_eq
  have hr1 : Room 1 _ := hr.mono (by decide)
  refine' ⟨?tt, ?body, ?fin⟩
  case body =>
   refine' Z04 ?s1 (Z0p ?s2 (Z04 ?s3 (Z06 ?s4)))
   case s1 => exact Z0c (i := 1) scSteps.nd rfl (Or.inl rfl) (Z0y Z02)
   case s2 => exact Z0c (i := 2) scSteps.nd rfl (Or.inl rfl) (Z0y (Zev (Z12 (Z0j (Z1t (v := .str "node") (by rfl) hNode ⟨tn, rfl⟩) (Z0j (pv 0) Z02))) Z02))
   case s3 =>
    refine' Z7e PassesOwn.never ?c (Z04 ?b1 (Z0p ?b2 (Z06 ?b3)))
    case c => exact Zad (pv 2) (fun _ => rfl)
    case b1 => exact Zaa (Zh4 PySem.F.plainAttrs_list PySem.F.slot_list_pop PySem.F.type_list_pop Zh5 (pv 2)) (Z6o rfl (Z1e (Z0o (i := 3) scSteps.nd rfl (Or.inl rfl)) (Z1e (Z0o (i := 4) scSteps.nd rfl (Or.inl rfl)) Z4t)))
    case b2 => exact Z31 (Z7j PySem.F.plainAttrs_list PySem.F.slot_list_append PySem.F.type_list_append Z2d (pv 1) (Zev (Z12 (Z0j (pv 3) (Z0j (pv 4) Z02))) Z02))
    case b3 =>
     refine' Z10 ?d (Z0p ?c1 (Z0p ?c2 (Z06 ?c3))) Z0g
     case d => exact Z0b Z1p (pv 3) (Z1t (v := .str "node") (by rfl) hNode ⟨tn, rfl⟩) (Z0k _)
     case c1 =>
      refine' Z4z (i := 5) (N' := ["part"]) (src := [none]) ?k1 ?k2 ?k3 ?k4 ?k5 ?k6 ?k7
      case k1 => rfl
      case k2 => exact scSteps.nd
      case k3 => rfl
      case k4 => exact Or.inl rfl
      case k5 => exact Z0m (Z03 Z72) rfl ["tree", "walk", "waiting", "deed", "node", "inner"] rfl (by decide +kernel)
      case k6 => exact Z84 (Z07 GP hr1 (by rfl) mP FP.kp bP .nil Z0f (Z0j (pv 4) Z02))
      case k7 => exact fun cl C ex s0 H0 => ⟨Z0o (i := 0) (nd1 _) rfl (Or.inl rfl), Z2o, Z12 (Z0j (Z1t (v := .str "node") (by rfl) hNode ⟨tn, rfl⟩) (Z0j (pv 0) Z02))⟩
     case c2 =>
      refine' Z10 ?e (Z06 ?g) Z0g
      case e => exact Z0b Z1p (Z18 Z1s (pv 4) Z05 (fun _ _ => rfl)) Z09 (Z0k _)
      case g => exact Z0c (i := 5) scSteps.nd rfl (Or.inl rfl) (Z0y (Z08 (Z18 Z20 (pv 5) Z05 (fun _ _ => rfl)) (Zev (Z12 (Z0j (Z1t (v := .str "opened") (by rfl) hOpen ⟨to, rfl⟩) (Z0j (pv 4) Z02))) (Z08 (Z18 Z20 (pv 5) Z05 (fun _ _ => rfl)) (Zev (Z12 (Z0j (Z1t (v := .str "closed") (by rfl) hClose ⟨tc, rfl⟩) (Z0j (pv 4) Z02))) Z02)))))
     case c3 => exact Z31 (Z7j PySem.F.plainAttrs_list PySem.F.slot_list_extend PySem.F.type_list_extend Zcw (pv 2) (Z08 (Zko (pv 5) (Zf2 Zac Z05)) Z02))
   case s4 => exact Z0d (pv 1)
  case fin =>
   refine ⟨Nat.zero_le _, fun wk hwk => ?_⟩
   refine ⟨fun σ' H' => ∃ wt p0, σ' = [some v, some (.ref wk), some (.ref wt), none, none, none] /\ wk ≠ wt /\ H wt = none /\ Same H H' /\ H' wk = some (.lst []) /\ H' wt = some (.lst [.ref p0]) /\ H' p0 = some (.tup [.str "node", v]), ?_, ?_⟩
   ·refine ⟨_, rfl, (by show 2 <= sizeLine; decide), fun p0 hp0 => ⟨(by show 1 <= sizeLine; decide), fun wt hwt => ?_⟩⟩
    have s1 := Z01 (o := .lst []) hwk
    have s2 := s1.trans (Z01 (o := .tup [.str "node", v]) hp0)
    have e1 : upd (upd H wk (.lst [])) p0 (.tup [.str "node", v]) wk = some (.lst []) := Z01 hp0 _ _ Z00
    have s3 := Z01 (o := .lst [.ref p0]) hwt
    exact ⟨wt, p0, rfl, Z0h e1 hwt, Z5x s2 hwt, s2.trans s3, s3 _ _ e1, Z00, s3 _ _ Z00⟩
   rintro σ0 H1 ⟨wt, p0, rfl, hkt, hwt, s1, L1, W1, P1⟩
   refine Zd4 (fun m σ H' => ∃ (ws wl : List V) (st dn : List (Str × Th)) (o3 o4 o5 : Option V), σ = [some v, some (.ref wk), some (.ref wt), o3, o4, o5] /\ Same H H' /\ H' wt = some (.lst ws) /\ H' wk = some (.lst wl) ∧
     IsThs (off wk wt H') ws (prs st) /\ IsThs (off wk wt H') wl (prs dn) /\ dn ++ Z29 st = Z0e t /\ (∀ x ∈ st, Zip N x) /\ m = (Z29 st).length)
    (Z29 [("node", t)]).length ⟨[.ref p0], [], [("node", t)], [], none, none, none, rfl, s1, W1, L1, ?_, .nil, ?_, ?_, rfl⟩ ?_ ?_
   ·refine .cons (.tup (Z74 P1 (Z4r P1 L1 (by intro q; cases q)) (Z4r P1 W1 (by intro q; cases q))) (.cons (.at (Z2x (.inl rfl))) (.cons (IsTh.kp (Kp.of (Zky s1 hwk hwt)) ht) .nil))) .nil
   ·show Z29 ([] ++ [(("node" : Str), t)]) = _
    rw [Z4e, Z3n]
    show Z0e t ++ [] = _
    rw [List.append_nil]
   ·intro x hx
    rw [List.mem_singleton] at hx
    subst hx
    exact ⟨.inl rfl, hok, hz⟩
   ·rintro m σ H2 ⟨ws, wl, st, dn, o3, o4, o5, rfl, s2, W2, L2, hst, hdn, heq, hall, rfl⟩
    have hlt := Z64 t
    have hlen : dn.length + (Z29 st).length = (Z0e t).length := by rw [<- heq, List.length_append]
    have hstl := Zb0 st hall
    refine ⟨_, rfl, _, .inl ⟨ws, SqL.of W2, rfl⟩, ?_⟩
    cases hws : ws.isEmpty with
    | true =>
     have e : ws = [] := List.isEmpty_iff.mp hws
     subst e
     refine Z4w ?_
     have est : st = [] := by
      have := IsThs.len _ hst
      rw [List.length_map] at this
      exact List.eq_nil_of_length_eq_zero this.symm
     subst est
     have ed : dn = Z0e t := by rw [<- heq]; show dn = dn ++ []; rw [List.append_nil]
     subst ed
     exact ⟨_, rfl, k wk wl H2 s2 hwk L2 (IsThs.kp (Kp.of Z7o) hdn)⟩
    | false =>
     have hne : ws ≠ [] := fun z => by rw [z] at hws; cases hws
     obtain ⟨ws', y, st', d, n, a, vn, rfl, rfl, hst', rfl, ha, hvn⟩ := Zfk hst hne
     refine Z34 ?_
     refine ⟨_, rfl, .inl ⟨rfl, _, SqL.of W2⟩, wt, _, .ref a, rfl, rfl, W2, (by rw [List.length_append]; simp), ?_⟩
     rw [List.dropLast_concat]
     have hx := hall (d, n) (List.mem_append_right _ (List.mem_singleton.mpr rfl))
     have hall' : ∀ x ∈ st', Zip N x := fun x hx => hall x (List.mem_append_left _ hx)
     have hat : upd H2 wt (.lst ws') a = some (.tup [.str d, vn]) := by
      have h1 := Z7o _ _ ha
      rw [Z0a (Z4r h1 W2 (by intro q; cases q))]
      exact h1
     refine ⟨a, [.str d, vn], rfl, SqT.of hat, rfl, _, _, rfl, _, _, rfl, rfl, ?_⟩
     refine ⟨fun σ' H' => ∃ (wl' : List V), σ' = [some v, some (.ref wk), some (.ref wt), some (.str d), some vn, o5] /\ Same H H' /\ H' wt = some (.lst ws') /\ H' wk = some (.lst wl') ∧
      IsThs (off wk wt H') ws' (prs st') /\ IsThs (off wk wt H') wl' (prs (dn ++ [(d, n)])) /\ IsTh (off wk wt H') vn n, ?_, ?_⟩
     ·have eo : off wk wt (upd H2 wt (.lst ws')) = off wk wt H2 := Zaz
      have Lx : upd H2 wt (.lst ws') wk = some (.lst wl) := by rw [Z0a hkt]; exact L2
      have Wx : upd H2 wt (.lst ws') wt = some (.lst ws') := Z00
      have sx : Same H (upd H2 wt (.lst ws')) := fun b ob e => by rw [Z0a (Z0h e hwt)]; exact s2 b ob e
      rw [<- eo] at hst' hdn hvn
      generalize upd H2 wt (.lst ws') = H3 at Lx Wx sx hst' hdn hvn ⊢
      refine ⟨_, rfl, .inl ⟨rfl, _, SqL.of Lx⟩, _, rfl, _, rfl, (by show 2 <= sizeLine; decide), fun q hq => ?_⟩
      have sq := Z01 (o := .tup [.str d, vn]) hq
      have hqk : q ≠ wk := fun z => by rw [z, Lx] at hq; cases hq
      have hqt : q ≠ wt := fun z => by rw [z, Wx] at hq; cases hq
      have hll := IsThs.len _ hdn
      rw [List.length_map] at hll
      rw [List.length_append] at hstl
      simp only [List.length_singleton] at hstl
      refine ⟨wk, wl, .ref q, rfl, rfl, sq _ _ Lx, by omega, ?_⟩
      have so := Z2b (a := wk) (b := wt) sq
      have eo2 : off wk wt (upd (upd H3 q (.tup [.str d, vn])) wk (.lst (wl ++ [.ref q]))) = off wk wt (upd H3 q (.tup [.str d, vn])) := Zfj
      refine ⟨wl ++ [.ref q], rfl, ?_, ?_, Z00, ?_, ?_, ?_⟩
      ·intro b ob e
       rw [Z0a (Z0h e hwk)]
       exact sq _ _ (sx _ _ e)
      ·rw [Z0a hkt.symm]
       exact sq _ _ Wx
      ·rw [eo2]; exact IsThs.kp (Kp.of so) hst'
      ·rw [eo2]
       unfold prs
       rw [List.map_append]
       refine IsThs.app _ (IsThs.kp (Kp.of so) hdn) (.cons (.tup (Z74 Z00 hqk hqt) (.cons (.at (Z2x hx.1)) (.cons (IsTh.kp (Kp.of so) hvn) .nil))) .nil)
      ·rw [eo2]; exact IsTh.kp (Kp.of so) hvn
     clear hst hdn ha hvn hat hst' W2 L2 s2
     rintro σ3 H3 ⟨wl', rfl, s3, W3, L3, hst3, hdn3, hvn3⟩
     refine ⟨_, rfl, rfl, _, rfl, Z14 (fun g => ?_) (fun g => ?_)⟩
     ·have hd : d = "node" := by
       have g' := of_decide_eq_true g
       injection g'
      subst hd
      obtain ⟨_, hokn, hzn⟩ := hx
      obtain ⟨N', rfl⟩ : ∃ N', N = N' + 1 := by
       cases N with
       | zero => exact hokn.elim
       | succ N' => exact ⟨N', rfl⟩
      obtain ⟨w0, xs, rfl, hlet, hkid⟩ := hokn
      simp only [] at hzn
      have hxs : Th.sz (.tup (.at (.str w0) :: xs)) = 1 + (1 + szs xs) := by simp only [Th.sz, szs]
      have hxl := Z1b xs
      have hkl : (Z0r xs).length <= 100000 := by
       have h1 := List.length_filter_le isTup xs
       show (xs.filter isTup).length <= _
       omega
      have hkok : ∀ k ∈ Z0r xs, OkT N' k /\ Th.sz k <= 100000 := fun k hk => by
       have hk' : k ∈ xs /\ isTup k = true := List.mem_filter.mp hk
       have := Z6z xs k hk'.1
       exact ⟨hkid k hk'.1 hk'.2, by omega⟩
      refine ⟨fun σ' H' => ∃ (l : Addr) (ys : List V), σ' = [some v, some (.ref wk), some (.ref wt), some (.str "node"), some vn, some (.ref l)] /\ Same H3 H' /\ H' l = some (.lst ys) /\ H3 l = none /\ IsThs (off wk wt H') ys (prs ((Z0r xs).map fun k => (("node" : Str), k))), ?_, ?_⟩
      ·refine ⟨_, rfl, off wk wt H3, vn, .at (.str w0) :: xs, rfl, Z7o, hvn3, by rw [List.length_cons]; omega, fun p ps H4 s4 hp4 hps => ?_⟩
       rw [Z1c] at hps
       have hpl := IsThs.len _ hps
       refine ⟨p, rfl, ⟨_, SqT.of hp4⟩, Z4a (K := K) (a := p) (xs := ps) (fun i ys σc H' => ∃ o, σc = [o] /\ Same H4 H' /\ ys.length = i /\ IsThs (off wk wt H') ys (prs (((Z0r xs).take i).map fun k => (("node" : Str), k))))
        ⟨none, rfl, Same.refl _, rfl, by rw [List.take_zero]; exact .nil⟩ (fun i ys σc H' ⟨_, _, e, _⟩ => SqT.of (e _ _ hp4)) ?_ ?_⟩
       ·rintro i x ys σc H' hxi hi ⟨o, rfl, s5, hyl, hys⟩
        obtain ⟨kd, hk, h1⟩ := Z22 _ hps hxi
        refine ⟨by omega, _, rfl, (by show 2 <= sizeLine; decide), fun q hq => ?_⟩
        have sq := Z01 (o := .tup [.str "node", x]) hq
        have so := Z2b (a := wk) (b := wt) sq
        have hqk : q ≠ wk := fun z => by rw [z, s5 _ _ (s4 _ _ L3)] at hq; cases hq
        have hqt : q ≠ wt := fun z => by rw [z, s5 _ _ (s4 _ _ W3)] at hq; cases hq
        refine nx hi ⟨_, rfl, s5.trans sq, by rw [List.length_append, hyl]; rfl, ?_⟩
        have e1 : ((Z0r xs).take (i + 1)) = (Z0r xs).take i ++ [kd] := by rw [List.take_add_one, hk]; rfl
        unfold prs
        rw [e1, List.map_append, List.map_append]
        refine IsThs.app _ (IsThs.kp (Kp.of so) hys) (.cons (.tup (Z74 Z00 hqk hqt) (.cons (.at (Z2x (.inl rfl))) (.cons (IsTh.kp (Kp.of (Z2b ((s4.trans s5).trans sq))) h1) .nil))) .nil)
       ·rintro ys σc H' ⟨o, rfl, s5, hyl, hys⟩ l hl
        rw [List.take_of_length_le (by omega)] at hys
        have sl := Z01 (o := .lst ys) hl
        refine ⟨l, ys, rfl, (s4.trans s5).trans sl, Z00, Z5x (s4.trans s5) hl, IsThs.kp (Kp.of (Z2b sl)) hys⟩
      rintro σ4 H4 ⟨l, ys, rfl, s4, hl4, hl3, hys4⟩
      have hlk : l ≠ wk := fun z => by rw [z, L3] at hl3; cases hl3
      have hlt' : l ≠ wt := fun z => by rw [z, W3] at hl3; cases hl3
      obtain ⟨an, vns, evn, han, hvns⟩ := Z1v hvn3
      cases hvns with
      | @cons vh vr _ _ c1 c2 =>
       obtain ⟨rfl, _⟩ := Z40 c1
       have han3 := Z7o _ _ han
       refine ⟨fun σ' H' => ∃ (l : Addr) (ys : List V) (ps : List (Str × Th)), σ' = [some v, some (.ref wk), some (.ref wt), some (.str "node"), some vn, some (.ref l)] /\ Same H3 H' /\ H' l = some (.lst ys) /\ IsThs (off wk wt H') ys (prs ps) ∧
        Z29 (st' ++ [(("node" : Str), .tup (.at (.str w0) :: xs))]) = (("node" : Str), .tup (.at (.str w0) :: xs)) :: Z29 (st' ++ ps.reverse) /\ ∀ x ∈ ps, Zip (N' + 1) x, ?_, ?_⟩
       ·have hself : Zip (N' + 1) ("opened", .tup (.at (.str w0) :: xs)) /\ Zip (N' + 1) ("closed", .tup (.at (.str w0) :: xs)) :=
         ⟨⟨.inr (.inl rfl), ⟨w0, xs, rfl, hlet, hkid⟩, hzn⟩, ⟨.inr (.inr rfl), ⟨w0, xs, rfl, hlet, hkid⟩, hzn⟩⟩
        refine ⟨_, rfl, an, _, 0, .str w0, evn, rfl, SqT.of (s4 _ _ han3), Z1w _ _, rfl, _, rfl, Z14 (fun g2 => ?_) (fun g2 => ?_)⟩
        ·have hw0 : w0 = "let" := by
          have g' := of_decide_eq_true g2
          injection g'
         have h2 := hlet hw0
         obtain ⟨k1, k2, hk12⟩ : ∃ k1 k2, Z0r xs = [k1, k2] := by
          match hq : Z0r xs, h2 with
          | [k1, k2], _ => exact ⟨k1, k2, rfl⟩
         rw [hk12] at hys4 hkok
         cases hys4 with
         | @cons y1 yr _ _ d1 d2 =>
          cases d2 with
          | @cons y2 yr2 _ _ d3 d4 =>
           cases d4
           refine ⟨_, rfl, l, _, 0, y1, rfl, rfl, SqL.of hl4, Z1w _ _, _, rfl, (by show 2 <= sizeLine; decide), fun q1 hq1 => ?_⟩
           have sq1 := Z01 (o := .tup [.str "opened", vn]) hq1
           refine ⟨_, rfl, l, _, 1, y2, rfl, rfl, SqL.of (sq1 _ _ hl4), Zio _ _ _, _, rfl, (by show 2 <= sizeLine; decide), fun q2 hq2 => ?_⟩
           have sq2 := Z01 (o := .tup [.str "closed", vn]) hq2
           refine ⟨(by show 4 <= sizeLine; decide), fun l2 hl2 => ?_⟩
           have sq3 := Z01 (o := .lst [y1, .ref q1, y2, .ref q2]) hl2
           have sA := (sq1.trans sq2).trans sq3
           have hq1k : q1 ≠ wk := fun z => by rw [z, s4 _ _ L3] at hq1; cases hq1
           have hq1t : q1 ≠ wt := fun z => by rw [z, s4 _ _ W3] at hq1; cases hq1
           have hq2k : q2 ≠ wk := fun z => by rw [z, sq1 _ _ (s4 _ _ L3)] at hq2; cases hq2
           have hq2t : q2 ≠ wt := fun z => by rw [z, sq1 _ _ (s4 _ _ W3)] at hq2; cases hq2
           have oA := Z2b (a := wk) (b := wt) sA
           have hvA := IsTh.kp (Kp.of (Z2b (a := wk) (b := wt) (s4.trans sA))) hvn3
           refine ⟨l2, _, [("node", k1), ("opened", .tup (.at (.str w0) :: xs)), ("node", k2), ("closed", .tup (.at (.str w0) :: xs))], rfl, s4.trans sA, Z00, ?_, ?_, ?_⟩
           ·exact .cons (IsTh.kp (Kp.of oA) d1) (.cons (.tup (Z74 (sq3 _ _ (sq2 _ _ Z00)) hq1k hq1t) (.cons (.at (Z2x (.inr (.inl rfl)))) (.cons hvA .nil))) (.cons (IsTh.kp (Kp.of oA) d3) (.cons (.tup (Z74 (sq3 _ _ Z00) hq2k hq2t) (.cons (.at (Z2x (.inr (.inr rfl)))) (.cons hvA .nil))) .nil)))
           ·exact Zfg (by rw [Z8t, hw0]; decide +kernel) (by rw [Z1c, hk12])
           ·intro x hx
            have o1 := hkok k1 (by simp)
            have o2 := hkok k2 (by simp)
            simp only [List.mem_cons, List.not_mem_nil, or_false] at hx
            rcases hx with rfl | rfl | rfl | rfl
            ·exact ⟨.inl rfl, o1.1.up, o1.2⟩
            ·exact hself.1
            ·exact ⟨.inl rfl, o2.1.up, o2.2⟩
            ·exact hself.2
        ·have hw0 : w0 ≠ "let" := fun z => g2 (by rw [z]; decide +kernel)
         refine ⟨l, ys, (Z0r xs).map fun k => (("node" : Str), k), rfl, s4, hl4, hys4, ?_, ?_⟩
         ·have := Zc1 (st := st') (xs := .at (.str w0) :: xs) (by rw [Z8t]; exact decide_eq_false hw0)
          rw [Z1c] at this
          exact this
         ·intro x hx
          obtain ⟨kd, hk, rfl⟩ := List.mem_map.mp hx
          exact ⟨.inl rfl, (hkok kd hk).1.up, (hkok kd hk).2⟩
       clear hys4 hl4 s4 hl3 hlk hlt'
       rintro σ5 H5 ⟨l, ys, ps, rfl, s5, hl5, hys5, htodo, hps⟩
       have hyl := IsThs.len _ hys5
       rw [List.length_map] at hyl
       have hnew : ∀ x ∈ st' ++ ps.reverse, Zip (N' + 1) x := fun x hx => by
        rcases List.mem_append.mp hx with z | z
        ·exact hall' x z
        ·exact hps x (List.mem_reverse.mp z)
       have hnl := Zb0 _ hnew
       rw [htodo] at hlen
       rw [List.length_cons] at hlen
       rw [List.length_append, List.length_reverse] at hnl
       have hwl := IsThs.len _ hst3
       rw [List.length_map] at hwl
       refine ⟨_, rfl, .inl ⟨rfl, _, SqL.of (s5 _ _ W3)⟩, _, rfl, _, rfl, rfl, l, ys, rfl, SqL.of hl5, fun p hp => ?_⟩
       have sp5 := Z01 (o := .lst ys.reverse) hp
       refine ⟨wt, p, ws', ys.reverse, rfl, rfl, sp5 _ _ (s5 _ _ W3), Z00, by rw [List.length_reverse]; omega, ?_⟩
       have eo : off wk wt (upd (upd H5 p (.lst ys.reverse)) wt (.lst (ws' ++ ys.reverse))) = off wk wt (upd H5 p (.lst ys.reverse)) := Zaz
       refine ⟨(Z29 (st' ++ ps.reverse)).length, by rw [htodo, List.length_cons]; omega, ws' ++ ys.reverse, wl', st' ++ ps.reverse, dn ++ [(("node" : Str), Th.tup (.at (.str w0) :: xs))], _, _, _, rfl, ?_, Z00, ?_, ?_, ?_, ?_, hnew, rfl⟩
       ·intro b ob e
        rw [Z0a (Z0h e hwt)]
        exact sp5 _ _ (s5 _ _ (s3 _ _ e))
       ·rw [Z0a hkt]
        exact sp5 _ _ (s5 _ _ L3)
       ·rw [eo]
        unfold prs
        rw [List.map_append, List.map_reverse]
        exact IsThs.app _ (IsThs.kp (Kp.of (Z2b (s5.trans sp5))) hst3) (Zim _ (IsThs.kp (Kp.of (Z2b sp5)) hys5))
       ·rw [eo]
        exact IsThs.kp (Kp.of (Z2b (s5.trans sp5))) hdn3
       ·rw [<- heq, htodo, List.append_assoc]
        rfl
     ·have hd : d ≠ "node" := fun z => g (by rw [z]; decide +kernel)
      have e1 : Z29 (st' ++ [(d, n)]) = (d, n) :: Z29 st' := by
       rw [Z4e]
       unfold Z51
       rw [if_neg hd]
       rfl
      refine ⟨(Z29 st').length, by rw [e1, List.length_cons]; omega, ws', wl', st', dn ++ [(d, n)], _, _, _, rfl, s3, W3, L3, hst3, hdn3, ?_, hall', rfl⟩
      rw [<- heq, e1, List.append_assoc]
      rfl
   ·rintro σ H1 Q1 Q2 hq ⟨u1, e1, b1, e2, q⟩
    exact ⟨u1, e1, b1, e2, hq _ _ q⟩
end
inductive Wd where
 | num | name | op | pick | lett | sett | say | take | dow | again | call
 deriving DecidableEq
def kindOf (w : Str) : Option Wd :=
 if w = "num" then some .num else if w = "name" then some .name else if w = "op" then some .op else if w = "pick" then some .pick else if w = "let" then some .lett
 else if w = "set" then some .sett else if w = "say" then some .say else if w = "take" then some .take else if w = "do" then some .dow else if w = "again" then some .again
 else if w = "call" then some .call else none
section
variable (nm sg : Th -> Bool)
def Z11 (t : Th) (most : Option Int) : Bool := match t with
 | .at (.int i) => decide (0 <= i) && (match most with | none => true | some m => decide (i <= m))
 | _ => false
def rule : Wd -> Option (Th -> Bool) × Nat × Nat
 | .num => (some fun t => Z11 t (some 999999999), 0, 0)
 | .name => (some nm, 0, 0)
 | .op => (some sg, 2, 2)
 | .pick => (none, 3, 3)
 | .lett => (some nm, 2, 2)
 | .sett => (some nm, 1, 1)
 | .say => (none, 1, 1)
 | .take => (none, 0, 0)
 | .dow => (none, 1, 6)
 | .again => (some fun t => Z11 t (some 5), 1, 1)
 | .call => (some nm, 0, 6)
def Zdi (r : Option (Th -> Bool) × Nat × Nat) (inner : List Th) : Bool := match r with
 | (none, lo, hi) => decide (lo <= inner.length) && decide (inner.length <= hi) && inner.all isTup
 | (some f, lo, hi) => match inner with
  | [] => false
  | x :: rest => f x && (decide (lo <= rest.length) && decide (rest.length <= hi) && rest.all isTup)
def Z3t : Th -> Bool
 | .tup (.at (.str w) :: inner) => match kindOf w with
  | none => false
  | some k => Zdi (rule nm sg k) inner
 | _ => false
mutual
def Z5i : Th -> Bool
 | .at _ => false
 | .lst _ => false
 | .tup xs => Z3t nm sg (.tup xs) && Z8u xs
def Z8u : List Th -> Bool
 | [] => true
 | x :: xs => (if isTup x = true then Z5i x else true) && Z8u xs
end
end
def Z4i : Th -> Bool
 | .at (.int _) => true
 | _ => false
theorem Zb1 (t : Th) : (Zd8 t && !Zkt t) = Z4i t := by
 cases t with
 | «at» v => cases v <;> rfl
 | tup xs => rfl
 | lst xs => rfl
def Z3i (p : Th -> Bool) : Sp := fun vs H Q _ => ∃ (v : V) (t : Th), vs = [v] /\ IsTh H v t /\ ∀ H', Same H H' -> Q (.bl (p t)) H'
section
variable {P : Program} {w : World} {K : PySem.W.Frag} {mg : Str -> Option Value} {base : Heap}
theorem Ziq : FnScope ["thing"] ["thing"] (Z03 Z73) := ⟨rfl, rfl, rfl, by decide +kernel, rfl, by decide +kernel, by decide +kernel⟩
theorem Zb2 {f : Addr} {fd : FuncData} (F : Fun K "is_whole" "is_whole" Z73 f fd) (T : TxtT mg) (KI : Kits K) : FnOk P w K mg base CX0 1 f fd ["thing"] (Z3i Z4i) := by
 refine F.ok Ziq (fun vs H Q E h => ?_) (fun cdv A outer s H vs Q E hr h => ?_)
 ·obtain ⟨v, t, rfl, _⟩ := h
  rfl
 ·obtain ⟨v, t, rfl, ht, k⟩ := h
  refine ⟨_, Z06 (Z0d (Z2r (Z0i Z0t (by rfl) T.isi (by decide +kernel) (Z0j (pv 0) (Z0j (Z1i (v := .ty "int") (by rfl) T.int (by decide +kernel) rfl) Z02)))
   (Z39 (Zch (Z0i Z0t (by rfl) T.isi (by decide +kernel) (Z0j (pv 0) (Z0j (Z1i (v := .ty "bool") (by rfl) T.bl (by decide +kernel) rfl) Z02))))))), ?_⟩
  have kk := Zb1 t
  refine ⟨_, rfl, _, _, _, _, rfl, Z35 ht, KI.int ht, _, rfl, Z14 (fun g => ?_) (fun g => ?_)⟩
  ·refine ⟨_, rfl, _, _, _, _, rfl, Z35 ht, KI.bl ht, _, rfl, ?_⟩
   rw [g, Bool.true_and] at kk
   rw [kk]
   exact k H (Same.refl H)
  ·rw [show Zd8 t = false by simpa using g, Bool.false_and] at kk
   rw [kk]
   exact k H (Same.refl H)
end
section
variable {P : Program} {w : World} {K : PySem.W.Frag} {mg : Str -> Option Value} {base : Heap}
theorem Zir : FnScope ["thing"] ["thing"] (Z03 Zaw) := ⟨rfl, rfl, rfl, by decide +kernel, rfl, by decide +kernel, by decide +kernel⟩
theorem Z66 {t : Th} {H : Hp} {v : V} (h : IsTh H v t) (g : Z4i t = true) : ∃ i : Int, v = .int i /\ t = .at (.int i) := by
 cases h with
 | «at» f =>
  cases v with
  | int i => exact ⟨i, rfl, rfl⟩
  | _ => exact absurd (show false = true from g) Bool.false_ne_true
 | tup e r => exact absurd (show false = true from g) Bool.false_ne_true
 | lst e r => exact absurd (show false = true from g) Bool.false_ne_true
theorem Z7p {t : Th} (g : Z4i t = false) (m : Option Int) : Z11 t m = false := by
 cases t with
 | «at» v =>
  cases v with
  | int i => exact absurd (show true = false from g) (by decide)
  | _ => rfl
 | tup xs => rfl
 | lst xs => rfl
theorem Zfm {f fW : Addr} {fd dW : FuncData} {tk : Tok} (F : Fun K "is_value" "is_value" Zaw f fd) (T : TxtT mg) (KI : Kits K) (FW : Fun K "is_whole" "is_whole" Z73 fW dW) (bW : Binds K dW ["thing"] []) (mW : mg "is_whole" = some (.ref fW))
  (hG : mg "GREATEST_VALUE" = some (.int 999999999 tk)) : FnOk P w K mg base CX0 2 f fd ["thing"] (Z3i fun t => Z11 t (some 999999999)) := by
 have GW : FnOk P w K mg base CX0 1 fW dW ["thing"] (Z3i Z4i) := Zb2 FW T KI
 refine F.ok Zir (fun vs H Q E h => ?_) (fun cdv A outer s H vs Q E hr h => ?_)
 ·obtain ⟨v, t, rfl, _⟩ := h
  rfl
 ·obtain ⟨v, t, rfl, ht, k⟩ := h
  refine ⟨_, Z06 (Z0d (Z2r (Z07 GW hr (by rfl) mW FW.kp bW .nil Z0f (Z0j (pv 0) Z02)) (Z39 (Z45 Z6g Z6g Z05 (pv 0) (Z1t (v := .int 999999999) (by rfl) hG ⟨tk, rfl⟩))))), ?_⟩
  refine ⟨_, rfl, v, t, rfl, ht, fun H1 s1 => ⟨_, rfl, Z14 (fun g => ?_) (fun g => ?_)⟩⟩
  ·obtain ⟨i, rfl, rfl⟩ := Z66 ht g
   refine ⟨_, rfl, _, _, rfl, rfl, _, rfl, Z14 (fun g1 => ?_) (fun g1 => ?_)⟩
   ·refine ⟨_, _, rfl, rfl, ?_⟩
    have e : Z11 (.at (.int i)) (some 999999999) = decide (i <= 999999999) := by
     show (decide (0 <= i) && decide (i <= 999999999)) = _
     rw [g1, Bool.true_and]
    show Q (.bl (decide (i <= 999999999))) H1
    rw [<- e]
    exact k H1 s1
   ·have e : Z11 (.at (.int i)) (some 999999999) = false := by
     show (decide (0 <= i) && decide (i <= 999999999)) = _
     rw [show decide (0 <= i) = false by simpa using g1, Bool.false_and]
    exact e ▸ k H1 s1
  ·have e := Z7p (show Z4i t = false by simpa using g) (some 999999999)
   exact e ▸ k H1 s1
theorem Zis : FnScope ["thing"] ["thing"] (Z03 Zax) := ⟨rfl, rfl, rfl, by decide +kernel, rfl, by decide +kernel, by decide +kernel⟩
theorem Zfn {f fW : Addr} {fd dW : FuncData} {tk : Tok} (F : Fun K "is_times" "is_times" Zax f fd) (T : TxtT mg) (KI : Kits K) (FW : Fun K "is_whole" "is_whole" Z73 fW dW) (bW : Binds K dW ["thing"] []) (mW : mg "is_whole" = some (.ref fW))
  (hG : mg "MOST_TIMES" = some (.int 5 tk)) : FnOk P w K mg base CX0 2 f fd ["thing"] (Z3i fun t => Z11 t (some 5)) := by
 have GW : FnOk P w K mg base CX0 1 fW dW ["thing"] (Z3i Z4i) := Zb2 FW T KI
 refine F.ok Zis (fun vs H Q E h => ?_) (fun cdv A outer s H vs Q E hr h => ?_)
 ·obtain ⟨v, t, rfl, _⟩ := h
  rfl
 ·obtain ⟨v, t, rfl, ht, k⟩ := h
  refine ⟨_, Z06 (Z0d (Z2r (Z07 GW hr (by rfl) mW FW.kp bW .nil Z0f (Z0j (pv 0) Z02)) (Z39 (Z45 Z6g Z6g Z05 (pv 0) (Z1t (v := .int 5) (by rfl) hG ⟨tk, rfl⟩))))), ?_⟩
  refine ⟨_, rfl, v, t, rfl, ht, fun H1 s1 => ⟨_, rfl, Z14 (fun g => ?_) (fun g => ?_)⟩⟩
  ·obtain ⟨i, rfl, rfl⟩ := Z66 ht g
   refine ⟨_, rfl, _, _, rfl, rfl, _, rfl, Z14 (fun g1 => ?_) (fun g1 => ?_)⟩
   ·refine ⟨_, _, rfl, rfl, ?_⟩
    have e : Z11 (.at (.int i)) (some 5) = decide (i <= 5) := by
     show (decide (0 <= i) && decide (i <= 5)) = _
     rw [g1, Bool.true_and]
    show Q (.bl (decide (i <= 5))) H1
    rw [<- e]
    exact k H1 s1
   ·have e : Z11 (.at (.int i)) (some 5) = false := by
     show (decide (0 <= i) && decide (i <= 5)) = _
     rw [show decide (0 <= i) = false by simpa using g1, Bool.false_and]
    exact e ▸ k H1 s1
  ·have e := Z7p (show Z4i t = false by simpa using g) (some 5)
   exact e ▸ k H1 s1
def signsL : List Str := ["+", "-", "*", "/", "<", "="]
def signB : Th -> Bool
 | .at (.str x) => inV (.str x) (signsL.map V.str)
 | _ => false
theorem Z1l (ts : List Str) : (ts.map V.str).all Z33 = true := by
 rw [List.all_map]; exact List.all_eq_true.mpr fun _ _ => rfl
theorem Zkz : FnScope ["thing"] ["thing"] (Z03 Zfi) := ⟨rfl, rfl, rfl, by decide +kernel, rfl, by decide +kernel, by decide +kernel⟩
theorem Z8v {t : Th} {H : Hp} {v : V} (h : IsTh H v t) (g : Z4h t = true) : ∃ x : Str, v = .str x /\ t = .at (.str x) /\ x.length <= 1000 := by
 cases h with
 | «at» f =>
  cases v with
  | str x => exact ⟨x, rfl, rfl, of_decide_eq_true f⟩
  | _ => exact absurd (show false = true from g) Bool.false_ne_true
 | tup e r => exact absurd (show false = true from g) Bool.false_ne_true
 | lst e r => exact absurd (show false = true from g) Bool.false_ne_true
theorem Zit {t : Th} (g : Z4h t = false) : signB t = false := by
 cases t with
 | «at» v =>
  cases v with
  | str x => exact absurd (show true = false from g) (by decide)
  | _ => rfl
 | tup xs => rfl
 | lst xs => rfl
theorem Ziu {f aS : Addr} {fd : FuncData} (F : Fun K "is_sign" "is_sign" Zfi f fd) (T : TxtT mg) (KI : Kits K) (mS : mg "SIGNS" = some (.ref aS)) (hS : ∀ H, SqT K H aS (signsL.map V.str)) :
  FnOk P w K mg base CX0 1 f fd ["thing"] (Z3i signB) := by
 refine F.ok Zkz (fun vs H Q E h => ?_) (fun cdv A outer s H vs Q E hr h => ?_)
 ·obtain ⟨v, t, rfl, _⟩ := h
  rfl
 ·obtain ⟨v, t, rfl, ht, k⟩ := h
  refine ⟨_, Z06 (Z0d (Z2r (Z0i Z0t (by rfl) T.isi (by decide +kernel) (Z0j (pv 0) (Z0j (Z1i (v := .ty "str") (by rfl) T.str (by decide +kernel) rfl) Z02)))
   (Z39 (Z2n Z1k (pv 0) (Z1t (v := .ref aS) (by rfl) mS rfl) (by with_unfolding_all rfl))))), ?_⟩
  refine ⟨_, rfl, _, _, _, _, rfl, Z35 ht, KI.str ht, _, rfl, Z14 (fun g => ?_) (fun g => ?_)⟩
  ·obtain ⟨x, rfl, rfl, hx⟩ := Z8v ht g
   exact ⟨_, rfl, aS, signsL.map V.str, rfl, .inr (hS H), rfl, Z1l _, k H (Same.refl H)⟩
  ·have e := Zit (show Z4h t = false by simpa using g)
   exact e ▸ k H (Same.refl H)
end
def wordsV : List V := [.str "num", .str "name", .str "op", .str "pick", .str "let", .str "set", .str "say", .str "take", .str "do", .str "again", .str "call", .str "own", .str "hole"]
def az (c : Nat) : Bool := decide (97 <= c) && decide (c <= 122)
def Z13 (x : Str) : Bool := decide (1 <= x.length) && (decide (x.length <= 8) && (!inV (.str x) wordsV && x.cps.toList.all az))
theorem Zmy : ("a" : Str).cps.toList = [97] := by decide +kernel
theorem Zmz : ("z" : Str).cps.toList = [122] := by decide +kernel
theorem Zhd (a b : Nat) : ([a] < [b]) ↔ a < b := by simp [List.cons_lt_cons_iff]
theorem Zm6 (c : Nat) : decide ((⟨#[c]⟩ : Str).cps.toList < ("a" : Str).cps.toList) = decide (c < 97) := by
 rw [Zmy]
 show decide ([c] < [97]) = _
 exact decide_eq_decide.mpr (Zhd _ _)
theorem Zn0 (c : Nat) : decide (("z" : Str).cps.toList < (⟨#[c]⟩ : Str).cps.toList) = decide (122 < c) := by
 rw [Zmz]
 show decide ([122] < [c]) = _
 exact decide_eq_decide.mpr (Zhd _ _)
theorem Z8w {α β : Type} {l : List α} {i : Nat} {c : α} (f : α -> β) (h : l[i]? = some c) : (l.take (i + 1)).map f = (l.take i).map f ++ [f c] := by
 rw [List.take_add_one, h]; simp
theorem Z55 {α β : Type} {l : List α} {i : Nat} {c : α} (p : α -> Bool) (f : α -> β) (h : l[i]? = some c) : ((l.take (i + 1)).filter p).map f = ((l.take i).filter p).map f ++ (if p c = true then [f c] else []) := by
 rw [List.take_add_one, h, List.filter_append, List.map_append]
 cases hp : p c <;> simp [hp]
theorem Z8x : wordsV.all Z33 = true := by decide +kernel
theorem Z7q (K : PySem.W.Frag) (T : String) : PySem.W.kitOne K (.type T) (.type T) = some true := by
 unfold PySem.W.kitOne
 rw [if_pos (beq_self_eq_true _)]
def Zn1 (K : PySem.W.Frag) (H : Hp) (v : V) : Prop := ∃ ty, TyOf K H v ty /\ PySem.W.kitOne K ty (.type "str") = some false
def Zhe (K : PySem.W.Frag) : Sp := fun vs H Q _ => ∃ v, vs = [v] /\ ((∃ x : Str, v = .str x /\ x.length <= 1000 /\ ∀ H', Same H H' -> Q (.bl (Z13 x)) H') ∨ (Zn1 K H v /\ ∀ H', Same H H' -> Q (.bl false) H'))
structure TxtN (K : PySem.W.Frag) (mg : Str -> Option Value) (aW : Addr) : Prop where
 len : mg "len" = none
 isi : mg "isinstance" = none
 str : mg "str" = none
 all : mg "all" = none
 long : ∃ tk, mg "LONGEST_NAME" = some (.int 8 tk)
 words : mg "WORDS" = some (.ref aW)
 tup : ∀ H, SqT K H aW wordsV
theorem Z8y {x : Str} (h : x.length <= 1000) : x.length <= sizeLine := Nat.le_trans h (by decide)
section
variable {P : Program} {w : World} {K : PySem.W.Frag} {mg : Str -> Option Value} {base : Heap}
theorem Zl0 : FnScope ["thing"] ["thing"] (Z03 Z53) := ⟨rfl, rfl, rfl, by decide +kernel, rfl, by decide +kernel, by decide +kernel⟩
theorem Ziv {f aW : Addr} {fd : FuncData} (F : Fun K "is_name" "is_name" Z53 f fd) (T : TxtN K mg aW) : FnOk P w K mg base CX0 1 f fd ["thing"] (Zhe K) := by
 refine F.ok Zl0 (fun vs H Q E h => ?_) (fun cdv A outer s H vs Q E hr h => ?_)
 ·obtain ⟨v, rfl, _⟩ := h
  rfl
 ·obtain ⟨v, rfl, h⟩ := h
  obtain ⟨tk, hlong⟩ := T.long
  refine ⟨_, Z04 (Z10 (Z3r (Z2q (Z2c (Z0i Z0t (by rfl) T.isi (by decide +kernel) (Z08 (pv 0) (Z08 (Z1i (v := .ty "str") (by rfl) T.str (by decide +kernel) rfl) Z02)))))
    (Z3r (Z2q (Zf3 Z6g Z6g Z05 (Z0i Z2i (by rfl) T.len PySem.boot_len (Z08 (pv 0) Z02)) (Z1t (v := .int 8) (by rfl) hlong ⟨tk, rfl⟩)))
    (Z3u (Z0b Z1k (pv 0) (Z1t (v := .ref aW) (by rfl) T.words rfl) (by with_unfolding_all rfl))))).pt (Z06 (Z0d Z28)) Z0g) <|
   Z06 (Z0d (Z0i (Z5t rfl) (by rfl) T.all (by decide +kernel) (Z08 (Z21 (N' := ["sign"]) (src := [none]) rfl (Z0m (Z03 Z53) rfl ["thing"] rfl (by decide +kernel)) (Zh7 (pv 0))
    (fun cl C ex s0 H0 => ⟨Z0o (i := 0) (nd1 _) rfl (Or.inl rfl), Z2o, Z45 Z8l Z8l Z09 (pv 0) Z09⟩)) Z02))), ?_⟩
  rcases h with ⟨x, rfl, hx, k⟩ | ⟨⟨ty, hty, hk⟩, k⟩
  ·have hl := Z8y hx
   refine ⟨_, rfl, _, _, .type "str", true, rfl, .str x, Z7q _ _, _, rfl, Z4w ?_⟩
   refine ⟨_, rfl, x, rfl, hl, _, _, rfl, rfl, _, rfl, ?_⟩
   refine Z14 (fun h1 => ?_) (fun h1 => ?_)
   ·refine ⟨_, _, rfl, rfl, _, rfl, ?_⟩
    refine Z14 (fun h2 => ?_) (fun h2 => ?_)
    ·refine Z34 ?_
     have e : Z13 x = false := by
      unfold Z13
      have : decide (x.length <= 8) = false := by
       rw [decide_eq_false_iff_not]
       intro z
       rw [Bool.not_eq_true', decide_eq_false_iff_not] at h2
       exact h2 (by omega)
      rw [this, Bool.false_and, Bool.and_false]
     rw [e] at k
     exact k H (Same.refl H)
    ·refine ⟨_, rfl, aW, wordsV, rfl, .inr (T.tup H), rfl, Z8x, _, rfl, ?_⟩
     refine Z14 (fun h3 => ?_) (fun h3 => ?_)
     ·have e : Z13 x = false := by
       unfold Z13
       have h3' : inV (.str x) wordsV = true := h3
       rw [h3', Bool.not_true, Bool.false_and, Bool.and_false, Bool.and_false]
      rw [e] at k
      exact k H (Same.refl H)
     ·refine ⟨_, rfl, x, rfl, Zaq (x := x) (fun i ys σc H' => ∃ o, σc = [o] /\ ys = (x.cps.toList.take i).map (fun c => V.bl (az c)) /\ H' = H) ⟨none, rfl, rfl, rfl⟩ ?_ ?_⟩
      ·rintro i c ys σc H' hc hi ⟨o, rfl, rfl, rfl⟩
       have hc' : x.cps.toList[i]? = some c := by simpa using hc
       refine ⟨?_, ?_⟩
       ·rw [List.length_map, List.length_take]
        have h2 : x.cps.toList.length = x.length := by simp [Str.length]
        have h3 : x.cps.size = x.length := rfl
        have : sizeLine = 16777216 := sizeLine_eq
        omega
       ·refine ⟨_, rfl, _, _, rfl, rfl, _, rfl, ?_⟩
        refine Z14 (fun g1 => ?_) (fun g1 => ?_)
        ·refine ⟨_, _, rfl, rfl, nx hi ⟨_, rfl, ?_, rfl⟩⟩
         rw [Z8w _ hc', Zn0]
         rw [Zm6, Bool.not_eq_true', decide_eq_false_iff_not] at g1
         congr 2
         unfold az
         rw [decide_eq_true (show 97 <= c by omega), Bool.true_and]
         rw [show (!decide (122 < c)) = decide (c <= 122) by
          by_cases q : 122 < c
          ·rw [decide_eq_true q, decide_eq_false (by omega)]; rfl
          ·rw [decide_eq_false q, decide_eq_true (by omega)]; rfl]
        ·refine nx hi ⟨_, rfl, ?_, rfl⟩
         rw [Z8w _ hc']
         rw [Zm6, Bool.not_eq_true', decide_eq_false_iff_not] at g1
         congr 2
         unfold az
         rw [decide_eq_false (show ¬ 97 <= c by omega), Bool.false_and]
      ·rintro ys σc H' ⟨o, rfl, rfl, rfl⟩ l hl'
       refine ⟨l, x.cps.toList.map az, rfl, SqL.of ?_, ?_⟩
       ·rw [Z00, List.take_of_length_le (by simp), List.map_map]; rfl
       ·have e : Z13 x = (x.cps.toList.map az).all id := by
         unfold Z13
         have h1' : decide (1 <= x.length) = true := by
          rw [decide_eq_true_eq] at h1 ⊢
          omega
         have h2' : decide (x.length <= 8) = true := by
          rw [Bool.not_eq_true', decide_eq_false_iff_not, Classical.not_not] at h2
          rw [decide_eq_true_eq]
          omega
         have h3' : inV (.str x) wordsV = false := by
          cases q : inV (.str x) wordsV with
          | false => rfl
          | true => exact absurd q h3
         rw [h1', h2', h3', List.all_map]
         rfl
        rw [<- e]
        exact k _ (Z01 hl')
   ·refine ⟨_, rfl, Z34 (Z34 ?_)⟩
    have e : Z13 x = false := by
     unfold Z13
     have : decide (1 <= x.length) = false := by
      rw [decide_eq_true_eq] at h1
      rw [decide_eq_false_iff_not]
      omega
     rw [this, Bool.false_and]
    rw [e] at k
    exact k H (Same.refl H)
  ·refine ⟨_, rfl, _, _, ty, false, rfl, hty, hk, _, rfl, Z34 (Z34 ?_)⟩
   exact k H (Same.refl H)
def nameB : Th -> Bool
 | .at (.str x) => Z13 x
 | _ => false
theorem Zdj {t : Th} (g : Z4h t = false) : nameB t = false := by
 cases t with
 | «at» v =>
  cases v with
  | str x => exact absurd (show true = false from g) (by decide)
  | _ => rfl
 | tup xs => rfl
 | lst xs => rfl
theorem Zfo {f aW : Addr} {fd : FuncData} (F : Fun K "is_name" "is_name" Z53 f fd) (T : TxtN K mg aW) (KI : Kits K) : FnOk P w K mg base CX0 1 f fd ["thing"] (Z3i nameB) :=
 (Ziv F T).imp fun vs H Q E h => by
  obtain ⟨v, t, rfl, ht, k⟩ := h
  refine ⟨v, rfl, ?_⟩
  cases g : Z4h t with
  | true =>
   obtain ⟨x, rfl, rfl, hx⟩ := Z8v ht g
   exact .inl ⟨x, rfl, hx, k⟩
  | false =>
   refine .inr ⟨⟨_, Z35 ht, by rw [KI.str ht, g]⟩, fun H' s => ?_⟩
   have e := Zdj g
   exact e ▸ k H' s
end
section
variable {P : Program} {w : World} {K : PySem.W.Frag} {mg : Str -> Option Value} {base : Heap}
def Zb3 (K : PySem.W.Frag) (fits : Addr -> Th -> Bool) (Pf : Addr -> Prop) (v : V) : Option (Option (Th -> Bool) × Nat × Nat) -> Prop
 | none => v = .non
 | some (fo, lo, hi) => ∃ (a : Addr) (fv : V), v = .ref a /\ (∀ H, SqT K H a [fv, .int lo, .int hi]) /\ (match fo with
  | none => fv = .non
  | some p => ∃ f, fv = .ref f /\ Pf f /\ fits f = p)
structure Tables (K : PySem.W.Frag) (w : World) (mg : Str -> Option Value) (fits : Addr -> Th -> Bool) (Pf : Addr -> Prop) (aR : Addr) (kvR : List (Str × V)) : Prop where
 mR : mg "RULES" = some (.ref aR)
 dR : KDict K w aR kvR
 at_ : ∀ x : Str, Zb3 K fits Pf ((Zih kvR x).getD .non) ((kindOf x).map (rule nameB signB))
def Zc3 (kvR : List (Str × V)) : Sp := fun vs H Q _ => ∃ x : Str, vs = [.str x] /\ Q ((Zih kvR x).getD .non) H
def Z75 (K : PySem.W.Frag) (fits : Addr -> Th -> Bool) (Pf : Addr -> Prop) : Sp := fun vs H Q _ => ∃ x : Str, vs = [.str x] /\ ∀ v, Zb3 K fits Pf v ((kindOf x).map (rule nameB signB)) -> Q v H
variable {fits : Addr -> Th -> Bool} {Pf : Addr -> Prop} {aR : Addr} {kvR : List (Str × V)}
theorem Zc4 : FnScope ["word"] ["word"] (Z03 Z4f) := ⟨rfl, rfl, rfl, by decide +kernel, rfl, by decide +kernel, by decide +kernel⟩
theorem Z9p {f : Addr} {fd : FuncData} (F : Fun K "expression_rule" "expression_rule" Z4f f fd) (TA : Tables K w mg fits Pf aR kvR) : FnOk P w K mg base CX0 1 f fd ["word"] (Zc3 kvR) := by
 refine F.ok Zc4 (fun vs H Q E h => ?_) (fun cdv A outer s H vs Q E hr h => ?_)
 ·obtain ⟨x, rfl, _⟩ := h
  rfl
 ·obtain ⟨x, rfl, k⟩ := h
  refine ⟨_, Z06 (Z0d (Zfc (Z1t (v := .ref aR) (by rfl) TA.mR rfl) (pv 0) ⟨rfl, rfl, rfl, rfl⟩)), ?_⟩
  exact ⟨aR, kvR, rfl, TA.dR, _, rfl, x, rfl, k⟩
end
abbrev Z24 (t : Th) : Bool := Z3t nameB signB t
def Zhf (fR : Addr) : Sp := fun vs H Q _ => ∃ (v : V) (t : Th), vs = [v, .ref fR] /\ IsTh H v t /\ ∀ H', Same H H' -> Q (.bl (Z24 t)) H'
theorem Zn2 (v : V) (vs : List V) : Z3s (v :: vs) (some 1) none = vs := by
 have e1 : HT.sIx (v :: vs).length 0 (some 1) = 1 := by
  show min 1 (vs.length + 1) = 1
  omega
 have e2 : HT.sIx (v :: vs).length (v :: vs).length none = vs.length + 1 := rfl
 unfold Z3s
 rw [e1, e2]
 show List.take (vs.length + 1 - 1) vs = vs
 rw [Nat.add_sub_cancel, List.take_length]
theorem Zb4 (v : V) (vs : List V) (hi : Option Int) : ¬ (HT.sIx (v :: vs).length 0 (some 1) = 0 /\ HT.sIx (v :: vs).length (v :: vs).length hi = (v :: vs).length) := fun z => by
 have e1 : HT.sIx (v :: vs).length 0 (some 1) = 1 := by
  show min 1 (vs.length + 1) = 1
  omega
 rw [e1] at z
 cases z.1
section
variable {P : Program} {w : World} {K : PySem.W.Frag} {mg : Str -> Option Value} {base : Heap}
variable {fits : Addr -> Th -> Bool} {Pf : Addr -> Prop}
theorem scNode : FnScope ["thing", "rule_of", "rule", "fits", "least", "most", "inner"] ["thing", "rule_of"] (Z03 Zc2) := ⟨rfl, rfl, rfl, by decide +kernel, rfl, by decide +kernel, by decide +kernel⟩
def Zok (fR : Addr) (H : Hp) (v : V) (t : Th) : St -> Hp -> Prop := fun σ' H' => σ' = [some v, some (.ref fR), none, none, none, none, none] /\ H' = H ∧
 ∃ (x : Str) (a : Addr) (vs : List V) (ts : List Th), v = .ref a /\ t = .tup (.at (.str x) :: ts) /\ H a = some (.tup (.str x :: vs)) /\ IsThs H vs ts
def Zol (fR : Addr) (K : PySem.W.Frag) (H : Hp) (v : V) (t : Th) : St -> Hp -> Prop := fun σ' H' => ∃ (o2 o3 : Option V) (lo hi : Nat) (q : Addr) (rest : List V) (restT : List Th), σ' = [some v, some (.ref fR), o2, o3, some (.int lo), some (.int hi), some (.ref q)] /\ hi <= 6 /\ Same H H' ∧
 H' q = some (.tup rest) /\ IsThs H' rest restT /\ Z24 t = (decide (lo <= restT.length) && decide (restT.length <= hi) && restT.all isTup)
theorem Ziw {f fR : Addr} {fd dR : FuncData} (F : Fun K "is_node" "is_node" Zc2 f fd) (T : TxtT mg) (KI : Kits K)
  (GR : ∀ g, g = fR -> ∃ fd ps, FnOk P w K mg base CX0 2 g fd ps (Z75 K fits Pf) /\ PySem.W.keepIn K (.ref g) = true /\ Binds K fd ps [])
  (GF : ∀ g, Pf g -> ∃ fd ps, FnOk P w K mg base CX0 2 g fd ps (Z3i (fits g)) /\ PySem.W.keepIn K (.ref g) = true /\ Binds K fd ps []) :
  FnOk P w K mg base CX0 3 f fd ["thing", "rule_of"] (Zhf fR) := by
 refine F.ok scNode (fun vs H Q E h => ?_) (fun cdv A outer s H vs Q E hr h => ?_)
 ·obtain ⟨v, t, rfl, _⟩ := h
  rfl
 ·obtain ⟨v, t, rfl, ht, k⟩ := h
  have hsz : sizeLine = 16777216 := sizeLine_eq
  refine' ⟨?tt, ?body, ?fin⟩
  case body =>
   refine' Z0p ?s1 (Z04 ?s2 (Z04 ?s3 (Z04 ?s4 (Z04 ?s5 (Z0p ?s6 (Z06 ?s7))))))
   case s1 =>
    refine' Z10 ?c (Z06 (Z0d Z28)) Z0g
    case c =>
     exact (Z3r (Z2q (Z2c (Z0i Z0t (by rfl) T.isi (by decide +kernel) (Z0j (pv 0) (Z0j (Z1i (v := .ty "tuple") (by rfl) T.tup (by decide +kernel) rfl) Z02)))))
      (Z3r (Z0b Z1p (Z0i Z0w (by rfl) T.len PySem.boot_len (Z0j (pv 0) Z02)) Z05 (Z0k _))
      (Z3u (Z2q (Z2c (Z0i Z0t (by rfl) T.isi (by decide +kernel) (Z08 (Z18 Z1s (pv 0) Z05 (fun _ _ => rfl)) (Z0j (Z1i (v := .ty "str") (by rfl) T.str (by decide +kernel) rfl) Z02)))))))).pt
   case s2 => exact Z0c (i := 2) scNode.nd rfl (Or.inl rfl) (Zar (Pf := fun g => g = fR) (sp := fun _ => Z75 K fits Pf) GR hr Z0f (pv 1) (Z08 (Z18 Z1s (pv 0) Z05 (fun _ _ => rfl)) Z02))
   case s3 => exact Z10 (Zh0 (Zk7 (pv 2))) (Z06 (Z0d Z28)) Z0g
   case s4 => exact Zaa (pv 2) (Z6o rfl (Z1e (Z0o (i := 3) scNode.nd rfl (Or.inl rfl)) <| Z1e (Z0o (i := 4) scNode.nd rfl (Or.inl rfl)) <| Z1e (Z0o (i := 5) scNode.nd rfl (Or.inl rfl)) Z4t))
   case s5 => exact Z0c (i := 6) scNode.nd rfl (Or.inl rfl) (Z16 Zct (pv 0) (Z1q Z05) Z1u)
   case s6 =>
    refine' Z10 ?c (Z04 ?b1 (Z06 ?b2)) Z0g
    case c => exact Zh0 (Zi3 (pv 3))
    case b1 =>
     refine' Z10 ?d (Z06 (Z0d Z28)) Z0g
     case d => exact (Z3r (Z0b Z1p (Z0i Z0w (by rfl) T.len PySem.boot_len (Z0j (pv 6) Z02)) Z05 (Z0k _))
      (Z3u (Z2q (Z2c (Zar (Pf := Pf) (sp := fun g => Z3i (fits g)) GF hr Z0f (pv 3) (Z08 (Z18 Z1s (pv 6) Z05 (fun _ _ => rfl)) Z02)))))).pt
    case b2 => exact Z0c (i := 6) scNode.nd rfl (Or.inl rfl) (Z16 Zct (pv 6) (Z1q Z05) Z1u)
   case s7 =>
    refine' Z0d (Z2r ?x (Z39 ?y))
    case x => exact Z45 Z6g Z6g (pv 4) (Z0i Z0w (by rfl) T.len PySem.boot_len (Z0j (pv 6) Z02)) (pv 5)
    case y => exact Z0i (Z5t rfl) (by rfl) T.all (by decide +kernel) (Z08 (Z21 (N' := ["part"]) (src := [none]) rfl (Z0m (Z03 Zc2) rfl ["thing", "rule_of", "rule", "fits", "least", "most", "inner"] rfl (by decide +kernel)) (Z84 (pv 6))
     (fun cl C ex s0 H0 => ⟨Z0o (i := 0) (nd1 _) rfl (Or.inl rfl), Z2o, Z0i (id := "isinstance") (Z2l (K := K) rfl) (by rfl) T.isi (by decide +kernel) (Z0j (pv 0) (Z0j (Z1i (v := .ty "tuple") (by rfl) T.tup (by decide +kernel) rfl) Z02))⟩)) Z02)
  case fin =>
   have kf : ∀ H', Same H H' -> Z24 t = false -> Q (.bl false) H' := fun H' sm e => e ▸ k H' sm
   refine ⟨Zok fR H v t, ?_, ?_⟩
   ·cases ht with
    | «at» f =>
     refine ⟨_, rfl, _, _, _, _, rfl, Z35 (.at f), KI.tup (H := H) (.at f), _, rfl, Z34 (Z34 (kf H (Same.refl H) ?_))⟩
     rfl
    | lst e r =>
     refine ⟨_, rfl, _, _, _, _, rfl, Z35 (.lst e r), KI.tup (H := H) (.lst e r), _, rfl, Z34 (Z34 (kf H (Same.refl H) ?_))⟩
     rfl
    | @tup a vs ts e r =>
     refine ⟨_, rfl, _, _, _, _, rfl, Z35 (.tup e r), KI.tup (H := H) (.tup e r), _, rfl, Z4w ?_⟩
     refine ⟨_, rfl, a, vs, rfl, .inr (SqT.of e), rfl, _, rfl, ?_⟩
     cases r with
     | nil => exact Z14 (fun _ => Z34 (kf H (Same.refl H) rfl)) (fun g => absurd (by decide) g)
     | @cons v0 vs0 t0 ts0 h0 r0 =>
      refine Z14 (fun g => ?_) (fun _ => ?_)
      ·have g' := of_decide_eq_true g
       injection g' with g''
       rw [List.length_cons] at g''
       omega
      ·refine ⟨_, rfl, a, _, 0, v0, rfl, rfl, SqT.of e, Z1w _ _, _, _, _, _, rfl, Z35 h0, KI.str h0, _, rfl, ?_⟩
       cases g : Z4h t0 with
       | false =>
        refine Z34 (kf H (Same.refl H) ?_)
        cases t0 with
        | «at» z =>
         cases z with
         | str x => cases g
         | _ => rfl
        | tup _ => rfl
        | lst _ => rfl
       | true =>
        obtain ⟨x, rfl, rfl, hx⟩ := Z8v h0 g
        exact Z4w ⟨rfl, rfl, x, a, vs0, ts0, rfl, rfl, e, r0⟩
   rintro σ1 H1 ⟨rfl, rfl, x, a, vs, ts, rfl, rfl, ha, hts⟩
   refine ⟨_, rfl, fR, rfl, rfl, _, rfl, a, _, 0, .str x, rfl, rfl, SqT.of ha, Z1w _ _, x, rfl, fun rv hrv => ?_⟩
   cases hk : kindOf x with
   | none =>
    rw [hk] at hrv
    have e : rv = .non := hrv
    subst e
    refine ⟨_, rfl, _, rfl, Z34 (kf H1 (Same.refl H1) ?_)⟩
    show (match kindOf x with | none => false | some k => Zdi (rule nameB signB k) ts) = false
    rw [hk]
   | some kk =>
    have hn : Z24 (.tup (.at (.str x) :: ts)) = Zdi (rule nameB signB kk) ts := by
     show (match kindOf x with | none => false | some k => Zdi (rule nameB signB k) ts) = _
     rw [hk]
    rw [hk] at hrv
    obtain ⟨fo, lo, hi, hru⟩ : ∃ fo lo hi, rule nameB signB kk = (fo, lo, hi) := ⟨_, _, _, rfl⟩
    have hi6 : hi <= 6 := by
     have : (rule nameB signB kk).2.2 <= 6 := by cases kk <;> decide
     rw [hru] at this
     exact this
    rw [hru] at hn
    have hrv' : Zb3 K fits Pf rv (some (fo, lo, hi)) := by rw [<- hru]; exact hrv
    obtain ⟨a2, fv, e2, hsq, hfo⟩ := hrv'
    subst e2
    refine ⟨_, rfl, _, rfl, Z14 (fun g => absurd (of_decide_eq_true g) (by intro z; cases z)) (fun _ => ?_)⟩
    refine ⟨_, rfl, a2, _, rfl, hsq H1, rfl, _, _, rfl, _, _, rfl, _, _, rfl, rfl, ?_⟩
    refine ⟨_, rfl, _, rfl, a, _, rfl, SqT.of ha, Zb4 _ _ _, fun p hp => ?_⟩
    rw [Zn2]
    have sp1 := Z01 (o := .tup vs) hp
    have hp1 : upd H1 p (.tup vs) p = some (.tup vs) := Z00
    have hts1 := IsThs.kp (Kp.of sp1) hts
    generalize upd H1 p (.tup vs) = H2 at sp1 hp1 hts1 ⊢
    have hl := IsThs.len _ hts1
    refine ⟨Zol fR K H1 (.ref a) (.tup (.at (.str x) :: ts)), ?_, ?_⟩
    ·cases fo with
     | none =>
      have e3 : fv = .non := hfo
      subst e3
      refine ⟨_, rfl, _, rfl, Z4w ⟨_, _, lo, hi, p, vs, ts, rfl, hi6, sp1, hp1, hts1, hn⟩⟩
     | some pr =>
      obtain ⟨g, e3, hPf, hfit⟩ := hfo
      subst e3
      refine ⟨_, rfl, _, rfl, Z14 (fun _ => ?_) (fun q => absurd (by rw [decide_eq_false (by intro z; cases z)]; rfl) q)⟩
      refine ⟨_, rfl, p, vs, rfl, .inr (SqT.of hp1), rfl, _, rfl, ?_⟩
      cases hts1 with
      | nil => exact Z14 (fun _ => Z34 (kf H2 sp1 hn)) (fun q => absurd (by decide) q)
      | @cons v1 vs1 t1 ts1 h1 r1 =>
       refine Z14 (fun q => ?_) (fun _ => ?_)
       ·have q' := of_decide_eq_true q
        injection q' with q''
        rw [List.length_cons] at q''
        omega
       ·refine ⟨_, rfl, g, rfl, hPf, _, rfl, p, _, 0, v1, rfl, rfl, SqT.of hp1, Z1w _ _, v1, t1, rfl, h1, fun H3 s3 => ⟨_, rfl, ?_⟩⟩
        have hn' : Z24 (.tup (.at (.str x) :: t1 :: ts1)) = (pr t1 && (decide (lo <= ts1.length) && decide (ts1.length <= hi) && ts1.all isTup)) := hn
        rw [hfit]
        cases hq : pr t1 with
        | false =>
         rw [hq, Bool.false_and] at hn'
         exact Z34 (kf H3 (sp1.trans s3) hn')
        | true =>
         rw [hq, Bool.true_and] at hn'
         refine Z4w ⟨_, rfl, _, rfl, p, _, rfl, SqT.of (s3 _ _ hp1), Zb4 _ _ _, fun p2 hp2 => ?_⟩
         rw [Zn2]
         exact ⟨_, _, lo, hi, p2, vs1, ts1, rfl, hi6, (sp1.trans s3).trans (Z01 hp2), Z00, IsThs.kp (Kp.of (Z01 hp2)) (IsThs.kp (Kp.of s3) r1), hn'⟩
    rintro σ3 H3 ⟨o2, o3, lo3, hi3, q, rest, restT, rfl, h63, s3, hq3, hr3, hn3⟩
    have hl3 := IsThs.len _ hr3
    have kk : ∀ b H', Same H3 H' -> b = (decide (lo3 <= restT.length) && decide (restT.length <= hi3) && restT.all isTup) -> Q (.bl b) H' := fun b H' sm e => by
     rw [e, <- hn3]; exact k H' (s3.trans sm)
    refine ⟨_, rfl, _, rfl, q, rest, rfl, .inr (SqT.of hq3), _, _, rfl, rfl, _, rfl, Z14 (fun g1 => ?_) (fun g1 => ?_)⟩
    ·have g1' : lo3 <= restT.length := by
      have := of_decide_eq_true g1
      omega
     refine ⟨_, rfl, _, _, rfl, rfl, _, rfl, Z14 (fun g2 => ?_) (fun g2 => ?_)⟩
     ·have g2' : restT.length <= hi3 := by
       have := of_decide_eq_true g2
       omega
      refine ⟨_, rfl, q, rfl, ⟨_, SqT.of hq3⟩, Z4a (K := K) (a := q) (xs := rest) (fun i ys σc H' => ∃ o, σc = [o] /\ ys = (restT.take i).map (fun t => V.bl (isTup t)) /\ H' = H3) ⟨none, rfl, rfl, rfl⟩ (fun i ys σc H' ⟨_, _, _, e⟩ => by rw [e]; exact SqT.of hq3) ?_ ?_⟩
      ·rintro i x1 ys σc H' hx hi ⟨o, rfl, rfl, rfl⟩
       obtain ⟨t1, ht1, h1⟩ := Z22 _ hr3 hx
       refine ⟨by rw [List.length_map, List.length_take]; omega, ?_⟩
       refine ⟨_, rfl, _, _, _, _, rfl, Z35 h1, KI.tup h1, nx hi ⟨_, rfl, ?_, rfl⟩⟩
       rw [List.take_add_one, ht1, List.map_append]
       rfl
      ·rintro ys σc H' ⟨o, rfl, rfl, rfl⟩ l hl'
       refine ⟨l, restT.map isTup, rfl, SqL.of ?_, ?_⟩
       ·rw [Z00, hl3, List.take_length, List.map_map]; rfl
       ·refine kk _ _ (Z01 hl') ?_
        rw [decide_eq_true g1', decide_eq_true g2', List.all_map]
        rfl
     ·refine kk _ _ (Same.refl _) ?_
      have g2' : ¬ restT.length <= hi3 := fun z => g2 (decide_eq_true (by omega))
      rw [decide_eq_false g2', Bool.and_false, Bool.false_and]
    ·refine ⟨_, rfl, Z4w (kk _ _ (Same.refl _) ?_)⟩
     have g1' : ¬ lo3 <= restT.length := fun z => g1 (decide_eq_true (by omega))
     rw [decide_eq_false g1', Bool.false_and, Bool.false_and]
end
abbrev treeT (t : Th) : Bool := Z5i nameB signB t
theorem Zdk : ∀ ts : List Th, Z8u nameB signB ts = (ts.filter isTup).all treeT := by
 intro ts
 induction ts with
 | nil => simp [Z8u]
 | cons t ts ih =>
  rw [Z8u, List.filter_cons, ih]
  cases h : isTup t with
  | true => simp
  | false => simp
theorem Z7r {t : Th} (h : Z24 t = false) : treeT t = false := by
 cases t with
 | «at» v => simp [treeT, Z5i]
 | lst xs => simp [treeT, Z5i]
 | tup xs =>
  show Z5i nameB signB (.tup xs) = false
  rw [Z5i, show Z3t nameB signB (.tup xs) = false from h, Bool.false_and]
theorem Z4j {t : Th} (h : Z24 t = true) : ∃ ts, t = .tup ts /\ treeT t = (ts.filter isTup).all treeT := by
 cases t with
 | «at» v => cases h
 | lst xs => cases h
 | tup xs =>
  refine ⟨xs, rfl, ?_⟩
  show Z5i nameB signB (.tup xs) = _
  rw [Z5i, show Z3t nameB signB (.tup xs) = true from h, Bool.true_and, Zdk]
def Zhg (fR : Addr) : Sp := fun vs H Q _ => ∃ (v : V) (t : Th), vs = [v, .ref fR] /\ IsTh H v t /\ Th.sz t <= 1000000 /\ ∀ H', Same H H' -> Q (.bl (treeT t)) H'
section
variable {P : Program} {w : World} {K : PySem.W.Frag} {mg : Str -> Option Value} {base : Heap}
theorem scTree : FnScope ["thing", "rule_of", "waiting", "node"] ["thing", "rule_of"] (Z03 Zdc) := ⟨rfl, rfl, rfl, by decide +kernel, rfl, by decide +kernel, by decide +kernel⟩
theorem Zix {f fN fP fR : Addr} {fd dN dP : FuncData} (F : Fun K "is_tree" "is_tree" Zdc f fd) (T : TxtT mg) (KI : Kits K)
  (GN : FnOk P w K mg base CX0 3 fN dN ["thing", "rule_of"] (Zhf fR)) (FN : Fun K "is_node" "is_node" Zc2 fN dN) (bN : Binds K dN ["thing", "rule_of"] []) (mN : mg "is_node" = some (.ref fN))
  (FP : Fun K "parts" "parts" Z5c fP dP) (bP : Binds K dP ["e"] []) (mP : mg "parts" = some (.ref fP)) : FnOk P w K mg base CX0 4 f fd ["thing", "rule_of"] (Zhg fR) := by
 have GP : FnOk P w K mg base CX0 1 fP dP ["e"] spParts := Zay FP T KI
 refine F.ok scTree (fun vs H Q E h => ?_) (fun cdv A outer s H vs Q E hr h => ?_)
 ·obtain ⟨v, t, rfl, _⟩ := h
  rfl
 ·obtain ⟨v, t, rfl, ht, hz, k⟩ := h
  have hsz : sizeLine = 16777216 := sizeLine_eq
  have hr1 : Room 1 _ := hr.mono (by decide)
  refine' ⟨?tt, ?body, ?fin⟩
  case body =>
   refine' Z0p ?s1 (Z04 ?s2 (Z06 ?s3))
   case s1 => exact Z0c (i := 2) scTree.nd rfl (Or.inl rfl) (Z0y (Z0j (pv 0) Z02))
   case s2 =>
    refine' Z7e PassesOwn.never ?c (Z04 ?b1 (Z04 ?b2 (Z06 ?b3)))
    case c => exact Zad (pv 2) (fun _ => rfl)
    case b1 => exact Z0c (i := 3) scTree.nd rfl (Or.inl rfl) (Zh4 PySem.F.plainAttrs_list PySem.F.slot_list_pop PySem.F.type_list_pop Zh5 (pv 2))
    case b2 => exact Z10 (Z2q (Z2c (Z07 GN hr (by rfl) mN FN.kp bN .nil Z0f (Z0j (pv 3) (Z0j (pv 1) Z02))))) (Z06 (Z0d Z28)) Z0g
    case b3 => exact Z31 (Z7j PySem.F.plainAttrs_list PySem.F.slot_list_extend PySem.F.type_list_extend Zbv (pv 2) (Z6h (Z07 GP hr1 (by rfl) mP FP.kp bP .nil Z0f (Z0j (pv 3) Z02)) Z02))
   case s3 => exact Z0d Z28
  case fin =>
   refine ⟨fun σ' H' => ∃ wl, H wl = none /\ σ' = [some v, some (.ref fR), some (.ref wl), none] /\ H' = upd H wl (.lst [v]), ⟨_, rfl, (by show 1 <= sizeLine; decide), fun wl hwl => ⟨wl, hwl, rfl, rfl⟩⟩, ?_⟩
   rintro σ0 H0 ⟨wl, hwl, rfl, rfl⟩
   refine Zd4 (fun m σ H' => ∃ (ws : List V) (us : List Th) (o : Option V), σ = [some v, some (.ref fR), some (.ref wl), o] /\ Same H H' /\ H' wl = some (.lst ws) /\ IsThs H ws us /\ m = szs us /\ szs us <= 1000000 /\ treeT t = us.all treeT)
    (szs [t]) ⟨[v], [t], none, rfl, Z01 hwl, Z00, .cons ht .nil, rfl, by simp [szs]; exact hz, by simp⟩ ?_ ?_
   ·rintro m σ H1 ⟨ws, us, o, rfl, s1, L1, hth, rfl, hsz1, htree⟩
    refine ⟨_, rfl, _, .inl ⟨ws, SqL.of L1, rfl⟩, ?_⟩
    cases hws : ws.isEmpty with
    | true =>
     have e : ws = [] := List.isEmpty_iff.mp hws
     subst e
     cases hth
     refine Z4w ?_
     have e2 : treeT t = true := by rw [htree]; rfl
     exact e2 ▸ k H1 s1
    | false =>
     have hne : ws ≠ [] := fun z => by rw [z] at hws; cases hws
     obtain ⟨ws', y, us', u, rfl, rfl, hth', hy⟩ := Zau ws hth hne
     refine Z34 ?_
     refine ⟨_, rfl, .inl ⟨rfl, _, SqL.of L1⟩, wl, _, y, rfl, rfl, L1, (by rw [List.length_append]; simp), ?_⟩
     rw [List.dropLast_concat]
     have s2 : Same H (upd H1 wl (.lst ws')) := fun b ob e => by rw [Z0a (Z0h e hwl)]; exact s1 b ob e
     have L2 : upd H1 wl (.lst ws') wl = some (.lst ws') := Z00
     generalize upd H1 wl (.lst ws') = H2 at s2 L2 ⊢
     refine ⟨_, rfl, _, rfl, y, u, rfl, IsTh.kp (Kp.of s2) hy, fun H3 s3 => ⟨_, rfl, ?_⟩⟩
     rw [szs_app] at hsz1
     have hu1 : szs [u] = Th.sz u := by simp [szs]
     rw [List.all_append] at htree
     cases hn : Z24 u with
     | false =>
      refine Z34 ?_
      have e2 : treeT t = false := by
       rw [htree]
       show (us'.all treeT && (treeT u && true)) = false
       rw [Z7r hn]; simp
      exact e2 ▸ k H3 (s2.trans s3)
     | true =>
      obtain ⟨ts, rfl, htu⟩ := Z4j hn
      cases hy with
      | @tup a xs _ ha hxs =>
       have hl := IsThs.len _ hxs
       have hle := Z1b ts
       have hsu : Th.sz (.tup ts) = 1 + szs ts := by simp [Th.sz]
       have s23 := s2.trans s3
       refine Z4w ⟨_, rfl, .inl ⟨rfl, _, SqL.of (s3 _ _ L2)⟩, _, rfl, H, .ref a, ts, rfl, s23, .tup ha hxs, by omega, fun p ps H4 s4 hp4 hps => ?_⟩
       have hps : IsThs H ps (ts.filter isTup) := hps
       have hf := Zbz ts
       have hlp := IsThs.len _ hps
       have hlf := Z1b (ts.filter isTup)
       have hlw := IsThs.len _ hth'
       have hlu := Z1b us'
       refine ⟨wl, p, ws', ps, rfl, rfl, s4 _ _ (s3 _ _ L2), hp4, by omega, ?_⟩
       refine ⟨szs (us' ++ ts.filter isTup), by rw [szs_app, szs_app, hu1]; omega, ws' ++ ps, us' ++ ts.filter isTup, _, rfl, ?_, Z00, ?_, rfl, by rw [szs_app]; omega, ?_⟩
       ·intro b ob e
        rw [Z0a (Z0h e hwl)]
        exact s4 _ _ (s23 _ _ e)
       ·exact IsThs.app _ hth' hps
       ·rw [htree, List.all_append, <- htu]
        show (us'.all treeT && (treeT (.tup ts) && true)) = _
        rw [Bool.and_true]
   ·rintro σ H1 Q1 Q2 hq ⟨u1, e1, b1, e2, q⟩
    exact ⟨u1, e1, b1, e2, hq _ _ q⟩
end
def nd (w : Str) (hd : List V) (ks : List Th) : Th := .tup (.at (.str w) :: (hd.map Th.at ++ ks))
theorem Zfp (hd : List V) : (hd.map Th.at).filter L2.isTup = [] := by
 induction hd with
 | nil => rfl
 | cons v hd ih => rw [List.map_cons, List.filter_cons]; simpa [L2.isTup] using ih
theorem Zfq : ∀ {ks : List Th}, (∀ k ∈ ks, L2.isTup k = true) -> ks.filter L2.isTup = ks := fun h => List.filter_eq_self.mpr h
theorem Z36 {w : Str} {hd : List V} {ks : List Th} (h : ∀ k ∈ ks, L2.isTup k = true) : Z0r (.at (.str w) :: (hd.map Th.at ++ ks)) = ks := by
 unfold Z0r
 rw [List.filter_cons, if_neg (by simp [L2.isTup]), List.filter_append, Zfp, List.nil_append, Zfq h]
def TrT : Nat -> Th -> Prop
 | 0, _ => False
 | n + 1, t => ∃ (w : Str) (hd : List V) (ks : List Th), t = nd w hd ks /\ hd.length <= 1 /\ (w = "let" -> ∃ x, hd = [.str x] /\ ks.length = 2) /\ (w = "set" -> ∃ x, hd = [.str x] /\ ks.length = 1) /\ ks.length <= 6 /\ ∀ k ∈ ks, TrT n k
theorem TrT.isTup {n : Nat} {t : Th} (h : TrT n t) : L2.isTup t = true := by
 cases n with
 | zero => exact h.elim
 | succ n => obtain ⟨w, hd, ks, rfl, _⟩ := h; rfl
theorem Z4k {t : Th} (h : nameB t = true) : ∃ x, t = .at (.str x) := by
 cases t with
 | «at» v =>
  cases v with
  | str x => exact ⟨x, rfl⟩
  | _ => cases h
 | tup xs => cases h
 | lst xs => cases h
theorem Zdl {k : Wd} {f : Th -> Bool} {lo hi : Nat} {t : Th} (hr : rule nameB signB k = (some f, lo, hi)) (h : f t = true) : L2.isTup t = false /\ ∃ v, t = .at v := by
 have hin : ∀ m, Z11 t m = true -> ∃ v, t = .at v := fun m q => by
  cases t with
  | «at» v => exact ⟨v, rfl⟩
  | tup xs => cases q
  | lst xs => cases q
 have hs : signB t = true -> ∃ v, t = .at v := fun q => by
  cases t with
  | «at» v => exact ⟨v, rfl⟩
  | tup xs => cases q
  | lst xs => cases q
 have hn : nameB t = true -> ∃ v, t = .at v := fun q => by
  obtain ⟨x, e⟩ := Z4k q
  exact ⟨_, e⟩
 have main : ∃ v, t = .at v := by
  cases k <;> cases hr <;> first | exact hin _ h | exact hs h | exact hn h
 obtain ⟨v, rfl⟩ := main
 exact ⟨rfl, v, rfl⟩
theorem Zdm {t : Th} (h : Z24 t = true) : ∃ (w : Str) (k : Wd) (hd : List V) (ks : List Th), t = nd w hd ks /\ kindOf w = some k /\ hd.length <= 1 /\ (∀ x ∈ ks, L2.isTup x = true) /\ ks.length <= 6 /\ Zdi (rule nameB signB k) (hd.map Th.at ++ ks) = true := by
 cases t with
 | «at» v => cases h
 | lst xs => cases h
 | tup xs =>
  cases xs with
  | nil => cases h
  | cons a inner =>
   cases a with
   | tup _ => cases h
   | lst _ => cases h
   | «at» v =>
    cases v with
    | str w =>
     have h' : Z3t nameB signB (.tup (.at (.str w) :: inner)) = true := h
     rw [Z3t] at h'
     cases hk : kindOf w with
     | none => rw [hk] at h'; cases h'
     | some k =>
      rw [hk] at h'
      dsimp only at h'
      have hi6 : (rule nameB signB k).2.2 <= 6 := by cases k <;> decide
      cases hr : rule nameB signB k with
      | mk fo lh =>
       obtain ⟨lo, hi⟩ := lh
       rw [hr] at h' hi6
       cases fo with
       | none =>
        have h2 := h'
        rw [Zdi, Bool.and_eq_true, Bool.and_eq_true, decide_eq_true_eq, decide_eq_true_eq] at h2
        exact ⟨w, k, [], inner, rfl, hk, Nat.zero_le _, List.all_eq_true.mp h2.2, Nat.le_trans h2.1.2 hi6, by rw [hr]; exact h'⟩
       | some f =>
        cases inner with
        | nil => cases h'
        | cons x rest =>
         have h2 := h'
         rw [Zdi, Bool.and_eq_true, Bool.and_eq_true, Bool.and_eq_true, decide_eq_true_eq, decide_eq_true_eq] at h2
         obtain ⟨_, v, rfl⟩ := Zdl hr h2.1
         exact ⟨w, k, [v], rest, rfl, hk, Nat.le_refl _, List.all_eq_true.mp h2.2.2, Nat.le_trans h2.2.1.2 hi6, by rw [hr]; exact h'⟩
    | _ => cases h
theorem Zdn {k : Th} : ∀ {ks : List Th}, k ∈ ks -> L2.dp k <= L2.dps ks := by
 intro ks
 induction ks with
 | nil => intro h; cases h
 | cons x ks ih =>
  intro h
  rw [L2.dps]
  rcases List.mem_cons.mp h with rfl | h
  ·exact Nat.le_max_left _ _
  ·exact Nat.le_trans (ih h) (Nat.le_max_right _ _)
theorem Ziy : ∀ (n : Nat) {t : Th}, treeT t = true -> L2.dp t <= n -> TrT n t := by
 intro n
 induction n with
 | zero =>
  intro t h hd
  cases hn : Z24 t with
  | false => rw [Z7r hn] at h; cases h
  | true =>
   obtain ⟨ts, rfl, _⟩ := Z4j hn
   rw [L2.dp] at hd
   omega
 | succ n ih =>
  intro t h hd
  cases hn : Z24 t with
  | false => rw [Z7r hn] at h; cases h
  | true =>
   obtain ⟨w, k, hd', ks, rfl, hk, h1, nk, h6, hf⟩ := Zdm hn
   obtain ⟨ts, e, e2⟩ := Z4j hn
   unfold nd at e
   injection e with e
   rw [e2, <- e] at h
   have e3 : (.at (.str w) :: (hd'.map Th.at ++ ks) : List Th).filter L2.isTup = ks := Z36 (w := w) (hd := hd') nk
   rw [e3, List.all_eq_true] at h
   have hone : ∀ {wd : Wd} {f : Th -> Bool} {lo : Nat}, k = wd -> rule nameB signB wd = (some f, lo, lo) -> (∀ t, f t = true -> nameB t = true) -> ∃ x, hd' = [.str x] /\ ks.length = lo := fun {wd f lo} ek er ef => by
    rw [ek, er] at hf
    cases hd' with
    | nil =>
     cases ks with
     | nil => cases hf
     | cons x rest =>
      rw [List.map_nil, List.nil_append, Zdi, Bool.and_eq_true] at hf
      obtain ⟨y, rfl⟩ := Z4k (ef _ hf.1)
      exact absurd (nk _ (List.mem_cons_self ..)) (by intro z; cases z)
    | cons v r =>
     cases r with
     | cons u r => simp at h1
     | nil =>
      rw [List.map_cons, List.map_nil, List.cons_append, List.nil_append, Zdi, Bool.and_eq_true, Bool.and_eq_true, Bool.and_eq_true, decide_eq_true_eq, decide_eq_true_eq] at hf
      obtain ⟨y, e⟩ := Z4k (ef _ hf.1)
      injection e with e
      rw [e]
      exact ⟨y, rfl, by omega⟩
   refine ⟨w, hd', ks, rfl, h1, fun z => ?_, fun z => ?_, h6, fun x hx => ih (h x hx) ?_⟩
   ·rw [z] at hk
    exact hone (wd := .lett) (Option.some.inj (hk.symm.trans (by decide +kernel))) rfl fun _ q => q
   ·rw [z] at hk
    exact hone (wd := .sett) (Option.some.inj (hk.symm.trans (by decide +kernel))) rfl fun _ q => q
   ·unfold nd at hd
    rw [L2.dp] at hd
    have := Zdn (List.mem_cons_of_mem (.at (.str w)) (List.mem_append_right (hd'.map Th.at) hx))
    omega
theorem Zn3 : ∀ (n : Nat) {t : Th}, TrT n t -> OkT n t := by
 intro n
 induction n with
 | zero => intro t h; exact h.elim
 | succ n ih =>
  intro t h
  obtain ⟨w, hd, ks, rfl, h1, h2, h3, h4, h5⟩ := h
  have nk : ∀ k ∈ ks, L2.isTup k = true := fun k hk => (h5 k hk).isTup
  refine ⟨w, hd.map Th.at ++ ks, rfl, fun e => ?_, fun x hx ht => ?_⟩
  ·obtain ⟨x, _, h⟩ := h2 e
   have e3 := Z36 (w := w) (hd := hd) nk
   rw [Z1c] at e3
   rw [e3]
   exact h
  ·rcases List.mem_append.mp hx with z | z
   ·obtain ⟨v, _, rfl⟩ := List.mem_map.mp z
    cases ht
   ·exact ih (h5 x z)
def Zhh : Th -> Option Str
 | .tup (_ :: .at (.str x) :: _) => some x
 | _ => none
def Z7s : Th -> Bool
 | .tup (.at (.str w) :: _) => decide (w = "set")
 | _ => false
def hit (bs : List Str) (t : Th) : Bool := Z7s t && (match Zhh t with | some x => decide (x ∈ bs) | none => false)
mutual
def sbB : Th -> List Str -> Bool
 | .tup xs, bs => hit bs (.tup xs) || sbI (Z3f xs) (Zhh (.tup xs)) 0 xs bs
 | .at _, _ => false
 | .lst _, _ => false
def sbI (l : Bool) (o : Option Str) : Nat -> List Th -> List Str -> Bool
 | _, [], _ => false
 | i, x :: xs, bs => if L2.isTup x = true then sbB x (if l = true /\ i = 1 then o.toList ++ bs else bs) || sbI l o (i + 1) xs bs else sbI l o i xs bs
end
theorem Z8z (o : Option Str) : ∀ (xs : List Th) (i : Nat) (bs : List Str), sbI false o i xs bs = (Z0r xs).any fun k => sbB k bs := by
 intro xs
 induction xs with
 | nil => intro i bs; simp [sbI, Z0r]
 | cons x xs ih =>
  intro i bs
  rw [sbI]
  unfold Z0r at ih ⊢
  rw [List.filter_cons]
  split
  ·rw [ih, List.any_cons, if_neg (by intro z; cases z.1)]
  ·rw [ih]
theorem Zfr {w : Str} {hd : List V} {ks : List Th} {bs : List Str} (hw : w ≠ "let") (nk : ∀ k ∈ ks, L2.isTup k = true) : sbB (nd w hd ks) bs = (hit bs (nd w hd ks) || ks.any fun k => sbB k bs) := by
 unfold nd
 have e1 : Z3f (.at (.str w) :: (hd.map Th.at ++ ks)) = false := decide_eq_false hw
 rw [sbB, e1, Z8z, Z36 nk]
theorem Zhi {x : Str} {k1 k2 : Th} {bs : List Str} (h1 : L2.isTup k1 = true) (h2 : L2.isTup k2 = true) : sbB (nd "let" [.str x] [k1, k2]) bs = (sbB k1 bs || sbB k2 (x :: bs)) := by
 unfold nd
 have e1 : Z3f (.at (.str "let") :: ([V.str x].map Th.at ++ [k1, k2])) = true := decide_eq_true (p := ("let" : Str) = "let") rfl
 have e2 : hit bs (.tup (.at (.str "let") :: ([V.str x].map Th.at ++ [k1, k2]))) = false := by
  unfold hit
  rw [show Z7s (.tup (.at (.str "let") :: ([V.str x].map Th.at ++ [k1, k2]))) = false from decide_eq_false (p := ("let" : Str) = "set") (by decide +kernel), Bool.false_and]
 have e3 : Zhh (.tup (.at (.str "let") :: ([V.str x].map Th.at ++ [k1, k2]))) = some x := rfl
 rw [sbB, e1, e2, e3, Bool.false_or]
 show sbI true (some x) 0 [.at (.str "let"), .at (.str x), k1, k2] bs = _
 have n1 : ¬ (L2.isTup (.at (.str "let")) = true) := by intro z; cases z
 have n2 : ¬ (L2.isTup (.at (.str x)) = true) := by intro z; cases z
 rw [sbI, if_neg n1, sbI, if_neg n2, sbI, if_pos h1, sbI, if_pos h2, sbI, Bool.or_false, if_neg (by intro z; cases z.2), if_pos ⟨rfl, rfl⟩]
 rfl
def Z1j (bs : List Str) (p : Str × Th) : List Str := if p.1 = "opened" then (Zhh p.2).toList ++ bs else if p.1 = "closed" then (match Zhh p.2 with | some x => bs.erase x | none => bs) else bs
def Z9q (bs : List Str) (p : Str × Th) : Bool := decide (p.1 = "node") && hit bs p.2
def Z5m : List Str -> List (Str × Th) -> Bool
 | _, [] => false
 | bs, p :: l => Z9q bs p || Z5m (Z1j bs p) l
theorem Z4l : ∀ (a b : List (Str × Th)) (bs : List Str), Z5m bs (a ++ b) = (Z5m bs a || Z5m (a.foldl Z1j bs) b) := by
 intro a
 induction a with
 | nil => intro b bs; rfl
 | cons p a ih => intro b bs; rw [List.cons_append, Z5m, Z5m, ih, List.foldl_cons, Bool.or_assoc]
theorem Zb5 : ∀ (n : Nat) {t : Th}, TrT n t -> ∀ bs : List Str, (Z0e t).foldl Z1j bs = bs /\ Z5m bs (Z0e t) = sbB t bs := by
 have c1 : ¬ (("closed" : Str) = "opened") := by decide +kernel
 have c2 : ¬ (("node" : Str) = "opened") := by decide +kernel
 have c3 : ¬ (("node" : Str) = "closed") := by decide +kernel
 have c4 : decide (("opened" : Str) = "node") = false := by decide +kernel
 have c5 : decide (("closed" : Str) = "node") = false := by decide +kernel
 intro n
 induction n with
 | zero => intro t h; exact h.elim
 | succ n ih =>
  intro t h bs
  obtain ⟨w, hd, ks, rfl, h1, h2, h3, h4, h5⟩ := h
  have nk : ∀ k ∈ ks, L2.isTup k = true := fun k hk => (h5 k hk).isTup
  have sN : ∀ b, Z1j b ("node", nd w hd ks) = b := fun b => by unfold Z1j; rw [if_neg c2, if_neg c3]
  have hN : ∀ b, Z9q b ("node", nd w hd ks) = hit b (nd w hd ks) := fun b => by unfold Z9q; rw [decide_eq_true rfl, Bool.true_and]
  by_cases hw : w = "let"
  ·obtain ⟨x, rfl, hl⟩ := h2 hw
   subst hw
   obtain ⟨k1, k2, rfl⟩ : ∃ a b, ks = [a, b] := by
    match ks, hl with
    | [a, b], _ => exact ⟨a, b, rfl⟩
   have p1 := h5 k1 (by simp)
   have p2 := h5 k2 (by simp)
   have e := Z5z (xs := .at (.str "let") :: ([V.str x].map Th.at ++ [k1, k2])) (decide_eq_true (p := ("let" : Str) = "let") rfl) (Z36 nk)
   have e0 : Z0e (nd "let" [.str x] [k1, k2]) = _ := e
   rw [e0, Zhi p1.isTup p2.isTup]
   have i1 := ih p1 bs
   have i2 := ih p2 (x :: bs)
   have so : ∀ b, Z1j b ("opened", nd "let" [.str x] [k1, k2]) = x :: b := fun b => by unfold Z1j; rw [if_pos rfl]; rfl
   have sc : ∀ b, Z1j b ("closed", nd "let" [.str x] [k1, k2]) = b.erase x := fun b => by unfold Z1j; rw [if_neg c1, if_pos rfl]; rfl
   have hl0 : hit bs (nd "let" [.str x] [k1, k2]) = false := by
    unfold hit
    rw [show Z7s (nd "let" [.str x] [k1, k2]) = false from decide_eq_false (p := ("let" : Str) = "set") (by decide +kernel), Bool.false_and]
   have fo : ∀ t', Z9q bs ("opened", t') = false := fun t' => by unfold Z9q; rw [c4, Bool.false_and]
   have fc : ∀ t', Z9q (x :: bs) ("closed", t') = false := fun t' => by unfold Z9q; rw [c5, Bool.false_and]
   constructor
   ·rw [List.foldl_cons, List.foldl_append]
    show ((("opened" : Str), nd "let" [.str x] [k1, k2]) :: (Z0e k2 ++ [(("closed" : Str), nd "let" [.str x] [k1, k2])])).foldl Z1j ((Z0e k1).foldl Z1j (Z1j bs ("node", nd "let" [.str x] [k1, k2]))) = bs
    rw [sN, i1.1, List.foldl_cons, so, List.foldl_append, i2.1, List.foldl_cons, List.foldl_nil, sc, List.erase_cons_head]
   ·rw [Z5m, Z4l]
    show (Z9q bs ("node", nd "let" [.str x] [k1, k2]) || (Z5m (Z1j bs ("node", nd "let" [.str x] [k1, k2])) (Z0e k1) || Z5m ((Z0e k1).foldl Z1j (Z1j bs ("node", nd "let" [.str x] [k1, k2]))) ((("opened" : Str), nd "let" [.str x] [k1, k2]) :: (Z0e k2 ++ [(("closed" : Str), nd "let" [.str x] [k1, k2])])))) = _
    rw [hN, hl0, Bool.false_or, sN, i1.2, i1.1, Z5m, fo, Bool.false_or, so, Z4l, i2.2, i2.1, Z5m, fc, Bool.false_or, Z5m, Bool.or_false]
  ·have e0 : Z0e (nd w hd ks) = (("node" : Str), nd w hd ks) :: ((Z0r (.at (.str w) :: (hd.map Th.at ++ ks))).map Z0e).flatten := Z41 (decide_eq_false hw)
   rw [e0, Z36 nk, Zfr hw nk, List.foldl_cons, sN, Z5m, hN, sN]
   have go : ∀ l : List Th, (∀ k ∈ l, TrT n k) -> (l.map Z0e).flatten.foldl Z1j bs = bs /\ Z5m bs (l.map Z0e).flatten = l.any fun k => sbB k bs := by
    intro l
    induction l with
    | nil => intro _; exact ⟨rfl, rfl⟩
    | cons k l il =>
     intro hl
     have j1 := ih (hl k (List.mem_cons_self ..)) bs
     have j2 := il fun y hy => hl y (List.mem_cons_of_mem _ hy)
     rw [List.map_cons, List.flatten_cons, List.foldl_append, Z4l, j1.1, j1.2, j2.1, j2.2, List.any_cons]
     exact ⟨rfl, rfl⟩
   have g := go ks h5
   exact ⟨g.1, by rw [g.2]⟩
theorem Zn4 {H : Hp} {a : Addr} {kvs : List (Key × V)} {o : HO} (h : H a = some (.dK kvs)) : Kp H (upd H a o) := fun b u e n => by
 rw [Z0a (fun z => by rw [z, h] at e; cases e; exact n _ rfl)]
 exact e
def StT (n : Nat) (p : Str × Th) : Prop := TrT n p.2 /\ (p.1 = "node" ∨ ((p.1 = "opened" ∨ p.1 = "closed") /\ ∃ x ks, p.2 = nd "let" [.str x] ks))
theorem StT.up {n : Nat} {p : Str × Th} (h : StT n p) (u : ∀ {t}, TrT n t -> TrT (n + 1) t) : StT (n + 1) p := ⟨u h.1, h.2⟩
theorem TrT.up : ∀ (n : Nat) {t : Th}, TrT n t -> TrT (n + 1) t := by
 intro n
 induction n with
 | zero => intro t h; exact h.elim
 | succ n ih =>
  intro t h
  obtain ⟨w, hd, ks, e, h1, h2, h3, h4, h5⟩ := h
  exact ⟨w, hd, ks, e, h1, h2, h3, h4, fun k hk => ih (h5 k hk)⟩
theorem Zhj {ks : List Th} (h : ks.length = 2) : ∃ a b, ks = [a, b] := by
 cases ks with
 | nil => cases h
 | cons a r => cases r with
  | nil => cases h
  | cons b r =>
   cases r with
   | nil => exact ⟨a, b, rfl⟩
   | cons c r => simp at h
def okL : List Str -> List (Str × Th) -> Prop
 | _, [] => True
 | bs, p :: l => (p.1 = "closed" -> ∀ x, Zhh p.2 = some x -> x ∈ bs) /\ okL (Z1j bs p) l
theorem Z9r : ∀ (a b : List (Str × Th)) (bs : List Str), okL bs a -> okL (a.foldl Z1j bs) b -> okL bs (a ++ b) := by
 intro a
 induction a with
 | nil => intro b bs _ h; exact h
 | cons p a ih => intro b bs h1 h2; exact ⟨h1.1, ih b _ h1.2 h2⟩
theorem Ziz : ∀ (l : List (Str × Th)) (bs : List Str) {i : Nat} {p : Str × Th} {x : Str}, okL bs l -> l[i]? = some p -> p.1 = "closed" -> Zhh p.2 = some x -> x ∈ (l.take i).foldl Z1j bs := by
 intro l
 induction l with
 | nil => intro bs i p x _ h; cases h
 | cons q l ih =>
  intro bs i p x h1 h2 h3 h4
  cases i with
  | zero =>
   have e : q = p := by simpa using h2
   rw [<- e] at h3 h4
   exact h1.1 h3 x h4
  | succ i =>
   rw [List.take_succ_cons, List.foldl_cons]
   exact ih _ h1.2 (by simpa using h2) h3 h4
theorem Zfs : ∀ (l : List (Str × Th)) (bs : List Str) {i : Nat} {p : Str × Th}, l[i]? = some p -> Z5m bs (l.take (i + 1)) = (Z5m bs (l.take i) || Z9q ((l.take i).foldl Z1j bs) p) := fun l bs i p h => by
 rw [List.take_add_one, h, Z4l]
 show (_ || (Z9q _ p || Z5m _ [])) = _
 rw [Z5m, Bool.or_false]
theorem Zft : ∀ (l : List (Str × Th)) (bs : List Str) (i : Nat), Z5m bs (l.take i) = true -> Z5m bs l = true := fun l bs i h => by
 rw [<- List.take_append_drop i l, Z4l, h, Bool.true_or]
theorem Zfu : ∀ (n : Nat) {t : Th}, TrT n t -> (∀ p ∈ Z0e t, StT n p) /\ ∀ bs, okL bs (Z0e t) := by
 have c1 : ("node" : Str) ≠ "closed" := by decide +kernel
 have c2 : ("opened" : Str) ≠ "closed" := by decide +kernel
 intro n
 induction n with
 | zero => intro t h; exact h.elim
 | succ n ih =>
  intro t h
  have h0 := h
  obtain ⟨w, hd, ks, rfl, h1, h2, h3, h4, h5⟩ := h
  have nk : ∀ k ∈ ks, L2.isTup k = true := fun k hk => (h5 k hk).isTup
  by_cases hw : w = "let"
  ·obtain ⟨x, rfl, hl⟩ := h2 hw
   subst hw
   obtain ⟨k1, k2, rfl⟩ := Zhj hl
   have p1 := h5 k1 (by simp)
   have p2 := h5 k2 (by simp)
   have e0 : Z0e (nd "let" [.str x] [k1, k2]) = (("node" : Str), nd "let" [.str x] [k1, k2]) :: (Z0e k1 ++ ((("opened" : Str), nd "let" [.str x] [k1, k2]) :: (Z0e k2 ++ [(("closed" : Str), nd "let" [.str x] [k1, k2])]))) :=
    Z5z (xs := .at (.str "let") :: ([V.str x].map Th.at ++ [k1, k2])) (decide_eq_true (p := ("let" : Str) = "let") rfl) (Z36 nk)
   rw [e0]
   refine ⟨fun p hp => ?_, fun bs => ⟨fun z => absurd z c1, ?_⟩⟩
   ·rcases List.mem_cons.mp hp with rfl | hp
    ·exact ⟨h0, .inl rfl⟩
    rcases List.mem_append.mp hp with hp | hp
    ·exact (ih p1).1 p hp |>.up (TrT.up n)
    rcases List.mem_cons.mp hp with rfl | hp
    ·exact ⟨h0, .inr ⟨.inl rfl, x, _, rfl⟩⟩
    rcases List.mem_append.mp hp with hp | hp
    ·exact (ih p2).1 p hp |>.up (TrT.up n)
    ·rw [List.mem_singleton.mp hp]
     exact ⟨h0, .inr ⟨.inr rfl, x, _, rfl⟩⟩
   ·refine Z9r _ _ _ ((ih p1).2 _) ⟨fun z => absurd z c2, Z9r _ _ _ ((ih p2).2 _) ⟨fun _ y hy => ?_, trivial⟩⟩
    have e : y = x := by
     have : some x = some y := hy
     injection this with this
     exact this.symm
    rw [(Zb5 n p1 _).1, (Zb5 n p2 _).1, e]
    unfold Z1j
    rw [if_pos rfl]
    exact List.mem_cons_self ..
  ·have e0 : Z0e (nd w hd ks) = (("node" : Str), nd w hd ks) :: ((Z0r (.at (.str w) :: (hd.map Th.at ++ ks))).map Z0e).flatten := Z41 (decide_eq_false hw)
   rw [e0, Z36 nk]
   refine ⟨fun p hp => ?_, fun bs => ⟨fun z => absurd z c1, ?_⟩⟩
   ·rcases List.mem_cons.mp hp with rfl | hp
    ·exact ⟨h0, .inl rfl⟩
    obtain ⟨l, hl, hpl⟩ := List.mem_flatten.mp hp
    obtain ⟨k, hk, rfl⟩ := List.mem_map.mp hl
    exact (ih (h5 k hk)).1 p hpl |>.up (TrT.up n)
   ·have go : ∀ (l : List Th) (bs : List Str), (∀ k ∈ l, TrT n k) -> okL bs (l.map Z0e).flatten := by
     intro l
     induction l with
     | nil => intro bs _; trivial
     | cons k l il =>
      intro bs hl
      rw [List.map_cons, List.flatten_cons]
      exact Z9r _ _ _ ((ih (hl k (List.mem_cons_self ..))).2 bs) (il _ fun y hy => hl y (List.mem_cons_of_mem _ hy))
    exact go ks _ h5
def LD (kvs : List (Key × V)) (bs : List Str) : Prop := ∀ x : Str, (Z2h kvs (Sum.inr x)).getD (.int 0) = .int (bs.count x : Nat)
theorem LD.has {kvs : List (Key × V)} {bs : List Str} (h : LD kvs bs) {x : Str} (hx : x ∈ bs) : Z2h kvs (Sum.inr x) = some (.int (bs.count x : Nat)) := by
 have e := h x
 have c : 0 < bs.count x := List.count_pos_iff.mpr hx
 cases q : Z2h kvs (Sum.inr x) with
 | none =>
  rw [q] at e
  have e' : V.int 0 = .int (bs.count x : Nat) := e
  injection e' with e'
  omega
 | some v =>
  rw [q] at e
  have e' : v = .int (bs.count x : Nat) := e
  rw [e']
theorem LD.put {kvs : List (Key × V)} {bs : List Str} (h : LD kvs bs) {x : Str} : LD (Z5b kvs (Sum.inr x) (.int ((bs.count x : Nat) + 1))) (x :: bs) := fun y => by
 rw [Zai, List.count_cons]
 by_cases e : y = x
 ·subst e
  rw [if_pos rfl, if_pos (beq_self_eq_true _)]
  show V.int _ = V.int _
  congr 1
 ·rw [if_neg (by intro z; injection z with z; exact e z), if_neg (by intro z; exact e (beq_iff_eq.mp z).symm)]
  exact h y
theorem LD.less {kvs : List (Key × V)} {bs : List Str} (h : LD kvs bs) {x : Str} (hx : x ∈ bs) : LD (Z5b kvs (Sum.inr x) (.int ((bs.count x : Nat) - 1))) (bs.erase x) := fun y => by
 have c : 0 < bs.count x := List.count_pos_iff.mpr hx
 rw [Zai, List.count_erase]
 by_cases e : y = x
 ·subst e
  rw [if_pos rfl, if_pos (beq_self_eq_true _)]
  show V.int _ = V.int _
  congr 1
  omega
 ·rw [if_neg (by intro z; injection z with z; exact e z), if_neg (by intro z; exact e (beq_iff_eq.mp z).symm)]
  exact h y
def Zhk (N : Nat) : Sp := fun vs H Q _ => ∃ (v : V) (t : Th), vs = [v] /\ IsTh H v t /\ TrT N t /\ Th.sz t <= 100000 /\ ∀ H', Same H H' -> Q (.bl (sbB t [])) H'
theorem Z5n (a b : V) (r : List V) : atI (a :: b :: r) 1 = some b := Z32 (j := 1) rfl
section
variable {P : Program} {w : World} {K : PySem.W.Frag} {mg : Str -> Option Value} {base : Heap}
theorem scSets : FnScope ["e", "lets", "deed", "node"] ["e"] (Z03 Z2v) := ⟨rfl, rfl, rfl, by decide +kernel, rfl, by decide +kernel, by decide +kernel⟩
theorem Zj0 {f fP fS : Addr} {fd dP dS : FuncData} (F : Fun K "sets_bound" "sets_bound" Z2v f fd) (T : TxtT mg) (TD : TxtD mg) (KI : Kits K)
  (FP : Fun K "parts" "parts" Z5c fP dP) (bP : Binds K dP ["e"] []) (mP : mg "parts" = some (.ref fP)) (FS : Fun K "steps" "steps" Z72 fS dS) (bS : Binds K dS ["tree"] []) (mS : mg "steps" = some (.ref fS)) (N : Nat) :
  FnOk P w K mg base CX0 3 f fd ["e"] (Zhk N) := by
 have GS : FnOk P w K mg base CX0 2 fS dS ["tree"] (Zdg N) := Zfl FS T TD KI FP bP mP N
 obtain ⟨to, hOpen⟩ := TD.opened
 obtain ⟨tc, hClose⟩ := TD.closed
 refine F.ok scSets (fun vs H Q E h => ?_) (fun cdv A outer s H vs Q E hr h => ?_)
 ·obtain ⟨v, t, rfl, _⟩ := h
  rfl
 ·obtain ⟨v, t, rfl, ht, htr, hz, k⟩ := h
  have hsz : sizeLine = 16777216 := sizeLine_eq
  have hu1 : (_ : Around).units + 1 < cLine := Nat.lt_of_le_of_lt (Nat.add_le_add_left (by decide) _) hr.units
  refine' ⟨?tt, ?body, ?fin⟩
  case body =>
   refine' Z04 ?s1 ?r1
   case s1 => exact Z0c (i := 1) scSets.nd rfl (Or.inl rfl) Zf7
   case r1 =>
    refine' Z04 ?s2 (Z06 (Z0d Z28))
    case s2 =>
     refine' Z44 PassesOwn.never rfl (Z4u (Z07 GS hr (by rfl) mS FS.kp bS .nil Z0f (Z0j (pv 0) Z02))) (Z6o rfl (Z1e (Z0o (i := 2) scSets.nd rfl (Or.inl rfl)) (Z1e (Z0o (i := 3) scSets.nd rfl (Or.inl rfl)) Z4t))) (Z06 ?b)
     case b =>
      refine' Z10 ?c (Z06 ?e1) (Z06 ?e2)
      case c => exact Z0b Z1p (pv 2) (Z1t (v := .str "opened") (by rfl) hOpen ⟨to, rfl⟩) (Z0k _)
      case e1 => exact Z4v hu1 (pv 1) (Z18 Z1s (pv 3) Z05 (fun _ _ => rfl)) (Z0l Z1z (Z5k hu1 (pv 1) (Z18 Z1s (pv 3) Z05 (fun _ _ => rfl)) Z05 ⟨rfl, rfl, rfl, rfl⟩) Z05) rfl
      case e2 =>
       refine' Z10 ?c2 (Z06 ?e3) (Z06 ?e4)
       case c2 => exact Z0b Z1p (pv 2) (Z1t (v := .str "closed") (by rfl) hClose ⟨tc, rfl⟩) (Z0k _)
       case e3 => exact Zid hu1 (pv 1) (Z18 Z1s (pv 3) Z05 (fun _ _ => rfl)) Z05 Zkf (fun _ _ _ => rfl)
       case e4 =>
        refine' Z10 ?c3 (Z06 (Z0d Z28)) Z0g
        case c3 => exact (Z6n (Z0b Z1p (Z18 Z1s (pv 3) Z05 (fun _ _ => rfl)) Z09 (Z0k _)) (Z4s (Z0b Z9c (Z5k hu1 (pv 1) (Z18 Z1s (pv 3) Z05 (fun _ _ => rfl)) Z05 ⟨rfl, rfl, rfl, rfl⟩) Z05 (Z0k _)))).pt
  case fin =>
   intro ld hld
   have sl := Z01 (o := .dK []) hld
   refine ⟨_, rfl, v, t, rfl, IsTh.kp (Kp.of sl) ht, Zn3 N htr, hz, fun wk ws H1 s1 hwk L1 hws => ?_⟩
   have D1 : H1 ld = some (.dK []) := s1 _ _ Z00
   have hwl := IsThs.len _ hws
   rw [List.length_map] at hwl
   have hsl := Z64 t
   obtain ⟨hst, hok⟩ := Zfu N htr
   refine ⟨wk, rfl, ⟨_, SqL.of L1⟩, Zab (K := K) (a := wk) (xs := ws) (fun i σ H' => ∃ (kvs : List (Key × V)) (o2 o3 : Option V), σ = [some v, some (.ref ld), o2, o3] /\ H' ld = some (.dK kvs) /\ LD kvs (((Z0e t).take i).foldl Z1j []) /\ kvs.length <= i /\ Z5m [] ((Z0e t).take i) = false /\ Same H H' /\ H' wk = some (.lst ws) /\ IsThs H' ws ((Z0e t).map pr))
    ⟨[], none, none, rfl, D1, fun x => rfl, Nat.zero_le _, rfl, sl.trans s1, L1, hws⟩ (fun i σ H' _ ⟨_, _, _, _, _, _, _, _, _, e, _⟩ => SqL.of e) ?_ ?_⟩
   ·rintro i x σ H2 hx ⟨kvs, o2, o3, rfl, D2, hLD, hkl, hno, s2, L2', hws2⟩
    obtain ⟨tx, htx, hx2⟩ := Z22 _ hws2 hx
    have hil : i < ws.length := (List.getElem?_eq_some_iff.mp hx).1
    rw [List.getElem?_map] at htx
    obtain ⟨p, hp, rfl⟩ : ∃ p, (Z0e t)[i]? = some p /\ pr p = tx := by
     cases e : (Z0e t)[i]? with
     | none => rw [e] at htx; cases htx
     | some p => rw [e] at htx; exact ⟨p, rfl, by simpa using htx⟩
    have hh := Zfs (Z0e t) [] hp
    rw [hno, Bool.false_or] at hh
    have hfold : ((Z0e t).take (i + 1)).foldl Z1j [] = Z1j (((Z0e t).take i).foldl Z1j []) p := by
     rw [List.take_add_one, hp, List.foldl_append]
     rfl
    have hokp := fun y => Ziz (Z0e t) [] (x := y) (hok []) hp
    obtain ⟨hpt, hpd⟩ := hst p (List.mem_of_getElem? hp)
    generalize ((Z0e t).take i).foldl Z1j [] = bs at hLD hh hfold hokp
    obtain ⟨d, n⟩ := p
    obtain ⟨a, vs2, rfl, ha, hvs2⟩ := Z1v hx2
    cases hvs2 with
    | @cons v1 vr _ _ c1 c2 =>
     cases c2 with
     | @cons v2 vr2 _ _ c3 c4 =>
      cases c4
      obtain ⟨rfl, _⟩ := Z40 c1
      have go : ∀ (kvs' : List (Key × V)) (H3 : Hp), H3 = upd H2 ld (.dK kvs') -> LD kvs' (Z1j bs (d, n)) -> kvs'.length <= i + 1 -> Z9q bs (d, n) = false -> ∃ (kvs : List (Key × V)) (o2 o3 : Option V), [some v, some (V.ref ld), some (.str d), some v2] = [some v, some (.ref ld), o2, o3] /\ H3 ld = some (.dK kvs) /\ LD kvs (((Z0e t).take (i + 1)).foldl Z1j []) /\ kvs.length <= i + 1 /\ Z5m [] ((Z0e t).take (i + 1)) = false /\ Same H H3 /\ H3 wk = some (.lst ws) /\ IsThs H3 ws ((Z0e t).map pr) := by
       rintro kvs' H3 rfl h1 h2 h3
       have kp := Zn4 (o := .dK kvs') D2
       refine ⟨kvs', _, _, rfl, Z00, by rw [hfold]; exact h1, h2, by rw [hh]; exact h3, fun c o e => ?_, kp _ _ L2' (by intro q z; cases z), IsThs.kp kp hws2⟩
       rw [Z0a (Z0h e hld)]
       exact s2 _ _ e
      refine ⟨a, [.str d, v2], rfl, SqT.of ha, rfl, _, _, rfl, _, _, rfl, rfl, ?_⟩
      refine ⟨_, rfl, rfl, _, rfl, Z14 (fun g => ?_) (fun g => ?_)⟩
      ·have hd : d = "opened" := by
        have g' := of_decide_eq_true g
        injection g'
       subst hd
       obtain ⟨x, ks, rfl⟩ : ∃ x ks, n = nd "let" [.str x] ks := by
        rcases hpd with z | ⟨_, x, ks, z⟩
        ·exact absurd z (show ¬ (("opened" : Str) = "node") by decide +kernel)
        ·exact ⟨x, ks, z⟩
       obtain ⟨an, vns, rfl, han, hvns⟩ := Z1v c3
       cases hvns with
       | @cons vh vr' _ _ d1 d2 =>
        cases d2 with
        | @cons vx vr3 _ _ d3 d4 =>
         obtain ⟨rfl, _⟩ := Z40 d3
         have e := hLD x
         refine ⟨_, rfl, ld, rfl, .inl ⟨kvs, .inl D2⟩, _, rfl, an, _, 1, .str x, rfl, rfl, SqT.of han, Z5n _ _ _, _, DGet.k (k := Sum.inr x) D2, _, _, e, rfl, _, rfl, _, rfl, an, _, 1, .str x, rfl, rfl, SqT.of han, Z5n _ _ _, ld, _, rfl, .inl ⟨kvs, Sum.inr x, D2, rfl, by omega, rfl⟩, ?_⟩
         refine go _ _ rfl ?_ (Nat.le_trans (Z2f _ _ _) (by omega)) ?_
         ·unfold Z1j
          rw [if_pos rfl]
          exact hLD.put
         ·unfold Z9q
          rw [show decide (("opened" : Str) = "node") = false from by decide +kernel, Bool.false_and]
      ·have hd : d ≠ "opened" := fun z => g (by rw [z]; decide +kernel)
       refine ⟨_, rfl, rfl, _, rfl, Z14 (fun g2 => ?_) (fun g2 => ?_)⟩
       ·have hd2 : d = "closed" := by
         have g' := of_decide_eq_true g2
         injection g'
        subst hd2
        obtain ⟨x, ks, rfl⟩ : ∃ x ks, n = nd "let" [.str x] ks := by
         rcases hpd with z | ⟨_, x, ks, z⟩
         ·exact absurd z (show ¬ (("closed" : Str) = "node") by decide +kernel)
         ·exact ⟨x, ks, z⟩
        have hxb : x ∈ bs := hokp x rfl rfl
        obtain ⟨an, vns, rfl, han, hvns⟩ := Z1v c3
        cases hvns with
        | @cons vh vr' _ _ d1 d2 =>
         cases d2 with
         | @cons vx vr3 _ _ d3 d4 =>
          obtain ⟨rfl, _⟩ := Z40 d3
          have e := hLD.has hxb
          refine ⟨_, rfl, _, rfl, an, _, 1, .str x, rfl, rfl, SqT.of han, Z5n _ _ _, ld, _, rfl, (by rw [<- e]; exact DGet.k (k := Sum.inr x) D2), _, _, rfl, rfl, _, .inl ⟨kvs, Sum.inr x, D2, rfl, by omega, rfl⟩, ?_⟩
          refine go _ _ rfl ?_ (Nat.le_trans (Z2f _ _ _) (by omega)) ?_
          ·unfold Z1j
           rw [if_neg (show ¬ (("closed" : Str) = "opened") by decide +kernel), if_pos rfl]
           exact hLD.less hxb
          ·unfold Z9q
           rw [show decide (("closed" : Str) = "node") = false from by decide +kernel, Bool.false_and]
       ·have hd2 : d ≠ "closed" := fun z => g2 (by rw [z]; decide +kernel)
        have hdn : d = "node" := by
         rcases hpd with z | ⟨z | z, _⟩
         ·exact z
         ·exact absurd z hd
         ·exact absurd z hd2
        subst hdn
        have hsb : Z1j bs ("node", n) = bs := by
         unfold Z1j
         rw [if_neg hd, if_neg hd2]
        have hhb : Z9q bs ("node", n) = hit bs n := by
         unfold Z9q
         rw [decide_eq_true rfl, Bool.true_and]
        have stay : hit bs n = false -> ∃ (kvs : List (Key × V)) (o2 o3 : Option V), [some v, some (V.ref ld), some (.str "node"), some v2] = [some v, some (.ref ld), o2, o3] /\ H2 ld = some (.dK kvs) /\ LD kvs (((Z0e t).take (i + 1)).foldl Z1j []) /\ kvs.length <= i + 1 /\ Z5m [] ((Z0e t).take (i + 1)) = false /\ Same H H2 /\ H2 wk = some (.lst ws) /\ IsThs H2 ws ((Z0e t).map pr) := fun h3 =>
         ⟨kvs, _, _, rfl, D2, by rw [hfold, hsb]; exact hLD, by omega, by rw [hh, hhb]; exact h3, s2, L2', hws2⟩
        obtain ⟨N', rfl⟩ : ∃ N', N = N' + 1 := by
         cases N with
         | zero => exact hpt.elim
         | succ N' => exact ⟨N', rfl⟩
        obtain ⟨w0, hd0, ks, rfl, q1, q2, q3, q4, q5⟩ := hpt
        obtain ⟨an, vns, rfl, han, hvns⟩ := Z1v c3
        cases hvns with
        | @cons vh vr' _ _ d1 d2 =>
         obtain ⟨rfl, _⟩ := Z40 d1
         refine ⟨_, rfl, an, _, 0, .str w0, rfl, rfl, SqT.of han, Z1w _ _, rfl, _, rfl, Z14 (fun g3 => ?_) (fun g3 => ?_)⟩
         ·have hw : w0 = "set" := by
           have g' := of_decide_eq_true g3
           injection g'
          obtain ⟨x, rfl, _⟩ := q3 hw
          subst hw
          have e := hLD x
          have hhx : hit bs (nd "set" [.str x] ks) = decide (x ∈ bs) := by
           unfold hit
           rw [show Z7s (nd "set" [.str x] ks) = true from decide_eq_true (p := ("set" : Str) = "set") rfl, Bool.true_and]
           rfl
          cases d2 with
          | @cons vx vr3 _ _ d3 d4 =>
           obtain ⟨rfl, _⟩ := Z40 d3
           refine ⟨_, rfl, ld, rfl, .inl ⟨kvs, .inl D2⟩, _, rfl, an, _, 1, .str x, rfl, rfl, SqT.of han, Z5n _ _ _, _, DGet.k (k := Sum.inr x) D2, _, _, e, rfl, _, rfl, Z14 (fun g4 => ?_) (fun g4 => ?_)⟩
           ·have hc : x ∈ bs := List.count_pos_iff.mp (by have := of_decide_eq_true g4; omega)
            have hT : sbB t [] = true := by
             rw [<- (Zb5 (N' + 1) htr []).2]
             refine Zft _ _ (i + 1) ?_
             rw [hh, hhb, hhx, decide_eq_true hc]
            have kk := k H2 s2
            rw [hT] at kk
            exact kk
           ·refine stay ?_
            rw [hhx]
            refine decide_eq_false fun z => g4 (decide_eq_true ?_)
            have := List.count_pos_iff.mpr z
            show (0 : Int) < _
            omega
         ·have hw : w0 ≠ "set" := fun z => g3 (by rw [z]; decide +kernel)
          refine Z4w (stay ?_)
          unfold hit
          rw [show Z7s (nd w0 hd0 ks) = false from decide_eq_false (p := w0 = "set") hw, Bool.false_and]
   ·rintro σ H2 ⟨kvs, o2, o3, rfl, D2, hLD, hkl, hno, s2, L2', hws2⟩
    rw [List.take_of_length_le (by omega), (Zb5 N htr []).2] at hno
    have kk := k H2 s2
    rw [hno] at kk
    exact kk
end
end K02
namespace L2
open PySem PySem.Spec PyProof.Rows
section
variable {X : Cx}
theorem Z76 (hu : X.A.units < cLine) : OpR X (compareOp .Eq) (fun x y H Q => ∃ a b xs, x = .ref a /\ y = .ref b /\ SqT X.K H a xs /\ SqT X.K H b [] /\ Q (.bl xs.isEmpty) H) := by
 intro pins s σ H x y v u Q I rx ry h
 obtain ⟨a, b, xs, rfl, rfl, hx, hy, q⟩ := h
 cases rx
 cases ry
 obtain ⟨its, r, pl, _⟩ := I.tuple hx
 obtain ⟨its2, r2, pl2, _⟩ := I.tuple hy
 cases r2
 refine SeqAt.eq_tupleAt (e := fun _ => true) pl pl2 hu (fun j h1 h2 => by simp at h2) (Z1h I q ?_)
 have hl := r.length
 cases r with
 | nil => rfl
 | cons r rr => simp
def inT (t : Th) (ss : List Str) : Bool := match t with
 | .at v => inV v (ss.map V.str)
 | _ => false
theorem Zc5 (ts : List Str) : (ts.map V.str).all Z33 = true := by
 rw [List.all_map]
 exact List.all_eq_true.mpr fun _ _ => rfl
theorem Zb6 : ∀ {ss : List Str} {us : List Value}, Vals (ss.map V.str) us -> ∀ u ∈ us, ∃ x t, u = Value.str x t := by
 intro ss
 induction ss with
 | nil => intro us r u hu; cases r; cases hu
 | cons x ss ih =>
  intro us r u hu
  cases r with
  | cons r1 rr =>
   obtain ⟨t, rfl⟩ := r1
   rcases List.mem_cons.mp hu with rfl | hu
   ·exact ⟨x, t, rfl⟩
   ·exact ih rr u hu
theorem Zc6 (hu : X.A.units + 1 < cLine) : OpR X (compareOp .In) (fun x y H Q => ∃ p t ss, y = .ref p /\ SqL X.K H p (ss.map V.str) /\ IsTh H x t /\ Q (.bl (inT t ss)) H) := by
 intro pins s σ H x y v u Q I rx ry h
 obtain ⟨p, t, ss, rfl, hq, ht, q⟩ := h
 cases ht with
 | «at» f =>
  have fx : Z33 x = true := by
   cases x with
   | non => rfl
   | bl b => rfl
   | int i => rfl
   | str z => rfl
   | _ => exact absurd (show false = true from f) Bool.false_ne_true
  exact Z1k pins s σ H x (.ref p) v u Q I rx ry ⟨p, _, rfl, .inl hq, fx, Zc5 ss, q⟩
 | @tup a xs ts ha hxs =>
  cases rx
  cases ry
  obtain ⟨its, r, pl, _⟩ := I.list hq
  obtain ⟨its2, r2, pl2, _⟩ := I.tuple (SqT.of ha)
  refine SeqAt.in_listAt (fun _ => false) pl.isList (fun w hw => ?_) ⟨.bl _, H, I, rfl, ?_⟩
  ·obtain ⟨z, tk, rfl⟩ := Zb6 r w (by simpa using hw)
   exact SeqAt.EqAt.str_tuple z tk pl2 (by show X.A.units + 1 < cLine; exact hu)
  ·rw [show its.toArray.any (fun _ => false) = false by simp]
   exact q
 | @lst a xs ts ha hxs =>
  cases rx
  cases ry
  obtain ⟨its, r, pl, _⟩ := I.list hq
  obtain ⟨its2, r2, pl2, _⟩ := I.list (SqL.of ha)
  refine SeqAt.in_listAt (fun _ => false) pl.isList (fun w hw => ?_) ⟨.bl _, H, I, rfl, ?_⟩
  ·obtain ⟨z, tk, rfl⟩ := Zb6 r w (by simpa using hw)
   exact SeqAt.EqAt.str_list z tk pl2.isList (by show X.A.units + 1 < cLine; exact hu)
  ·rw [show its.toArray.any (fun _ => false) = false by simp]
   exact q
end
end L2
namespace K02
open PySem L2
theorem Z2y {xs : List V} (h : xs.length <= 1000) : xs.length <= sizeLine := Nat.le_trans h (by decide)
def exB (bs : List Str) (t : Th) : Bool := treeT t && !sbB t bs
def Z9s (N : Nat) : Sp := fun vs H Q _ => ∃ (v : V) (t : Th), vs = [v] /\ IsTh H v t /\ Th.sz t <= 100000 /\ L2.dp t <= N /\ ∀ H', Same H H' -> Q (.bl (exB [] t)) H'
def spLWhole : Sp := fun vs H Q _ => ∃ (v : V) (m : Int) (t : Th), vs = [v, .int m] /\ IsTh H v t /\ ∀ H', Same H H' -> Q (.bl (Z11 t (some m))) H'
section
variable {P : Program} {w : World} {K : PySem.W.Frag} {mg : Str -> Option Value} {base : Heap}
theorem Zfv : FnScope ["thing"] ["thing"] (Z03 Z54) := ⟨rfl, rfl, rfl, by decide +kernel, rfl, by decide +kernel, by decide +kernel⟩
theorem Zdo {f fT fR fB : Addr} {fd dT dB : FuncData} (F : Fun K "is_expression" "is_expression" Z54 f fd) (GT : FnOk P w K mg base CX0 4 fT dT ["thing", "rule_of"] (Zhg fR)) (FT : Fun K "is_tree" "is_tree" Zdc fT dT) (bT : Binds K dT ["thing", "rule_of"] []) (mT : mg "is_tree" = some (.ref fT))
  (mR : mg "expression_rule" = some (.ref fR)) (N : Nat) (GB : FnOk P w K mg base CX0 3 fB dB ["e"] (Zhk N)) (FB : Fun K "sets_bound" "sets_bound" Z2v fB dB) (bB : Binds K dB ["e"] []) (mB : mg "sets_bound" = some (.ref fB)) : FnOk P w K mg base CX0 5 f fd ["thing"] (Z9s N) := by
 refine F.ok Zfv (fun vs H Q E h => ?_) (fun cdv A outer s H vs Q E hr h => ?_)
 ·obtain ⟨v, t, rfl, _⟩ := h
  rfl
 ·obtain ⟨v, t, rfl, ht, hz, hd, k⟩ := h
  have hr3 : Room 3 _ := hr.mono (by decide)
  refine' ⟨?tt, ?body, ?fin⟩
  case body =>
   refine' Z06 (Z0d (Z2r ?a (Z39 (Zch ?b))))
   case a => exact Z07 GT hr (by rfl) mT FT.kp bT .nil Z0f (Z0j (pv 0) (Z0j (Z1t (v := .ref fR) (by rfl) mR rfl) Z02))
   case b => exact Z07 GB hr3 (by rfl) mB FB.kp bB .nil Z0f (Z0j (pv 0) Z02)
  case fin =>
   unfold exB at k
   refine ⟨_, rfl, v, t, rfl, ht, Nat.le_trans hz (by decide), fun H1 s1 => ⟨_, rfl, Z14 (fun g => ?_) (fun g => ?_)⟩⟩
   ·rw [g] at k
    exact ⟨_, rfl, v, t, rfl, IsTh.kp (Kp.of s1) ht, Ziy N g hd, hz, fun H2 s2 => ⟨_, rfl, k H2 (s1.trans s2)⟩⟩
   ·rw [show treeT t = false by simpa using g] at k
    exact k H1 s1
theorem Zfw : FnScope ["_law_thing", "_law_most"] ["_law_thing", "_law_most"] (Z03 Z3h) := ⟨rfl, rfl, rfl, by decide +kernel, rfl, by decide +kernel, by decide +kernel⟩
theorem Zdp {f : Addr} {fd : FuncData} (F : Fun K "_law_whole" "_law_whole" Z3h f fd) (T : TxtT mg) (KI : Kits K) : FnOk P w K mg base CX0 1 f fd ["_law_thing", "_law_most"] spLWhole := by
 refine F.ok Zfw (fun vs H Q E h => ?_) (fun cdv A outer s H vs Q E hr h => ?_)
 ·obtain ⟨v, m, t, rfl, _⟩ := h
  rfl
 ·obtain ⟨v, m, t, rfl, ht, k⟩ := h
  refine' ⟨?tt, ?body, ?fin⟩
  case body =>
   refine' Z06 (Z0d (Z2r ?a (Z2r ?b (Z39 ?c))))
   case a => exact Z0i Z0t (by rfl) T.isi (by decide +kernel) (Z0j (pv 0) (Z0j (Z1i (v := .ty "int") (by rfl) T.int (by decide +kernel) rfl) Z02))
   case b => exact Zch (Z0i Z0t (by rfl) T.isi (by decide +kernel) (Z0j (pv 0) (Z0j (Z1i (v := .ty "bool") (by rfl) T.bl (by decide +kernel) rfl) Z02)))
   case c => exact Z45 Z6g Z6g Z05 (pv 0) (pv 1)
  case fin =>
   cases hw : Z4i t with
   | false =>
    have e := Z7p hw (some m)
    have kf : Q (.bl false) H := e ▸ k H (Same.refl H)
    have hq := Zb1 t
    rw [hw] at hq
    refine ⟨_, rfl, _, _, _, _, rfl, Z35 ht, KI.int ht, _, rfl, Z14 (fun g => ?_) (fun g => kf)⟩
    rw [g, Bool.true_and] at hq
    exact ⟨_, rfl, _, _, _, _, rfl, Z35 ht, KI.bl ht, _, rfl, _, rfl, Z14 (fun z => by rw [hq] at z; cases z) (fun _ => kf)⟩
   | true =>
    obtain ⟨i, rfl, rfl⟩ := Z66 ht hw
    refine ⟨_, rfl, _, _, _, _, rfl, Z35 ht, KI.int ht, _, rfl, Z34 ⟨_, rfl, _, _, _, _, rfl, Z35 ht, KI.bl ht, _, rfl, _, rfl, Z34 ⟨_, rfl, _, _, rfl, rfl, _, rfl, Z14 (fun g1 => ?_) (fun g1 => ?_)⟩⟩⟩
    ·refine ⟨_, rfl, _, _, rfl, rfl, ?_⟩
     have e : Z11 (.at (.int i)) (some m) = decide (i <= m) := by
      show (decide (0 <= i) && decide (i <= m)) = _
      rw [g1, Bool.true_and]
     show Q (.bl (decide (i <= m))) H
     rw [<- e]
     exact k H (Same.refl H)
    ·have e : Z11 (.at (.int i)) (some m) = false := by
      show (decide (0 <= i) && decide (i <= m)) = _
      rw [show decide (0 <= i) = false by simpa using g1, Bool.false_and]
     exact e ▸ k H (Same.refl H)
def spWordsV : Sp := fun vs H Q _ => vs = [] /\ ∀ l, H l = none -> Q (.ref l) (upd H l (.lst wordsV))
theorem Zfx : FnScope [] [] (Z03 Z3g) := ⟨rfl, rfl, rfl, by decide +kernel, rfl, by decide +kernel, by decide +kernel⟩
theorem Zdq {f : Addr} {fd : FuncData} (F : Fun K "_law_words" "_law_words" Z3g f fd) : FnOk P w K mg base CX0 1 f fd [] spWordsV := by
 have hb : ∃ p1 p2 es, Z0n Z3g = [.Return (some (.List es p1)) p2] /\ es.map Z3w = wordsV.map some := ⟨_, _, _, rfl, rfl⟩
 obtain ⟨p1, p2, es, hb, he⟩ := hb
 refine F.ok Zfx (fun vs H Q E h => ?_) (fun cdv A outer s H vs Q E hr h => ?_)
 ·obtain ⟨rfl, _⟩ := h
  rfl
 ·obtain ⟨rfl, k⟩ := h
  rw [hb]
  refine ⟨_, Z06 (Z0d (Z0y (Z49 (vs := wordsV) he))), ?_⟩
  exact ⟨Z2y (by decide +kernel), fun l hl => k l hl⟩
theorem Zdr : FnScope ["_law_thing"] ["_law_thing"] (Z03 Z23) := ⟨rfl, rfl, rfl, by decide +kernel, rfl, by decide +kernel, by decide +kernel⟩
theorem Zc7 {f aW fW : Addr} {fd fdW : FuncData} (F : Fun K "_law_is_name" "_law_is_name" Z23 f fd) (T : TxtN K mg aW) (FW : Fun K "_law_words" "_law_words" Z3g fW fdW) (bW : Binds K fdW [] []) (mW : mg "_law_words" = some (.ref fW)) :
  FnOk P w K mg base CX0 2 f fd ["_law_thing"] (Zhe K) := by
 have GW : FnOk P w K mg base CX0 1 fW fdW [] spWordsV := Zdq FW
 refine F.ok Zdr (fun vs H Q E h => ?_) (fun cdv A outer s H vs Q E hr h => ?_)
 ·obtain ⟨v, rfl, _⟩ := h
  rfl
 ·obtain ⟨v, rfl, h⟩ := h
  have hu0 := hr.units0
  refine ⟨_, Z04 (Z10 (Z3r (Z2q (Z2c (Z0i Z0t (by rfl) T.isi (by decide +kernel) (Z08 (pv 0) (Z08 (Z1i (v := .ty "str") (by rfl) T.str (by decide +kernel) rfl) Z02)))))
    (Z3r (Z0b Zkc (Z0i Z2i (by rfl) T.len PySem.boot_len (Z08 (pv 0) Z02)) Z05 (Z0k _))
    (Z3r (Z0b Z9c (Z0i Z2i (by rfl) T.len PySem.boot_len (Z08 (pv 0) Z02)) Z05 (Z0k _))
    (Z3u (Z0b Z1k (pv 0) (Z7g GW hr (by rfl) mW FW.kp bW .nil Z0f) (by with_unfolding_all rfl)))))).pt (Z06 (Z0d Z28)) Z0g) <|
   Z06 (Z0d (Z2n (Z6y hu0) (Z21 (N' := ["_law_sign"]) (src := [none]) rfl (Z0m (Z03 Z23) rfl ["_law_thing"] rfl (by decide +kernel)) (Zh7 (pv 0))
    (fun cl C ex s0 H0 => ⟨Z0o (i := 0) (nd1 _) rfl (Or.inl rfl), Z4y (Z3r (Z0b Zcm (pv 0) Z09 (Z0k _)) (Z3u (Z0b Zd2 (pv 0) Z09 (Z0k _)))).pt, pv 0⟩)) (Z0y Z02) (Z0k _))), ?_⟩
  rcases h with ⟨x, rfl, hx, k⟩ | ⟨⟨ty, hty, hk⟩, k⟩
  ·have hl := Z8y hx
   refine ⟨_, rfl, _, _, .type "str", true, rfl, .str x, Z7q _ _, _, rfl, Z4w ?_⟩
   refine ⟨_, rfl, x, rfl, hl, _, _, rfl, rfl, _, rfl, ?_⟩
   refine Z14 (fun h1 => ?_) (fun h1 => ?_)
   ·refine Z34 ?_
    have e : Z13 x = false := by
     unfold Z13
     have : decide (1 <= x.length) = false := by
      rw [decide_eq_true_eq] at h1
      rw [decide_eq_false_iff_not]
      omega
     rw [this, Bool.false_and]
    rw [e] at k
    exact k H (Same.refl H)
   ·refine ⟨_, rfl, x, rfl, hl, _, _, rfl, rfl, _, rfl, ?_⟩
    refine Z14 (fun h2 => ?_) (fun h2 => ?_)
    ·refine Z34 ?_
     have e : Z13 x = false := by
      unfold Z13
      have : decide (x.length <= 8) = false := by
       rw [decide_eq_true_eq] at h2
       rw [decide_eq_false_iff_not]
       omega
      rw [this, Bool.false_and, Bool.and_false]
     rw [e] at k
     exact k H (Same.refl H)
    ·refine ⟨_, rfl, rfl, fun lw hlw => ⟨lw, wordsV, rfl, .inl (SqL.of Z00), rfl, Z8x, _, rfl, ?_⟩⟩
     have s1 : Same H (upd H lw (.lst wordsV)) := Z01 hlw
     refine Z14 (fun h3 => ?_) (fun h3 => ?_)
     ·have e : Z13 x = false := by
       unfold Z13
       have h3' : inV (.str x) wordsV = true := h3
       rw [h3', Bool.not_true, Bool.false_and, Bool.and_false, Bool.and_false]
      rw [e] at k
      exact k _ s1
     ·refine ⟨_, rfl, x, rfl, Zaq (x := x) (fun i ys σc H' => ∃ o, σc = [o] /\ ys = ((x.cps.toList.take i).filter fun c => !az c).map (fun c => V.str ⟨#[c]⟩) /\ H' = upd H lw (.lst wordsV)) ⟨none, rfl, rfl, rfl⟩ ?_ ?_⟩
      ·rintro i c ys σc H' hc hi ⟨o, rfl, rfl, rfl⟩
       have hc' : x.cps.toList[i]? = some c := by simpa using hc
       refine ⟨?_, ?_⟩
       ·rw [List.length_map]
        have h4 := List.length_filter_le (fun c => !az c) (x.cps.toList.take i)
        rw [List.length_take] at h4
        have h2 : x.cps.toList.length = x.length := by simp [Str.length]
        have h3 : x.cps.size = x.length := rfl
        have : sizeLine = 16777216 := sizeLine_eq
        omega
       ·refine ⟨_, rfl, _, _, rfl, rfl, _, rfl, ?_⟩
        refine Z14 (fun g1 => ?_) (fun g1 => ?_)
        ·refine Z34 ⟨_, rfl, nx hi ⟨_, rfl, ?_, rfl⟩⟩
         rw [Zm6, decide_eq_true_eq] at g1
         have e : az c = false := by unfold az; rw [decide_eq_false (show ¬ 97 <= c by omega), Bool.false_and]
         rw [Z55 _ _ hc', e]; rfl
        ·refine ⟨_, rfl, _, _, rfl, rfl, _, rfl, ?_⟩
         rw [Zm6, decide_eq_true_eq] at g1
         refine Z14 (fun g2 => ?_) (fun g2 => ?_)
         ·refine ⟨_, rfl, nx hi ⟨_, rfl, ?_, rfl⟩⟩
          rw [Zn0, decide_eq_true_eq] at g2
          have e : az c = false := by unfold az; rw [decide_eq_false (show ¬ c <= 122 by omega), Bool.and_false]
          rw [Z55 _ _ hc', e]; rfl
         ·refine nx hi ⟨_, rfl, ?_, rfl⟩
          rw [Zn0, decide_eq_true_eq] at g2
          have e : az c = true := by unfold az; rw [decide_eq_true (show 97 <= c by omega), decide_eq_true (show c <= 122 by omega)]; rfl
          rw [Z55 _ _ hc', e]; simp
      ·rintro ys σc H' ⟨o, rfl, rfl, rfl⟩ l hl'
       refine ⟨Nat.zero_le _, fun e he => ⟨l, e, _, [], rfl, rfl, SqL.of (Z01 he _ _ Z00), SqL.of Z00, ?_, rfl, ?_⟩⟩
       ·rw [List.all_map]; exact List.all_eq_true.mpr fun _ _ => rfl
       ·have e : Z13 x = Zh8 (((x.cps.toList.take x.cps.size).filter fun c => !az c).map fun c => V.str ⟨#[c]⟩) [] := by
         unfold Z13
         have h1' : decide (1 <= x.length) = true := by
          rw [decide_eq_true_eq] at h1 ⊢
          omega
         have h2' : decide (x.length <= 8) = true := by
          rw [decide_eq_true_eq] at h2 ⊢
          omega
         have h3' : inV (.str x) wordsV = false := by
          cases q : inV (.str x) wordsV with
          | false => rfl
          | true => exact absurd q h3
         rw [h1', h2', h3', List.take_of_length_le (by simp)]
         show x.cps.toList.all az = _
         generalize x.cps.toList = l
         unfold Zh8
         rw [List.length_map, List.length_nil]
         induction l with
         | nil => rfl
         | cons c r ih =>
          cases hc : az c with
          | true => rw [List.all_cons, hc, Bool.true_and, List.filter_cons, if_neg (by rw [hc]; decide)]; exact ih
          | false => rw [List.all_cons, hc, Bool.false_and, List.filter_cons, if_pos (by rw [hc]; rfl)]; rfl
        rw [<- e]
        exact k _ ((s1.trans (Z01 hl')).trans (Z01 he))
  ·refine ⟨_, rfl, _, _, ty, false, rfl, hty, hk, _, rfl, Z34 (Z34 ?_)⟩
   exact k H (Same.refl H)
theorem Z9t {f aW fW : Addr} {fd fdW : FuncData} (F : Fun K "_law_is_name" "_law_is_name" Z23 f fd) (T : TxtN K mg aW) (KI : Kits K) (FW : Fun K "_law_words" "_law_words" Z3g fW fdW) (bW : Binds K fdW [] []) (mW : mg "_law_words" = some (.ref fW)) : FnOk P w K mg base CX0 2 f fd ["_law_thing"] (Z3i nameB) :=
 (Zc7 F T FW bW mW).imp fun vs H Q E h => by
  obtain ⟨v, t, rfl, ht, k⟩ := h
  refine ⟨v, rfl, ?_⟩
  cases g : Z4h t with
  | true =>
   obtain ⟨x, rfl, rfl, hx⟩ := Z8v ht g
   exact .inl ⟨x, rfl, hx, k⟩
  | false =>
   refine .inr ⟨⟨_, Z35 ht, by rw [KI.str ht, g]⟩, fun H' s => ?_⟩
   have e := Zdj g
   exact e ▸ k H' s
end
end K02
namespace L2
open PySem PySem.Spec PyProof.Rows
def evC : Const -> Option Th
 | .int i => some (.at (.int i))
 | .str x => if x.length <= 1000 then some (.at (.str x)) else none
 | .bool b => some (.at (.bl b))
 | .none => some (.at .non)
 | _ => none
def evs (f : Expr -> Option Th) : List Expr -> Option (List Th)
 | [] => some []
 | e :: es => match f e, evs f es with
  | some t, some ts => some (t :: ts)
  | _, _ => none
def evB : Operator -> Th -> Th -> Option Th
 | .Add, .tup a, .tup b => if a.length + b.length <= 1000 then some (.tup (a ++ b)) else none
 | .Add, .lst a, .lst b => if a.length + b.length <= 1000 then some (.lst (a ++ b)) else none
 | .Mult, .tup a, .at (.int n) => if 2 <= n /\ n <= 100 /\ 1 <= a.length /\ a.length <= 10 then some (.tup (List.replicate n.toNat a).flatten) else none
 | .Pow, .at (.int i), .at (.int j) => if 0 <= j /\ j <= 1000 /\ i.natAbs < 18446744073709551616 then some (.at (.int (i ^ j.toNat))) else none
 | _, _, _ => none
abbrev Gm := List (Str × Nat × Th)
def lk (G : Gm) (x : Str) : Option (Nat × Th) := (G.find? fun p => decide (p.1 = x)).map (·.2)
def ev (G : Gm) : Nat -> Expr -> Option Th
 | 0, _ => none
 | n + 1, e => match e with
  | .Constant c _ _ => evC c
  | .Name x _ => (lk G x).map (·.2)
  | .Tuple es _ _ => (match evs (ev G n) es with
   | some ts => if ts.length <= 1000 then some (.tup ts) else none
   | none => none)
  | .List es _ => (match evs (ev G n) es with
   | some ts => if ts.length <= 1000 then some (.lst ts) else none
   | none => none)
  | .UnaryOp op a _ => (match op, ev G n a with
   | .USub, some (.at (.int i)) => some (.at (.int (-i)))
   | _, _ => none)
  | .BinOp a op b _ => (match ev G n a, ev G n b with
   | some t, some u => evB op t u
   | _, _ => none)
  | .Subscript a (.Constant (.int i) _ _) _ => (match ev G n a with
   | some (.tup ts) => if 0 <= i then ts[i.toNat]? else none
   | _ => none)
  | _ => none
theorem Zj1 {G : Gm} {n : Nat} {e : Expr} {r : Th} (h : ev G n e = some r) (env : Env) (es : List Expr) : starEach (e :: es) env = (false, eval e env) :: starEach es env := by
 cases n with
 | zero => cases h
 | succ n =>
  cases e with
  | Constant _ _ _ => rfl
  | Name _ _ => rfl
  | Tuple _ _ _ => rfl
  | List _ _ => rfl
  | UnaryOp _ _ _ => rfl
  | BinOp _ _ _ _ => rfl
  | Subscript _ _ _ => rfl
  | _ => cases h
def EvOk (G : Gm) (σ : St) (H : Hp) : Prop := ∀ p ∈ G, ∃ v, σ[p.2.1]? = some (some v) /\ IsTh H v p.2.2
theorem EvOk.same {G : Gm} {σ : St} {H H' : Hp} (E : EvOk G σ H) (s : Same H H') : EvOk G σ H' := fun p hp => by
 obtain ⟨v, e, q⟩ := E p hp
 exact ⟨v, e, IsTh.kp (Kp.of s) q⟩
theorem ev0 {σ : St} {H : Hp} : EvOk [] σ H := fun p hp => by cases hp
def TEv (G : Gm) (t : Th) : TE := fun σ H Q => EvOk G σ H /\ ∀ v H', Same H H' -> IsTh H' v t -> Q v H'
def Zom (G : Gm) (ts : List Th) : TA := fun σ H Q => EvOk G σ H /\ ∀ vs H', Same H H' -> IsThs H' vs ts -> Q vs H'
section
variable {X : Cx} {G : Gm}
def Zm7 (X : Cx) (G : Gm) : Prop := ∀ p ∈ G, X.N[p.2.1]? = some p.1 /\ Vis X.env.scope p.1 /\ (p.1 == ("__debug__" : Str)) = false /\ (p.1 == ("__classdict__" : Str)) = false
theorem Zn5 : Zm7 X [] := fun p hp => by cases hp
theorem Zl1 {x : Str} {i : Nat} {t : Th} (h : lk G x = some (i, t)) : (x, i, t) ∈ G := by
 unfold lk at h
 cases e : G.find? fun p => decide (p.1 = x) with
 | none => rw [e] at h; cases h
 | some p =>
  rw [e] at h
  have h1 := Option.some.inj h
  have h2 := List.mem_of_find?_eq_some e
  have h3 := List.find?_some e
  have h4 : p.1 = x := of_decide_eq_true h3
  obtain ⟨p1, p2⟩ := p
  simp only at h1 h4
  subst h1 h4
  exact h2
theorem Zb7 {e : Expr} {v : V} {t : TE} (h : PE X e t) (i : ∀ σ H Q, Q v H -> t σ H Q) (hf : Z3e v = true) : PE X e (TEv G (.at v)) :=
 Z0z h fun σ H Q ⟨_, q⟩ => i σ H Q (q v H (Same.refl H) (.at hf))
theorem Zl2 {c : Const} {j : Nat} {p : Pos} {t : Th} (h : evC c = some t) : PE X (.Constant c j p) (TEv G t) := by
 cases c with
 | int i => cases h; exact Zb7 Z05 (fun σ H Q q => q) rfl
 | str x =>
  have h : (if x.length <= 1000 then some (Th.at (V.str x)) else none) = some t := h
  by_cases hx : x.length <= 1000
  ·rw [if_pos hx] at h
   cases h
   exact Zb7 Z09 (fun σ H Q q => q) (decide_eq_true hx)
  ·rw [if_neg hx] at h; cases h
 | bool b => cases h; exact Zb7 Z28 (fun σ H Q q => q) rfl
 | none => cases h; exact Zb7 Za9 (fun σ H Q q => q) rfl
 | _ => cases h
theorem Zhl {f : Expr -> Option Th} : ∀ (es : List Expr) {ts : List Th}, (∀ e t, f e = some t -> PE X e (TEv G t)) -> (∀ e r es, f e = some r -> starEach (e :: es) X.env = (false, eval e X.env) :: starEach es X.env) -> evs f es = some ts -> PA X es (Zom G ts) := by
 intro es
 induction es with
 | nil => intro ts _ _ h; cases h; exact Zas Z02 fun σ H Q ⟨_, q⟩ => q [] H (Same.refl H) .nil
 | cons e es ih =>
  intro ts hf hs h
  unfold evs at h
  split at h
  ·rename_i t1 ts2 h1 h2
   cases h
   refine Zas (Z08 (hf e t1 h1) (ih hf hs h2) (hs e _ es h1)) fun σ H Q ⟨E, q⟩ => ⟨E, fun x H1 s1 d1 => ⟨E.same s1, fun xs H2 s2 d2 => ?_⟩⟩
   exact q (x :: xs) H2 (s1.trans s2) (.cons (IsTh.kp (Kp.of s2) d1) d2)
  ·cases h
theorem Zfy {H : Hp} {vs : List V} {ts : List Th} (h : IsThs H vs ts) : ∀ n : Nat, IsThs H (List.replicate n vs).flatten (List.replicate n ts).flatten := by
 intro n
 induction n with
 | zero => exact .nil
 | succ n ih => rw [List.replicate_succ, List.replicate_succ, List.flatten_cons, List.flatten_cons]; exact IsThs.app _ h ih
theorem Zb8 {n : Nat} (h : n <= 1000) : n <= sizeLine := Nat.le_trans h (by decide)
theorem Zb9 {a b : Expr} {op : Operator} {pos : Pos} {t u z : Th} {r : R2} (ho : OpR X (binaryOp op) r) (ha : PE X a (TEv G t)) (hb : PE X b (TEv G u)) (h : ∀ x y H Q, IsTh H x t -> IsTh H y u -> (∀ v H', Same H H' -> IsTh H' v z -> Q v H') -> r x y H Q) : PE X (.BinOp a op b pos) (TEv G z) :=
 Z0z (Z0l ho ha hb) fun σ H Q ⟨E, q⟩ => ⟨E, fun x H1 s1 d1 => ⟨E.same s1, fun y H2 s2 d2 => h x y H2 Q (IsTh.kp (Kp.of s2) d1) d2 fun v H' s d => q v H' ((s1.trans s2).trans s) d⟩⟩
theorem Zl3 {a b : Expr} {op : Operator} {pos : Pos} {t u z : Th} (ha : PE X a (TEv G t)) (hb : PE X b (TEv G u)) (h : evB op t u = some z) : PE X (.BinOp a op b pos) (TEv G z) := by
 unfold evB at h
 split at h
 ·rename_i ts us
  split at h
  ·rename_i hl
   cases h
   refine Zb9 Z5w ha hb fun x y H Q h1 h2 q => ?_
   obtain ⟨p1, vs, rfl, a1, a2⟩ := Z1v h1
   obtain ⟨p2, ws, rfl, b1, b2⟩ := Z1v h2
   have l1 := IsThs.len _ a2
   have l2 := IsThs.len _ b2
   exact ⟨p1, p2, vs, ws, rfl, rfl, a1, b1, Zb8 (by omega), fun p H' s hp => q _ H' s (.tup hp (IsThs.app _ (IsThs.kp (Kp.of s) a2) (IsThs.kp (Kp.of s) b2)))⟩
  ·cases h
 ·rename_i ts us
  split at h
  ·rename_i hl
   cases h
   refine Zb9 Z2e ha hb fun x y H Q h1 h2 q => ?_
   obtain ⟨p1, vs, rfl, a1, a2⟩ := Zat h1
   obtain ⟨p2, ws, rfl, b1, b2⟩ := Zat h2
   have l1 := IsThs.len _ a2
   have l2 := IsThs.len _ b2
   refine ⟨p1, p2, vs, ws, rfl, rfl, a1, b1, Zb8 (by omega), fun p hp => ?_⟩
   have s := Z01 (o := .lst (vs ++ ws)) hp
   exact q _ _ s (.lst Z00 (IsThs.app _ (IsThs.kp (Kp.of s) a2) (IsThs.kp (Kp.of s) b2)))
  ·cases h
 ·rename_i ts n
  split at h
  ·rename_i hm
   obtain ⟨m1, m2, m3, m4⟩ := hm
   cases h
   refine Zb9 Zii ha hb fun x y H Q h1 h2 q => ?_
   obtain ⟨p1, vs, rfl, a1, a2⟩ := Z1v h1
   obtain ⟨rfl, _⟩ := Z40 h2
   have l1 := IsThs.len _ a2
   refine ⟨p1, n, vs, rfl, rfl, SqT.of a1, (fun z => by rw [z] at l1; simp at l1; omega), m1, by omega, by omega, fun p hp => ?_⟩
   have s := Z01 (o := .tup (List.replicate n.toNat vs).flatten) hp
   exact q _ _ s (.tup Z00 (Zfy (IsThs.kp (Kp.of s) a2) _))
  ·cases h
 ·rename_i i j
  split at h
  ·rename_i hm
   cases h
   refine Zb9 Zcl ha hb fun x y H Q h1 h2 q => ?_
   obtain ⟨rfl, _⟩ := Z40 h1
   obtain ⟨rfl, _⟩ := Z40 h2
   exact ⟨i, j, rfl, rfl, ⟨hm.1, by omega, hm.2.2⟩, q _ H (Same.refl H) (.at rfl)⟩
  ·cases h
 ·cases h
theorem Zn6 (C : Zm7 X G) : ∀ (n : Nat) (e : Expr) (t : Th), ev G n e = some t -> PE X e (TEv G t) := by
 intro n
 induction n with
 | zero => intro e t h; cases h
 | succ n ih =>
  intro e t h
  have hs : ∀ (e : Expr) (r : Th) (es : List Expr), ev G n e = some r -> starEach (e :: es) X.env = (false, eval e X.env) :: starEach es X.env := fun e r es h => Zj1 h X.env es
  unfold ev at h
  split at h
  ·exact Zl2 h
  ·rename_i x p
   cases h1 : lk G x with
   | none => rw [h1] at h; cases h
   | some r =>
    obtain ⟨i, k1⟩ := r
    rw [h1] at h
    cases h
    have hm := Zl1 h1
    obtain ⟨g1, g2, g3, g4⟩ := C _ hm
    refine Z0z (Z81 g1 g2 g3 g4) fun σ H Q ⟨E, q⟩ => ?_
    obtain ⟨v, e, dv⟩ := E _ hm
    exact ⟨v, e, q v H (Same.refl H) dv⟩
  ·split at h
   ·rename_i ts h1
    split at h
    ·rename_i hl
     cases h
     refine Z0z (Z12 (Zhl _ ih hs h1)) fun σ H Q ⟨E, q⟩ => ⟨E, fun xs H1 s1 d1 => ⟨Zb8 (by have := IsThs.len _ d1; omega), fun p hp => ?_⟩⟩
     have s := Z01 (o := .tup xs) hp
     exact q _ _ (s1.trans s) (.tup Z00 (IsThs.kp (Kp.of s) d1))
    ·cases h
   ·cases h
  ·split at h
   ·rename_i ts h1
    split at h
    ·rename_i hl
     cases h
     refine Z0z (Z0y (Zhl _ ih hs h1)) fun σ H Q ⟨E, q⟩ => ⟨E, fun xs H1 s1 d1 => ⟨Zb8 (by have := IsThs.len _ d1; omega), fun p hp => ?_⟩⟩
     have s := Z01 (o := .lst xs) hp
     exact q _ _ (s1.trans s) (.lst Z00 (IsThs.kp (Kp.of s) d1))
    ·cases h
   ·cases h
  ·split at h
   ·rename_i i h1
    cases h
    refine Z0z (Zf2 Zac (ih _ _ h1)) fun σ H Q ⟨E, q⟩ => ⟨E, fun x H1 s1 d1 => ?_⟩
    obtain ⟨rfl, _⟩ := Z40 d1
    exact ⟨i, rfl, q _ H1 s1 (.at rfl)⟩
   ·cases h
  ·split at h
   ·rename_i t1 u1 h1 h2
    exact Zl3 (ih _ _ h1) (ih _ _ h2) h
   ·cases h
  ·rename_i a i j p pos
   split at h
   ·rename_i ts h1
    split at h
    ·rename_i hi
     refine Z0z (Z18 Z1s (ih _ _ h1) Z05 (fun _ _ => rfl)) fun σ H Q ⟨E, q⟩ => ⟨E, fun x H1 s1 d1 => ?_⟩
     obtain ⟨p1, vs, rfl, a1, a2⟩ := Z1v d1
     have l1 := IsThs.len _ a2
     obtain ⟨hlt, _⟩ := List.getElem?_eq_some_iff.mp h
     obtain ⟨v, hv⟩ : ∃ v, vs[i.toNat]? = some v := ⟨_, List.getElem?_eq_getElem (by omega)⟩
     obtain ⟨t', e1, e2⟩ := Z22 _ a2 hv
     rw [h] at e1
     cases e1
     have ei : i = (i.toNat : Int) := by omega
     exact ⟨p1, vs, i, v, rfl, rfl, SqT.of a1, by rw [ei]; exact Z32 hv, q v H1 s1 e2⟩
    ·cases h
   ·cases h
  ·cases h
end
def evD (f : Expr -> Option Th) : List (Option Expr) -> List Expr -> Option (List (Str × Th))
 | [], [] => some []
 | some (.Constant (.str k) _ _) :: ks, v :: vs => match f v, evD f ks vs with
  | some t, some r => some ((k, t) :: r)
  | _, _ => none
 | _, _ => none
abbrev kvD (ps : List (Str × Th)) (vs : List V) : List (Key × V) := (ps.map fun p => (Sum.inr p.1 : Key)).zip vs
def Z90 (ps : List (Str × Th)) (x : Str) : Option Th := (ps.find? fun p => decide (p.1 = x)).map (·.2)
theorem Zfz {H : Hp} {x : Str} : ∀ {ps : List (Str × Th)} {vs : List V}, IsThs H vs (ps.map (·.2)) -> (Z90 ps x = none /\ Z2h (kvD ps vs) (Sum.inr x) = none) ∨ ∃ t v, Z90 ps x = some t /\ Z2h (kvD ps vs) (Sum.inr x) = some v /\ IsTh H v t := by
 intro ps
 induction ps with
 | nil => intro vs h; exact .inl ⟨rfl, rfl⟩
 | cons p ps ih =>
  intro vs h
  obtain ⟨k, t⟩ := p
  rw [List.map_cons] at h
  cases h with
  | @cons v vs' _ _ h1 h2 =>
   by_cases e : k = x
   ·refine .inr ⟨t, v, ?_, ?_, h1⟩
    ·simp [Z90, List.find?_cons, e]
    ·show Z2h ((Sum.inr k, v) :: kvD ps vs') (Sum.inr x) = some v
     exact Z1m (by rw [e])
   ·have e1 : Z90 ((k, t) :: ps) x = Z90 ps x := by
     simp [Z90, List.find?_cons, e]
    have e2 : Z2h (kvD ((k, t) :: ps) (v :: vs')) (Sum.inr x) = Z2h (kvD ps vs') (Sum.inr x) := by
     show Z2h ((Sum.inr k, v) :: kvD ps vs') (Sum.inr x) = _
     exact Z1g (by intro z; injection z with z; exact e z)
    rw [e1, e2]
    exact ih h2
theorem Zds : ∀ (more kvs : List (Key × V)), (more.map (·.1)).Nodup -> (∀ p ∈ more, Z2h kvs p.1 = none) -> Z2k kvs more = kvs ++ more := by
 intro more
 induction more with
 | nil => intro kvs _ _; exact (List.append_nil _).symm
 | cons p r ih =>
  intro kvs nd h
  show Z2k (Z5b kvs p.1 p.2) r = _
  rw [Zf6 _ (h p (List.mem_cons_self ..))]
  rw [List.map_cons, List.nodup_cons] at nd
  rw [ih _ nd.2 fun q hq => ?_, List.append_assoc]
  ·rfl
  ·have h1 := h q (List.mem_cons_of_mem _ hq)
   have ne : ¬ p.1 = q.1 := fun z => nd.1 (List.mem_map.mpr ⟨q, hq, z.symm⟩)
   unfold Z2h at h1 ⊢
   rw [List.find?_append]
   have h2 : kvs.find? (fun kv => decide (kv.1 = q.1)) = none := by
    cases e : kvs.find? (fun kv => decide (kv.1 = q.1)) with
    | none => rfl
    | some z => rw [e] at h1; cases h1
   rw [h2]
   simp [List.find?_cons, ne]
section
variable {X : Cx} {G : Gm}
theorem Zl4 {f : Expr -> Option Th} {pos : Pos} (hf : ∀ e t, f e = some t -> PE X e (TEv G t)) : ∀ (keys : List (Option Expr)) (values : List Expr) {ps : List (Str × Th)}, evD f keys values = some ps -> keys.length = values.length /\ keys.all (·.isSome) = true /\ keys.length = ps.length ∧
  ∃ trs, PPs X pos keys values trs /\ ∀ σ H Q, EvOk G σ H -> (∀ (vs : List V) H', Same H H' -> IsThs H' vs (ps.map (·.2)) -> Q ((kvD ps vs).map fun kv => (kV kv.1, kv.2)) H') -> Z8i trs σ H Q := by
 intro keys
 induction keys with
 | nil =>
  intro values ps h
  cases values with
  | nil => cases h; exact ⟨rfl, rfl, rfl, [], Z7k, fun σ H Q _ q => q [] H (Same.refl H) .nil⟩
  | cons v vs => cases h
 | cons k keys ih =>
  intro values ps h
  cases values with
  | nil => simp [evD] at h
  | cons v vs =>
   cases k with
   | none => simp [evD] at h
   | some e =>
    cases e with
    | Constant c j p =>
     cases c with
     | str x =>
      rw [evD] at h
      split at h
      ·rename_i t r h1 h2
       cases h
       obtain ⟨l1, l2, l3, trs, pp, hq⟩ := ih vs h2
       refine ⟨by rw [List.length_cons, List.length_cons, l1], by rw [List.all_cons, l2]; rfl, by rw [List.length_cons, List.length_cons, l3], _, Z25 Z09 (hf v t h1) pp, fun σ H Q E q => ?_⟩
       refine ⟨E, fun y H2 s2 hy => hq σ H2 _ (E.same s2) fun vs' H3 s3 hvs => ?_⟩
       exact q (y :: vs') H3 (s2.trans s3) (.cons (IsTh.kp (Kp.of s3) hy) hvs)
      ·cases h
     | _ => simp [evD] at h
    | _ => simp [evD] at h
def Znt (G : Gm) (ps : List (Str × Th)) : TE := fun σ H Q => EvOk G σ H /\ ∀ (p : Addr) (vs : List V) H', H p = none -> Same H H' -> H' p = some (.dK (kvD ps vs)) -> IsThs H' vs (ps.map (·.2)) -> Q (.ref p) H'
theorem Zdt (C : Zm7 X G) {keys : List (Option Expr)} {values : List Expr} {pos : Pos} {ps : List (Str × Th)} (n : Nat) (h : evD (ev G n) keys values = some ps) (nd : (ps.map (·.1)).Nodup) (h0 : ps ≠ []) (h15 : ps.length <= 15) : PE X (.Dict keys values pos) (Znt G ps) := by
 obtain ⟨l1, l2, l3, trs, pp, hq⟩ := Zl4 (pos := pos) (Zn6 C n) keys values h
 refine Z0z (Z7l pp l2 l1 (fun z => h0 (by rw [z] at l3; exact List.eq_nil_of_length_eq_zero l3.symm)) (by omega)) fun σ H Q ⟨E, q⟩ p hp => ?_
 have sp := Z01 (o := .dK []) hp
 refine hq σ _ _ (E.same sp) fun vs H2 s2 hvs => ⟨s2 _ _ Z00, kvD ps vs, rfl, ?_, ?_⟩
 ·rw [List.length_zip, List.length_map]
  omega
 ·have hl := IsThs.len _ hvs
  rw [List.length_map] at hl
  have e : Z2k [] (kvD ps vs) = kvD ps vs := by
   rw [Zds _ _ ?_ fun _ _ => rfl, List.nil_append]
   rw [List.map_fst_zip (by rw [List.length_map]; omega)]
   have e2 : (ps.map fun p => (Sum.inr p.1 : Key)) = (ps.map (·.1)).map Sum.inr := by rw [List.map_map]; rfl
   rw [e2]
   unfold List.Nodup
   rw [List.pairwise_map]
   exact List.Pairwise.imp (fun h z => h (by injection z)) nd
  rw [e]
  have kp : Kp H2 (upd H2 p (.dK (kvD ps vs))) := fun b u eb nb => by
   rw [Z0a (fun z => by rw [z, s2 _ _ Z00] at eb; cases eb; exact nb _ rfl)]
   exact eb
  refine q p vs _ hp (fun b o eb => ?_) Z00 (IsThs.kp kp hvs)
  rw [Z0a (Z0h eb hp)]
  exact s2 _ _ (sp _ _ eb)
def Zon (G : Gm) (n : Nat) : Expr -> Option (List (Str × Th))
 | .Dict ks vs _ => evD (ev G n) ks vs
 | _ => none
theorem Zg0 (C : Zm7 X G) {e : Expr} (ps : List (Str × Th)) (n : Nat) (h : Zon G n e = some ps) (nd : (ps.map (·.1)).Nodup) (h0 : ps ≠ []) (h15 : ps.length <= 15) : PE X e (Znt G ps) := by
 cases e with
 | Dict ks vs p => exact Zdt C n h nd h0 h15
 | _ => cases h
end
end L2
namespace K02
open PySem L2
def Zba : Wd -> Str
 | .num => "num" | .name => "name" | .op => "op" | .pick => "pick" | .lett => "let" | .sett => "set" | .say => "say" | .take => "take" | .dow => "do" | .again => "again" | .call => "call"
theorem Z91 {x : Str} {k : Wd} (h : kindOf x = some k) : x = Zba k := by
 unfold kindOf at h
 repeat' split at h
 all_goals first | (cases h; assumption) | cases h
theorem Z9u {x : Str} (h : kindOf x = none) : ∀ k : Wd, x ≠ Zba k := by
 intro k z
 subst z
 cases k <;> exact absurd h (by decide +kernel)
theorem Z1n (t : Str) (ts : List Str) : inV (.str t) (ts.map V.str) = true ↔ t ∈ ts := by
 unfold inV
 rw [List.any_map, List.any_eq_true]
 constructor
 ·rintro ⟨y, hy, e⟩
  have e' : (y == t) = true := e
  rw [<- beq_iff_eq.mp e']
  exact hy
 ·intro h
  exact ⟨t, h, beq_self_eq_true t⟩
theorem Zg1 (i : Int) (l : List Int) : inV (.int i) (l.map V.int) = decide (i ∈ l) := by
 rw [Bool.eq_iff_iff, decide_eq_true_eq]
 unfold inV
 rw [List.any_map, List.any_eq_true]
 constructor
 ·rintro ⟨y, hy, e⟩
  have e' : (y == i) = true := e
  rw [<- beq_iff_eq.mp e']
  exact hy
 ·intro h
  exact ⟨i, h, beq_self_eq_true i⟩
theorem Zj2 {x : Str} {l : List Wd} {vs : List V} (h : kindOf x = none) (e : vs = (l.map Zba).map V.str) : inV (.str x) vs = false := by
 cases q : inV (.str x) vs with
 | false => rfl
 | true =>
  rw [e] at q
  obtain ⟨k, _, z⟩ := List.mem_map.mp ((Z1n x _).mp q)
  exact absurd z.symm (Z9u h k)
abbrev Zhm : List V := [.str "name", .str "let", .str "set", .str "call"]
abbrev Zg2 : List V := [.str "num", .str "again"]
abbrev Z56 : List V := [.str "pick", .str "say", .str "take", .str "do"]
def Z9v (f : Th -> Bool) : List Th -> Bool
 | [] => false
 | x :: _ => f x
def R5 (w : Str) (ts : List Th) : Bool := if inV (.str w) Zhm = true then Z9v nameB ts else false
def R6 (w : Str) (ts : List Th) : Bool := if inV (.str w) Zg2 = true then Z9v (fun t => Z11 t (some (if w = "num" then 999999999 else 5))) ts else R5 w ts
def R7 (w : Str) (ts : List Th) : Bool := if w = "op" then Z9v (fun t => inT t signsL) ts else R6 w ts
def R8 (w : Str) (ts : List Th) : Bool := if inV (.str w) Z56 = true then true else R7 w ts
def S8 (w : Str) (ts : List Th) : List Th := if inV (.str w) Z56 = true then ts else ts.drop 1
def psI : List (Str × List Int) := [("num", [0]), ("name", [0]), ("take", [0]), ("say", [1]), ("set", [1]), ("again", [1]), ("op", [2]), ("let", [2]), ("pick", [3]), ("do", [1, 2, 3, 4, 5, 6])]
abbrev tI (ns : List Int) : List Th := ns.map fun i => Th.at (.int i)
def psC : List (Str × Th) := psI.map fun p => (p.1, .lst (tI p.2))
def clI (w : Str) : List Int := ((psI.find? fun p => decide (p.1 = w)).map (·.2)).getD [0, 1, 2, 3, 4, 5, 6]
theorem Zhn (w : Str) : Z90 psC w = ((psI.find? fun p => decide (p.1 = w)).map (·.2)).map fun l => .lst (tI l) := by
 unfold Z90 psC
 rw [List.find?_map, Option.map_map, Option.map_map]
 rfl
def Zg3 (w : Str) (n : Nat) : Bool := inV (.int (n : Nat)) ((clI w).map V.int)
theorem Z3b {w : Str} {l : List Int} {lo hi : Nat} (e : clI w = l) (h : ∀ n : Nat, ((n : Int) ∈ l) ↔ lo <= n /\ n <= hi) (n : Nat) : Zg3 w n = (decide (lo <= n) && decide (n <= hi)) := by
 unfold Zg3
 rw [Zg1, e, Bool.eq_iff_iff, decide_eq_true_eq, Bool.and_eq_true, decide_eq_true_eq, decide_eq_true_eq, h]
theorem Zj3 (t : Th) : inT t signsL = signB t := by
 cases t with
 | «at» v => cases v <;> rfl
 | tup xs => rfl
 | lst xs => rfl
def Z4m (w : Str) (ts : List Th) : Prop := Z24 (.tup (.at (.str w) :: ts)) = (R8 w ts && (Zg3 w (S8 w ts).length && (S8 w ts).all L2.isTup))
theorem Z67 {w : Str} {k : Wd} {f : Th -> Bool} {lo hi : Nat} (hk : kindOf w = some k) (hr : rule nameB signB k = (some f, lo, hi)) (hb : inV (.str w) Z56 = false) (hR : ∀ ts, R7 w ts = Z9v f ts) (hc : ∀ n, Zg3 w n = (decide (lo <= n) && decide (n <= hi))) (ts : List Th) : Z4m w ts := by
 have e1 : R8 w ts = Z9v f ts := by unfold R8; rw [if_neg (by rw [hb]; exact Bool.false_ne_true)]; exact hR ts
 have e2 : S8 w ts = ts.drop 1 := by unfold S8; rw [if_neg (by rw [hb]; exact Bool.false_ne_true)]
 unfold Z4m
 show Z3t nameB signB (.tup (.at (.str w) :: ts)) = _
 rw [Z3t, hk, e1, e2, hc]
 dsimp only
 rw [hr]
 cases ts with
 | nil => rfl
 | cons x ts => rfl
theorem Z7t {w : Str} {k : Wd} {lo hi : Nat} (hk : kindOf w = some k) (hr : rule nameB signB k = (none, lo, hi)) (hb : inV (.str w) Z56 = true) (hc : ∀ n, Zg3 w n = (decide (lo <= n) && decide (n <= hi))) (ts : List Th) : Z4m w ts := by
 have e1 : R8 w ts = true := by unfold R8; rw [if_pos hb]
 have e2 : S8 w ts = ts := by unfold S8; rw [if_pos hb]
 unfold Z4m
 show Z3t nameB signB (.tup (.at (.str w) :: ts)) = _
 rw [Z3t, hk, e1, e2, hc]
 dsimp only
 rw [hr]
 rfl
theorem Zdu {w : Str} (h1 : w ≠ "op") (h2 : inV (.str w) Zg2 = false) (h3 : inV (.str w) Zhm = true) (ts : List Th) : R7 w ts = Z9v nameB ts := by
 unfold R7 R6 R5
 rw [if_neg h1, if_neg (by rw [h2]; exact Bool.false_ne_true), if_pos h3]
theorem Zl5 {w : Str} {m : Int} (h1 : w ≠ "op") (h2 : inV (.str w) Zg2 = true) (hm : (if w = "num" then (999999999 : Int) else 5) = m) (ts : List Th) : R7 w ts = Z9v (fun t => Z11 t (some m)) ts := by
 unfold R7 R6
 rw [if_neg h1, if_pos h2, hm]
theorem Z9w (w : Str) (ts : List Th) : Z4m w ts := by
 cases hk : kindOf w with
 | none =>
  have e1 : R8 w ts = false := by
   unfold R8 R7 R6 R5
   rw [if_neg (by rw [show inV (.str w) Z56 = false from Zj2 (l := [.pick, .say, .take, .dow]) hk rfl]; exact Bool.false_ne_true), if_neg (show ¬ w = "op" from Z9u hk .op), if_neg (by rw [show inV (.str w) Zg2 = false from Zj2 (l := [.num, .again]) hk rfl]; exact Bool.false_ne_true), if_neg (by rw [show inV (.str w) Zhm = false from Zj2 (l := [.name, .lett, .sett, .call]) hk rfl]; exact Bool.false_ne_true)]
  unfold Z4m
  show Z3t nameB signB (.tup (.at (.str w) :: ts)) = _
  rw [Z3t, hk, e1, Bool.false_and]
 | some k =>
  have ew := Z91 hk
  have z0 : ∀ n : Nat, ((n : Int) ∈ ([0] : List Int)) ↔ 0 <= n /\ n <= 0 := fun n => by simp <;> omega
  have z1 : ∀ n : Nat, ((n : Int) ∈ ([1] : List Int)) ↔ 1 <= n /\ n <= 1 := fun n => by simp <;> omega
  have z2 : ∀ n : Nat, ((n : Int) ∈ ([2] : List Int)) ↔ 2 <= n /\ n <= 2 := fun n => by simp <;> omega
  have z3 : ∀ n : Nat, ((n : Int) ∈ ([3] : List Int)) ↔ 3 <= n /\ n <= 3 := fun n => by simp <;> omega
  have z16 : ∀ n : Nat, ((n : Int) ∈ ([1, 2, 3, 4, 5, 6] : List Int)) ↔ 1 <= n /\ n <= 6 := fun n => by simp <;> omega
  have z06 : ∀ n : Nat, ((n : Int) ∈ ([0, 1, 2, 3, 4, 5, 6] : List Int)) ↔ 0 <= n /\ n <= 6 := fun n => by simp <;> omega
  subst ew
  cases k with
  | num => exact Z67 hk rfl (by decide +kernel) (Zl5 (by decide +kernel) (by decide +kernel) (by decide +kernel)) (Z3b (by decide +kernel) z0) ts
  | name => exact Z67 hk rfl (by decide +kernel) (Zdu (by decide +kernel) (by decide +kernel) (by decide +kernel)) (Z3b (by decide +kernel) z0) ts
  | op => exact Z67 hk rfl (by decide +kernel) (fun ts => by unfold R7; rw [if_pos (show Zba .op = "op" from rfl)]; cases ts with | nil => rfl | cons x r => exact Zj3 x) (Z3b (by decide +kernel) z2) ts
  | pick => exact Z7t hk rfl (by decide +kernel) (Z3b (by decide +kernel) z3) ts
  | lett => exact Z67 hk rfl (by decide +kernel) (Zdu (by decide +kernel) (by decide +kernel) (by decide +kernel)) (Z3b (by decide +kernel) z2) ts
  | sett => exact Z67 hk rfl (by decide +kernel) (Zdu (by decide +kernel) (by decide +kernel) (by decide +kernel)) (Z3b (by decide +kernel) z1) ts
  | say => exact Z7t hk rfl (by decide +kernel) (Z3b (by decide +kernel) z1) ts
  | take => exact Z7t hk rfl (by decide +kernel) (Z3b (by decide +kernel) z0) ts
  | dow => exact Z7t hk rfl (by decide +kernel) (Z3b (by decide +kernel) z16) ts
  | again => exact Z67 hk rfl (by decide +kernel) (Zl5 (by decide +kernel) (by decide +kernel) (by decide +kernel)) (Z3b (by decide +kernel) z1) ts
  | call => exact Z67 hk rfl (by decide +kernel) (Zdu (by decide +kernel) (by decide +kernel) (by decide +kernel)) (Z3b (by decide +kernel) z06) ts
theorem Z57 {w : Str} {ts : List Th} (h : Z24 (.tup (.at (.str w) :: ts)) = true) : Z0r ts = S8 w ts /\ ∀ k ∈ S8 w ts, L2.isTup k = true := by
 have hN := Z9w w ts
 unfold Z4m at hN
 rw [h] at hN
 have hN := hN.symm
 rw [Bool.and_eq_true, Bool.and_eq_true] at hN
 have al := List.all_eq_true.mp hN.2.2
 refine ⟨?_, al⟩
 obtain ⟨w', k, hd, ks, e, hk, h1, nk, _, hf⟩ := Zdm h
 unfold nd at e
 injection e with e
 injection e with e1 e2
 have ek : Z0r ts = ks := by
  rw [e2]
  have := Z36 (w := w) (hd := hd) nk
  rw [Z1c] at this
  exact this
 rw [ek]
 unfold S8 at al ⊢
 by_cases hb : inV (.str w) Z56 = true
 ·rw [if_pos hb] at al ⊢
  rw [<- ek]
  exact List.filter_eq_self.mpr al
 ·rw [if_neg hb] at al ⊢
  cases ts with
  | nil =>
   have : R8 w [] = false := by
    unfold R8
    rw [if_neg hb]
    unfold R7 R6 R5
    repeat' split
    all_goals rfl
   rw [this] at hN
   cases hN.1
  | cons x r =>
   rw [<- ek]
   show (x :: r).filter L2.isTup = r
   have al' : ∀ k ∈ r, L2.isTup k = true := al
   cases hx : L2.isTup x with
   | false => rw [List.filter_cons_of_neg (by rw [hx]; exact Bool.false_ne_true)]; exact List.filter_eq_self.mpr al'
   | true =>
    exfalso
    have hR := hN.1
    unfold R8 at hR
    rw [if_neg hb] at hR
    have nt : ∀ xs, x = .tup xs -> False := fun xs e => by
     subst e
     unfold R7 R6 R5 at hR
     repeat' split at hR
     all_goals exact absurd (show false = true from hR) Bool.false_ne_true
    cases x with
    | tup xs => exact nt xs rfl
    | «at» v => cases hx
    | lst xs => cases hx
theorem Zdv {p : Th -> Bool} {q : Th -> Bool} (h : Bool) : ∀ l : List Th, (l.all p && !(h || l.any q)) = (!h && l.all fun k => p k && !q k) := by
 intro l
 induction l with
 | nil => simp
 | cons x l ih =>
  rw [List.all_cons, List.any_cons, List.all_cons]
  revert ih
  cases h <;> cases p x <;> cases q x <;> simp
theorem Z92 {w : Str} {ts : List Th} {bs : List Str} (hw : w ≠ "let") : sbB (.tup (.at (.str w) :: ts)) bs = (hit bs (.tup (.at (.str w) :: ts)) || (Z0r ts).any fun k => sbB k bs) := by
 have e1 : Z3f (.at (.str w) :: ts) = false := decide_eq_false hw
 rw [sbB, e1, Z8z, Z1c]
theorem Zbb {w : Str} {ts : List Th} {bs : List Str} (h : Z24 (.tup (.at (.str w) :: ts)) = true) (hw : w ≠ "let") : exB bs (.tup (.at (.str w) :: ts)) = (!hit bs (.tup (.at (.str w) :: ts)) && (S8 w ts).all (exB bs)) := by
 obtain ⟨us, e, e2⟩ := Z4j h
 injection e with e
 have e3 : us.filter L2.isTup = S8 w ts := by rw [<- e]; exact ((Z1c w ts).trans (Z57 h).1)
 unfold exB
 rw [e2, e3, Z92 hw, (Z57 h).1]
 exact Zdv _ _
theorem Zho {x : Str} {k1 k2 : Th} {bs : List Str} (h : Z24 (.tup [.at (.str "let"), .at (.str x), k1, k2]) = true) (h1 : L2.isTup k1 = true) (h2 : L2.isTup k2 = true) : exB bs (.tup [.at (.str "let"), .at (.str x), k1, k2]) = (exB bs k1 && exB (x :: bs) k2) := by
 obtain ⟨us, e, e2⟩ := Z4j h
 injection e with e
 have e3 : us.filter L2.isTup = [k1, k2] := by
  rw [<- e]
  show ([.at (.str "let"), .at (.str x), k1, k2] : List Th).filter L2.isTup = [k1, k2]
  rw [List.filter_cons_of_neg (by intro z; cases z), List.filter_cons_of_neg (by intro z; cases z), List.filter_cons_of_pos h1, List.filter_cons_of_pos h2]
  rfl
 have e4 : sbB (.tup [.at (.str "let"), .at (.str x), k1, k2]) bs = (sbB k1 bs || sbB k2 (x :: bs)) := Zhi h1 h2
 unfold exB
 rw [e2, e3, e4]
 show (treeT k1 && (treeT k2 && true) && !(sbB k1 bs || sbB k2 (x :: bs))) = _
 cases treeT k1 <;> cases treeT k2 <;> cases sbB k1 bs <;> cases sbB k2 (x :: bs) <;> rfl
theorem Zg4 {bs : List Str} {t : Th} (h : Z24 t = false) : exB bs t = false := by
 unfold exB
 rw [Z7r h, Bool.false_and]
theorem Zl6 {a b : List Str} (h : ∀ x, x ∈ a ↔ x ∈ b) (t : Th) : hit a t = hit b t := by
 unfold hit
 congr 1
 cases Zhh t with
 | none => rfl
 | some x => exact decide_eq_decide.mpr (h x)
mutual
theorem Zl7 : ∀ (t : Th) {a b : List Str}, (∀ x, x ∈ a ↔ x ∈ b) -> sbB t a = sbB t b
 | .tup xs, a, b, h => by rw [sbB, sbB, Zl6 h, Zdw _ _ xs 0 h]
 | .at _, _, _, _ => by rw [sbB, sbB]
 | .lst _, _, _, _ => by rw [sbB, sbB]
theorem Zdw (l : Bool) (o : Option Str) : ∀ (xs : List Th) (i : Nat) {a b : List Str}, (∀ x, x ∈ a ↔ x ∈ b) -> sbI l o i xs a = sbI l o i xs b
 | [], _, _, _, _ => by rw [sbI, sbI]
 | x :: xs, i, a, b, h => by
  rw [sbI, sbI, Zdw l o xs (i + 1) h, Zdw l o xs i h]
  have e : sbB x (if l = true /\ i = 1 then o.toList ++ a else a) = sbB x (if l = true /\ i = 1 then o.toList ++ b else b) := by
   refine Zl7 x fun y => ?_
   split
   ·rw [List.mem_append, List.mem_append, h]
   ·exact h y
  rw [e]
end
theorem Zl8 {a b : List Str} (h : ∀ x, x ∈ a ↔ x ∈ b) (t : Th) : exB a t = exB b t := by
 unfold exB
 rw [Zl7 t h]
def Zl9 (N : Nat) : Sp := fun vs H Q _ => ∃ (v : V) (bd : Addr) (t : Th) (bs : List Str), vs = [v, .ref bd] /\ IsTh H v t /\ L2.dp t < N /\ Th.sz t <= 100000 /\ H bd = some (.lst (bs.map V.str)) /\ bs.length <= 1000 /\ (∀ x ∈ bs, x.length <= 1000) /\ N + bs.length <= 1000 /\ ∀ H', Same H H' -> Q (.bl (exB bs t)) H'
theorem Zoo (x : V) (vs : List V) : Z3s (x :: vs) (some 2) none = vs.drop 1 := by
 have e1 : HT.sIx (x :: vs).length 0 (some 2) = min 2 (vs.length + 1) := rfl
 have e2 : HT.sIx (x :: vs).length (x :: vs).length none = vs.length + 1 := rfl
 unfold Z3s
 rw [e1, e2, List.take_of_length_le (by rw [List.length_drop, List.length_cons]; omega)]
 cases vs with
 | nil => rfl
 | cons y r =>
  rw [show min 2 ((y :: r).length + 1) = 2 by rw [List.length_cons]; omega]
  rfl
theorem Zbc {H : Hp} {vs : List V} {ts : List Th} (h : IsThs H vs ts) : (vs = [] /\ ts = []) ∨ ∃ x r y u, vs = x :: r /\ ts = y :: u /\ IsTh H x y /\ IsThs H r u := by
 cases h with
 | nil => exact .inl ⟨rfl, rfl⟩
 | cons a b => exact .inr ⟨_, _, _, _, rfl, rfl, a, b⟩
theorem Zj4 {H : Hp} : ∀ {l : List Int} {vs : List V}, IsThs H vs (tI l) -> vs = l.map V.int := by
 intro l
 induction l with
 | nil => intro vs h; cases h; rfl
 | cons i l ih =>
  intro vs h
  cases h with
  | cons a b => rw [(Z40 a).1, ih b]; rfl
theorem Z2z (a b : V) (r : List V) : atI (a :: b :: r) 1 = some b := Z32 (j := 1) rfl
theorem Z9x (w x : V) (r : List V) : decide ((1 : Int) < (((w :: x :: r).length : Nat) : Int)) = true := decide_eq_true (by rw [List.length_cons, List.length_cons]; omega)
theorem Zn7 : (["_law_bound", "_law_one_here"] : List Str).Nodup := by decide +kernel
theorem Zg5 (l : List Bool) : (l.map V.bl).all Z33 = true := by
 rw [List.all_map]
 exact List.all_eq_true.mpr fun _ _ => rfl
theorem Zg6 (l : List Bool) : (!inV (.bl false) (l.map V.bl)) = l.all id := by
 induction l with
 | nil => rfl
 | cons b l ih =>
  have e : inV (.bl false) ((b :: l).map V.bl) = ((b == false) || inV (.bl false) (l.map V.bl)) := rfl
  rw [e, List.all_cons, <- ih]
  cases b <;> simp
theorem Zj5 {k : Th} {w : Str} {ts : List Th} {N : Nat} (h : L2.dp (.tup (.at (.str w) :: ts)) < N + 1) (hk : k ∈ ts) : L2.dp k < N := by
 rw [L2.dp] at h
 have := Zdn (List.mem_cons_of_mem (.at (.str w)) hk)
 omega
theorem Zj6 {k : Th} : ∀ {ts : List Th}, k ∈ ts -> Th.sz k <= szs ts := by
 intro ts
 induction ts with
 | nil => intro h; cases h
 | cons x ts ih =>
  intro h
  rw [szs]
  rcases List.mem_cons.mp h with rfl | h
  ·omega
  ·have := ih h; omega
theorem Zhp {w : Str} {ts : List Th} {k : Th} (h : k ∈ S8 w ts) : k ∈ ts := by
 unfold S8 at h
 split at h
 ·exact h
 ·exact List.mem_of_mem_drop h
theorem Zdx {H : Hp} {vs : List V} {ts : List Th} (h : IsThs H vs ts) : IsThs H (vs.drop 1) (ts.drop 1) := by
 cases h with
 | nil => exact .nil
 | cons a b => exact b
theorem Z7u {X : Cx} {i : Nat} {x : Str} {e : Expr} {te : TE} {pos pos' : Pos} (hN : X.N.Nodup) (hi : X.N[i]? = some x) (hx : Loc X.env.scope x) (he : PE X e te) (hs : swapsWith e (some (.Name x pos')) pos.line X.env = pure false) (hf : X.fn x = true ∨ X.env.scope.names.lookup x = some .local) :
  PS X (.Assign [.Name x pos'] e pos) (Zk9 te (Z83 i)) := Z0c hN hi hx he hs hf
section
variable {P : Program} {w : World} {K : PySem.W.Frag} {mg : Str -> Option Value} {base : Heap}
theorem scLis : FnScope ["_law_thing", "_law_bound", "_law_word", "_law_some", "_law_right_here", "_law_counts"] ["_law_thing", "_law_bound"] (Z03 Z62) := ⟨rfl, rfl, rfl, by decide +kernel, rfl, by decide +kernel, by decide +kernel⟩
theorem Zla {f fN fW : Addr} {fd dN dW : FuncData} (F : Fun K "_law_is" "_law_is" Z62 f fd) (b : Binds K fd ["_law_thing", "_law_bound"] []) (m : mg "_law_is" = some (.ref f)) (T : TxtT mg) (KI : Kits K) (hlist : mg "list" = none)
  (GN : FnOk P w K mg base CX0 2 fN dN ["_law_thing"] (Z3i nameB)) (FN : Fun K "_law_is_name" "_law_is_name" Z23 fN dN) (bN : Binds K dN ["_law_thing"] []) (mN : mg "_law_is_name" = some (.ref fN))
  (GW : FnOk P w K mg base CX0 1 fW dW ["_law_thing", "_law_most"] spLWhole) (FW : Fun K "_law_whole" "_law_whole" Z3h fW dW) (bW : Binds K dW ["_law_thing", "_law_most"] []) (mW : mg "_law_whole" = some (.ref fW)) :
  ∀ N, FnOk P w K mg base CX0 (N + 3) f fd ["_law_thing", "_law_bound"] (Zl9 N) := by
 intro N
 induction N with
 | zero =>
  refine F.ok scLis (fun vs H Q E h => ?_) (fun cdv A outer s H vs Q E hr h => ?_)
  ·obtain ⟨v, bd, t, bs, rfl, _⟩ := h
   rfl
  ·obtain ⟨v, bd, t, bs, rfl, _, h, _⟩ := h
   exact absurd h (Nat.not_lt_zero _)
 | succ N ih =>
  refine F.ok scLis (fun vs H Q E h => ?_) (fun cdv A outer s H vs Q E hr h => ?_)
  ·obtain ⟨v, bd, t, bs, rfl, _⟩ := h
   rfl
  ·obtain ⟨v, bd, t, bs, rfl, hv, hdp, hz, hbd, hbl, hbx, hNb, k⟩ := h
   have hsz : sizeLine = 16777216 := sizeLine_eq
   have hu0 := hr.units0
   have hu1 : (_ : Around).units + 1 < cLine := Nat.lt_of_le_of_lt (Nat.add_le_add_left (by decide) _) hr.units
   have hr1 : Room 1 _ := hr.mono (by omega)
   have hr2 : Room 2 _ := hr.mono (by omega)
   refine' ⟨?tt, ?body, ?fin⟩
   case body =>
    refine' Z0p ?s1 ?r1
    case s1 =>
     refine' Z10 (Z3r ?c1 (Z3r ?c2 (Z3u ?c3))).pt (Z06 (Z0d Z28)) Z0g
     case c1 => exact Z2q (Z2c (Z0i Z0t (by rfl) T.isi (by decide +kernel) (Z0j (pv 0) (Z0j (Z1i (v := .ty "tuple") (by rfl) T.tup (by decide +kernel) rfl) Z02))))
     case c2 => exact Z0b (Z76 hu0) (pv 0) (Z12 Z02) (Z0k _)
     case c3 => exact Z2q (Z2c (Z0i Z0t (by rfl) T.isi (by decide +kernel) (Z08 (Z18 Z1s (pv 0) Z05 (fun _ _ => rfl)) (Z0j (Z1i (v := .ty "str") (by rfl) T.str (by decide +kernel) rfl) Z02))))
    case r1 =>
     refine' Z04 ?s2 ?r2
     case s2 => exact Z0c (i := 2) scLis.nd rfl (Or.inl rfl) (Z18 Z1s (pv 0) Z05 (fun _ _ => rfl))
     case r2 =>
      refine' Z04 ?s3 ?r3
      case s3 => exact Z0c (i := 3) scLis.nd rfl (Or.inl rfl) (Z1a Z2j (by rfl) hlist (by decide +kernel) (Z08 (Z16 Z5v (pv 0) (Z1q Z05) Z1u) Z02))
      case r3 =>
       refine' Z0p ?s4 ?r4
       case s4 => exact Z0c (i := 4) scLis.nd rfl (Or.inl rfl) Z28
       case r4 =>
        refine' Z0p ?s5 ?r5
        case s5 =>
         refine' Z10 ?c (Z06 ?e) Z0g
         case c => exact Z0b Z1k (pv 2) (Z12 (Z1y Z09 (Z1y Z09 (Z1y Z09 (Z1y Z09 Z02))))) (by with_unfolding_all rfl)
         case e =>
          refine' Z0c (i := 4) scLis.nd rfl (Or.inl rfl) (Z2r ?x (Z39 ?y))
          case x => exact Z2n Z9c (Z0i Z0w (by rfl) T.len PySem.boot_len (Z0j (pv 0) Z02)) Z05 (Z0k _)
          case y => exact Z07 GN hr2 (by rfl) mN FN.kp bN .nil Z0f (Z08 (Z18 Z1s (pv 0) Z05 (fun _ _ => rfl)) Z02)
        case r5 =>
         refine' Z0p ?s6 ?r6
         case s6 =>
          refine' Z10 ?c (Z06 ?e) Z0g
          case c => exact Z0b Z1k (pv 2) (Z12 (Z1y Z09 (Z1y Z09 Z02))) (by with_unfolding_all rfl)
          case e =>
           refine' Z0c (i := 4) scLis.nd rfl (Or.inl rfl) (Z2r ?x (Z39 ?y))
           case x => exact Z2n Z9c (Z0i Z0w (by rfl) T.len PySem.boot_len (Z0j (pv 0) Z02)) Z05 (Z0k _)
           case y => exact Z07 GW hr1 (by rfl) mW FW.kp bW .nil Z0f (Z08 (Z18 Z1s (pv 0) Z05 (fun _ _ => rfl)) (Z08 (Z18 Z20 (Z0y (Z1y Z05 (Z1y Z05 Z02))) (Z1a Zcn (by rfl) T.int (by decide +kernel) (Z08 (Z2n Z1p (pv 2) Z09 (Z0k _)) Z02)) (fun _ _ => rfl)) Z02))
         case r6 =>
          refine' Z0p ?s7 ?r7
          case s7 =>
           refine' Z10 ?c (Z06 ?e) Z0g
           case c => exact Z0b Z1p (pv 2) Z09 (Z0k _)
           case e =>
            refine' Z0c (i := 4) scLis.nd rfl (Or.inl rfl) (Z2r ?x (Z39 ?y))
            case x => exact Z2n Z9c (Z0i Z0w (by rfl) T.len PySem.boot_len (Z0j (pv 0) Z02)) Z05 (Z0k _)
            case y => exact Z2n (Zc6 hu1) (Z18 Z1s (pv 0) Z05 (fun _ _ => rfl)) (Z4c (vs := signsL.map V.str) (by decide +kernel)) (by with_unfolding_all rfl)
          case r7 =>
           refine' Z0p ?s8 ?r8
           case s8 =>
            refine' Z10 ?c (Z04 ?e1 (Z06 ?e2)) Z0g
            case c => exact Z0b Z1k (pv 2) (Z12 (Z1y Z09 (Z1y Z09 (Z1y Z09 (Z1y Z09 Z02))))) (by with_unfolding_all rfl)
            case e1 => exact Z0c (i := 4) scLis.nd rfl (Or.inl rfl) Z28
            case e2 => exact Z0c (i := 3) scLis.nd rfl (Or.inl rfl) (Z1a Z2j (by rfl) hlist (by decide +kernel) (Z08 (Z16 Z5v (pv 0) (Z1q Z05) Z1u) Z02))
           case r8 =>
            refine' Z0p ?s9 ?r9
            case s9 =>
             refine' Z7u (i := 5) ?ha ?hb ?hc ?hd ?he ?hf
             case ha => exact scLis.nd
             case hb => exact rfl
             case hc => exact (Or.inl rfl)
             case he => exact rfl
             case hf => exact (.inr rfl)
             case hd =>
              refine' @Zg0 ((Z9e CX0 P w K mg base ["_law_thing", "_law_bound", "_law_word", "_law_some", "_law_right_here", "_law_counts"] "_law_is" (Z03 Z62) f cdv A outer s H E).nox) [] Zn5 _ psC 9 ?k1 ?k2 ?k3 ?k4
              case k1 => kernel_rfl
              case k2 => decide +kernel
              case k3 => exact fun z => by cases z
              case k4 => decide
            case r9 =>
             refine' Z0p ?s10 ?r10
             case s10 =>
              refine' Z10 (Z3r ?c1 (Z3u ?c2)).pt (Z06 (Z0d Z28)) Z0g
              case c1 => exact Z2q (Z2c (pv 4))
              case c2 => exact Z0b Z3c (Z0i Z0w (by rfl) T.len PySem.boot_len (Z0j (pv 3) Z02)) (Z5k hu1 (pv 5) (pv 2) (Z4c (vs := [.int 0, .int 1, .int 2, .int 3, .int 4, .int 5, .int 6]) (by decide +kernel)) ⟨rfl, rfl, rfl, rfl⟩) (by with_unfolding_all rfl)
             case r10 =>
              refine' Z0p ?s11 ?r11
              case s11 =>
               refine' Z10 (Z6n ?c1 (Z4s ?c2)).pt (Z06 (Z0d Z28)) Z0g
               case c1 => exact Z0b Z1p (pv 2) Z09 (Z0k _)
               case c2 => exact Z0b Z1k (Z18 Z1s (pv 0) Z05 (fun _ _ => rfl)) (pv 1) (by with_unfolding_all rfl)
              case r11 =>
               refine' Z04 ?s12 (Z06 ?s13)
               case s12 =>
                refine' Z10 ?c (Z06 (Z0d (Z2r ?x (Z39 ?y)))) Z0g
                case c => exact Z0b Z1p (pv 2) Z09 (Z0k _)
                case x => exact Z07 ih hr (by rfl) m F.kp b .nil Z0f (Z08 (Z18 Z20 (pv 3) Z05 (fun _ _ => rfl)) (Z0j (pv 1) Z02))
                case y => exact Z07 ih hr (by rfl) m F.kp b .nil Z0f (Z08 (Z18 Z20 (pv 3) Z05 (fun _ _ => rfl)) (Z08 (Z0l Z2e (pv 1) (Z0y (Z08 (Z18 Z1s (pv 0) Z05 (fun _ _ => rfl)) Z02))) Z02))
               case s13 =>
                refine' Z0d (Z2n Z3c Z28 ?x (by with_unfolding_all rfl))
                case x =>
                 refine' Z21 (N' := ["_law_bound", "_law_one_here"]) (src := [some 1, none]) ?k1 ?k5 ?k6 ?k7
                 case k1 => rfl
                 case k5 => exact Z0m (Z03 Z62) rfl ["_law_thing", "_law_bound", "_law_word", "_law_some", "_law_right_here", "_law_counts"] rfl (by decide +kernel)
                 case k6 => exact Z4u (pv 3)
                 case k7 => exact fun cl C ex s0 H0 => ⟨Z0o (i := 1) Zn7 rfl (Or.inl rfl), Z2o, Z07 ih hr (by rfl) m F.kp b .nil Z0f (Z0j (pv 1) (Z0j (pv 0) Z02))⟩
   case fin =>
    have kF : Z24 t = false -> ∀ H', Same H H' -> Q (.bl false) H' := fun h H' s' => by
     have := k H' s'
     rw [Zg4 h] at this
     exact this
    refine ⟨fun σ' H' => ∃ (w0 : Str) (a : Addr) (vs : List V) (ts : List Th), v = .ref a /\ t = .tup (.at (.str w0) :: ts) /\ H a = some (.tup (.str w0 :: vs)) /\ IsThs H vs ts /\ w0.length <= 1000 /\ σ' = [some v, some (.ref bd), none, none, none, none] /\ Same H H', ?_, ?_⟩
    ·refine ⟨_, rfl, _, _, _, _, rfl, Z35 hv, KI.tup hv, _, rfl, ?_⟩
     cases hv with
     | «at» fl => exact Z34 (kF rfl H (Same.refl H))
     | lst e r => exact Z34 (kF rfl H (Same.refl H))
     | @tup a vs0 ts0 ha hvs =>
      refine Z4w ⟨_, rfl, Nat.zero_le _, fun e he => ⟨a, e, vs0, rfl, rfl, SqT.of (Z01 he _ _ ha), SqT.of Z00, _, rfl, ?_⟩⟩
      have s1 := Z01 (o := .tup []) he
      cases hvs with
      | nil => exact Z34 (kF rfl _ s1)
      | @cons x vr y ts' h1 h2 =>
       refine Z4w ⟨_, rfl, a, _, 0, x, rfl, rfl, SqT.of (s1 _ _ ha), Z1w _ _, _, _, _, _, rfl, Z35 (IsTh.kp (Kp.of s1) h1), KI.str h1, _, rfl, ?_⟩
       cases hs : Z4h y with
       | false =>
        refine Z34 (kF ?_ _ s1)
        cases y with
        | «at» v =>
         cases v with
         | str x => cases hs
         | _ => rfl
        | tup xs => rfl
        | lst xs => rfl
       | true =>
        obtain ⟨w0, rfl, rfl, hw⟩ := Z8v h1 hs
        exact Z4w ⟨w0, a, vr, ts', rfl, rfl, ha, h2, hw, rfl, s1⟩
    rintro σ1 H1 ⟨w0, a, vs, ts, rfl, rfl, ha, hvs, hw0, rfl, s1⟩
    have hvl := IsThs.len _ hvs
    have hzs : szs ts < 100000 := by
     have h' := hz
     rw [Th.sz, szs] at h'
     have := Zhb (.at (.str w0))
     omega
    have hzl := Z1b ts
    have ha1 := s1 _ _ ha
    refine ⟨_, rfl, a, _, 0, .str w0, rfl, rfl, SqT.of ha1, Z1w _ _, ?_⟩
    refine ⟨_, rfl, _, rfl, a, _, rfl, ha1, fun p H2 s2 hp => ⟨p, _, rfl, .inr (SqT.of hp), fun sa hsa => ?_⟩⟩
    rw [Zoo]
    have s3 := Z01 (o := .lst (vs.drop 1)) hsa
    have s13 := (s1.trans s2).trans s3
    refine ⟨fun σ' H' => σ' = [some (.ref a), some (.ref bd), some (.str w0), some (.ref sa), some (.bl false), none] /\ Same H H' /\ H' sa = some (.lst (vs.drop 1)), ⟨rfl, s13, Z00⟩, ?_⟩
    clear s1 ha1 s2 hp s3 s13 hsa
    have hlen : ∀ H', Same H H' -> SqT K H' a (.str w0 :: vs) := fun H' s' => SqT.of (s' _ _ ha)
    rintro σ2 H2 ⟨rfl, s2, L2'⟩
    refine ⟨fun σ' H' => σ' = [some (.ref a), some (.ref bd), some (.str w0), some (.ref sa), some (.bl (R5 w0 ts)), none] /\ Same H H' /\ H' sa = some (.lst (vs.drop 1)), ?_, ?_⟩
    ·refine ⟨_, rfl, (by show 4 <= sizeLine; decide), fun q hq => ?_⟩
     have s3 := Z01 (o := .tup Zhm) hq
     have s23 := s2.trans s3
     unfold R5
     refine ⟨q, Zhm, rfl, .inr (SqT.of Z00), rfl, rfl, _, rfl, Z14 (fun g => ?_) (fun g => ?_)⟩
     ·rw [if_pos (show inV (.str w0) Zhm = true from g)]
      refine ⟨_, rfl, a, _, rfl, .inr (hlen _ s23), _, _, rfl, rfl, _, rfl, ?_⟩
      rcases Zbc hvs with ⟨rfl, rfl⟩ | ⟨x, r, y, u, rfl, rfl, hx, hu⟩
      ·exact Z4w ⟨rfl, s23, s3 _ _ L2'⟩
      ·refine Z14 (fun _ => ?_) (fun z => absurd (Z9x _ _ _) z)
       refine ⟨_, rfl, a, _, 1, x, rfl, rfl, hlen _ s23, Z2z _ _ _, x, y, rfl, IsTh.kp (Kp.of s23) hx, fun H4 s4 => ⟨rfl, s23.trans s4, s4 _ _ (s3 _ _ L2')⟩⟩
     ·rw [if_neg (show ¬ inV (.str w0) Zhm = true from g)]
      exact ⟨rfl, s23, s3 _ _ L2'⟩
    clear s2 L2'
    rintro σ3 H3 ⟨rfl, s3, L3⟩
    refine ⟨fun σ' H' => σ' = [some (.ref a), some (.ref bd), some (.str w0), some (.ref sa), some (.bl (R6 w0 ts)), none] /\ Same H H' /\ H' sa = some (.lst (vs.drop 1)), ?_, ?_⟩
    ·refine ⟨_, rfl, (by show 2 <= sizeLine; decide), fun q hq => ?_⟩
     have s4 := Z01 (o := .tup Zg2) hq
     have s34 := s3.trans s4
     unfold R6
     refine ⟨q, Zg2, rfl, .inr (SqT.of Z00), rfl, rfl, _, rfl, Z14 (fun g => ?_) (fun g => ?_)⟩
     ·rw [if_pos (show inV (.str w0) Zg2 = true from g)]
      refine ⟨_, rfl, a, _, rfl, .inr (hlen _ s34), _, _, rfl, rfl, _, rfl, ?_⟩
      rcases Zbc hvs with ⟨rfl, rfl⟩ | ⟨x, r, y, u, rfl, rfl, hx, hu⟩
      ·exact Z4w ⟨rfl, s34, s4 _ _ L3⟩
      ·refine Z14 (fun _ => ?_) (fun z => absurd (Z9x _ _ _) z)
       refine ⟨_, rfl, a, _, 1, x, rfl, rfl, hlen _ s34, Z2z _ _ _, (by show 2 <= sizeLine; decide), fun q2 hq2 => ?_⟩
       have s5 := Z01 (o := .lst [.int 5, .int 999999999]) hq2
       have s35 := s34.trans s5
       by_cases hn : w0 = "num"
       ·refine ⟨_, rfl, rfl, .inr ⟨true, by rw [decide_eq_true (show V.str w0 = V.str "num" by rw [hn])], q2, _, 1, .int 999999999, rfl, rfl, SqL.of Z00, rfl, x, 999999999, y, rfl, IsTh.kp (Kp.of s35) hx, fun H4 s6 => ?_⟩⟩
        rw [if_pos hn]
        exact ⟨rfl, s35.trans s6, s6 _ _ (s5 _ _ (s4 _ _ L3))⟩
       ·refine ⟨_, rfl, rfl, .inr ⟨false, by rw [decide_eq_false (show ¬ V.str w0 = V.str "num" by intro z; injection z with z; exact hn z)], q2, _, 0, .int 5, rfl, rfl, SqL.of Z00, rfl, x, 5, y, rfl, IsTh.kp (Kp.of s35) hx, fun H4 s6 => ?_⟩⟩
        rw [if_neg hn]
        exact ⟨rfl, s35.trans s6, s6 _ _ (s5 _ _ (s4 _ _ L3))⟩
     ·rw [if_neg (show ¬ inV (.str w0) Zg2 = true from g)]
      exact ⟨rfl, s34, s4 _ _ L3⟩
    clear s3 L3
    rintro σ4 H4 ⟨rfl, s4, L4⟩
    refine ⟨fun σ' H' => σ' = [some (.ref a), some (.ref bd), some (.str w0), some (.ref sa), some (.bl (R7 w0 ts)), none] /\ Same H H' /\ H' sa = some (.lst (vs.drop 1)), ?_, ?_⟩
    ·unfold R7
     refine ⟨_, rfl, rfl, _, rfl, Z14 (fun g => ?_) (fun g => ?_)⟩
     ·have hop : w0 = "op" := by
       have g' := of_decide_eq_true g
       injection g'
      rw [if_pos hop]
      refine ⟨_, rfl, a, _, rfl, .inr (hlen _ s4), _, _, rfl, rfl, _, rfl, ?_⟩
      rcases Zbc hvs with ⟨rfl, rfl⟩ | ⟨x, r, y, u, rfl, rfl, hx, hu⟩
      ·exact Z4w ⟨rfl, s4, L4⟩
      ·refine Z14 (fun _ => ?_) (fun z => absurd (Z9x _ _ _) z)
       refine ⟨_, rfl, a, _, 1, x, rfl, rfl, hlen _ s4, Z2z _ _ _, Z2y (by decide +kernel), fun q2 hq2 => ?_⟩
       have s5 := Z01 (o := .lst (signsL.map V.str)) hq2
       have s45 := s4.trans s5
       exact ⟨q2, y, signsL, rfl, SqL.of Z00, IsTh.kp (Kp.of s45) hx, rfl, s45, s5 _ _ L4⟩
     ·rw [if_neg (fun z => g (by rw [z]; decide +kernel))]
      exact ⟨rfl, s4, L4⟩
    clear s4 L4
    rintro σ5 H5 ⟨rfl, s5, L5⟩
    refine ⟨fun σ' H' => ∃ (sb : Addr) (ws : List V), σ' = [some (.ref a), some (.ref bd), some (.str w0), some (.ref sb), some (.bl (R8 w0 ts)), none] /\ Same H H' /\ H' sb = some (.lst ws) /\ IsThs H' ws (S8 w0 ts), ?_, ?_⟩
    ·refine ⟨_, rfl, (by show 4 <= sizeLine; decide), fun q hq => ?_⟩
     have s6 := Z01 (o := .tup Z56) hq
     have s56 := s5.trans s6
     unfold R8 S8
     refine ⟨q, Z56, rfl, .inr (SqT.of Z00), rfl, rfl, _, rfl, Z14 (fun g => ?_) (fun g => ?_)⟩
     ·rw [if_pos (show inV (.str w0) Z56 = true from g), if_pos (show inV (.str w0) Z56 = true from g)]
      refine ⟨_, rfl, _, rfl, a, _, rfl, s56 _ _ ha, fun p H7 s7 hp => ⟨p, _, rfl, .inr (SqT.of hp), fun sb hsb => ?_⟩⟩
      rw [Zn2]
      have s8 := Z01 (o := .lst vs) hsb
      have sA := (s56.trans s7).trans s8
      exact ⟨sb, vs, rfl, sA, Z00, IsThs.kp (Kp.of sA) hvs⟩
     ·rw [if_neg (show ¬ inV (.str w0) Z56 = true from g), if_neg (show ¬ inV (.str w0) Z56 = true from g)]
      exact ⟨sa, _, rfl, s56, s6 _ _ L5, Zdx (IsThs.kp (Kp.of s56) hvs)⟩
    clear s5 L5
    rintro σ6 H6 ⟨sb, ws, rfl, s6, L6, hws6⟩
    have hwl := IsThs.len _ hws6
    refine ⟨fun σ' H' => ∃ (ca : Addr) (cv : List V), σ' = [some (.ref a), some (.ref bd), some (.str w0), some (.ref sb), some (.bl (R8 w0 ts)), some (.ref ca)] /\ Same H6 H' /\ H' ca = some (.dK (kvD psC cv)) /\ IsThs H' cv (psC.map (·.2)), ⟨ev0, fun p cv H' _ s' hp hcv => ⟨p, cv, rfl, s', hp, hcv⟩⟩, ?_⟩
    rintro σ7 H7 ⟨ca, cv, rfl, s67, D7, hcv⟩
    have s7 := s6.trans s67
    have L7 := s67 _ _ L6
    have hws7 := IsThs.kp (Kp.of s67) hws6
    clear s6 L6 hws6 s67
    refine ⟨fun σ' H' => σ' = [some (.ref a), some (.ref bd), some (.str w0), some (.ref sb), some (.bl (R8 w0 ts)), some (.ref ca)] /\ Same H7 H' /\ R8 w0 ts = true /\ Zg3 w0 (S8 w0 ts).length = true, ?_, ?_⟩
    ·have hN := Z9w w0 ts
     unfold Z4m at hN
     refine ⟨_, rfl, _, rfl, ?_⟩
     cases hR : R8 w0 ts with
     | false =>
      refine Z34 (Z34 (kF ?_ H7 s7))
      rw [hN, hR, Bool.false_and]
     | true =>
      rw [hR, Bool.true_and] at hN
      refine Z4w ⟨_, rfl, sb, ws, rfl, .inl (SqL.of L7), _, rfl, ca, rfl, .inl ⟨_, .inl D7⟩, _, rfl, Z2y (by decide), fun dl hdl => ?_⟩
      have s8 := Z01 (o := .lst [.int 0, .int 1, .int 2, .int 3, .int 4, .int 5, .int 6]) hdl
      have D8 := s8 _ _ D7
      refine ⟨_, DGet.k (k := Sum.inr w0) D8, ?_⟩
      have key : ∃ (ra : Addr) (l : List Int), (Z2h (kvD psC cv) (Sum.inr w0)).getD (.ref dl) = .ref ra /\ clI w0 = l /\ upd H7 dl (.lst [.int 0, .int 1, .int 2, .int 3, .int 4, .int 5, .int 6]) ra = some (.lst (l.map V.int)) := by
       rcases Zfz (x := w0) (IsThs.kp (Kp.of s8) hcv) with ⟨e1, e2⟩ | ⟨t', v', e1, e2, e3⟩
       ·refine ⟨dl, [0, 1, 2, 3, 4, 5, 6], by rw [e2]; rfl, ?_, Z00⟩
        rw [Zhn] at e1
        unfold clI
        cases q : (psI.find? fun p => decide (p.1 = w0)).map (·.2) with
        | none => rfl
        | some l => rw [q] at e1; cases e1
       ·rw [Zhn] at e1
        cases q : (psI.find? fun p => decide (p.1 = w0)).map (·.2) with
        | none => rw [q] at e1; cases e1
        | some l =>
         rw [q] at e1
         cases e1
         obtain ⟨ra, us, rfl, hra, hus⟩ := Zat e3
         refine ⟨ra, l, by rw [e2]; rfl, ?_, by rw [hra, Zj4 hus]⟩
         unfold clI
         rw [q]
         rfl
      obtain ⟨ra, l, e1, e2, e3⟩ := key
      have hcn : Zg3 w0 (S8 w0 ts).length = inV (.int (ws.length : Nat)) (l.map V.int) := by
       unfold Zg3
       rw [e2, hwl]
      refine ⟨ra, l.map V.int, e1, .inl (SqL.of e3), rfl, ?_, _, rfl, ?_⟩
      ·rw [List.all_map]; exact List.all_eq_true.mpr fun _ _ => rfl
      rw [<- hcn]
      cases hc : Zg3 w0 (S8 w0 ts).length with
      | false =>
       refine Z34 (kF ?_ _ (s7.trans s8))
       rw [hN, hc, Bool.false_and]
      | true =>
       exact Z4w ⟨rfl, s8, rfl, rfl⟩
    rintro σ8 H8 ⟨rfl, s78, hR, hc⟩
    have hN := Z9w w0 ts
    unfold Z4m at hN
    rw [hR, hc, Bool.true_and, Bool.true_and] at hN
    have s8 := s7.trans s78
    have L8 := s78 _ _ L7
    have hws8 := IsThs.kp (Kp.of s78) hws7
    clear s7 L7 hws7 s78 D7 hcv
    have hkid : ∀ x ∈ S8 w0 ts, L2.dp x < N /\ Th.sz x <= 100000 := fun x hx => ⟨Zj5 hdp (Zhp hx), by have := Zj6 (Zhp hx); omega⟩
    have hname : inV (.str w0) Zhm = true -> ∃ (x : Str) (u : List Th) (r : List V), ts = .at (.str x) :: u /\ vs = .str x :: r /\ x.length <= 1000 /\ IsThs H r u := fun g => by
     have h1 : w0 ≠ "op" := fun z => by rw [z] at g; exact absurd g (by decide +kernel)
     have h2 : inV (.str w0) Z56 = false := by
      have g' := (Z1n w0 ["name", "let", "set", "call"]).mp g
      simp only [List.mem_cons, List.not_mem_nil, or_false] at g'
      rcases g' with rfl | rfl | rfl | rfl <;> decide +kernel
     have h3 : inV (.str w0) Zg2 = false := by
      have g' := (Z1n w0 ["name", "let", "set", "call"]).mp g
      simp only [List.mem_cons, List.not_mem_nil, or_false] at g'
      rcases g' with rfl | rfl | rfl | rfl <;> decide +kernel
     unfold R8 at hR
     rw [if_neg (by rw [h2]; exact Bool.false_ne_true), Zdu h1 h3 g] at hR
     rcases Zbc hvs with ⟨rfl, rfl⟩ | ⟨x, r, y, u, rfl, rfl, hx, hu⟩
     ·cases hR
     ·obtain ⟨z, rfl⟩ := Z4k (show nameB y = true from hR)
      have e := hx
      obtain ⟨rfl, hf⟩ := Z40 hx
      exact ⟨z, u, r, rfl, rfl, of_decide_eq_true hf, hu⟩
    refine ⟨fun σ' H' => σ' = [some (.ref a), some (.ref bd), some (.str w0), some (.ref sb), some (.bl (R8 w0 ts)), some (.ref ca)] /\ Same H8 H' /\ hit bs (.tup (.at (.str w0) :: ts)) = false, ?_, ?_⟩
    ·refine ⟨_, rfl, rfl, _, rfl, Z14 (fun g => ?_) (fun g => ?_)⟩
     ·have hw : w0 = "set" := by
       have g' := of_decide_eq_true g
       injection g'
      obtain ⟨x, u, r, rfl, rfl, hx, hu⟩ := hname (by rw [hw]; decide +kernel)
      have hhx : hit bs (.tup (.at (.str w0) :: .at (.str x) :: u)) = decide (x ∈ bs) := by
       unfold hit
       rw [show Z7s (.tup (.at (.str w0) :: .at (.str x) :: u)) = true from decide_eq_true (p := w0 = "set") hw, Bool.true_and]
       rfl
      refine ⟨_, rfl, a, _, 1, .str x, rfl, rfl, SqT.of (s8 _ _ ha), Z2z _ _ _, _, rfl, bd, _, rfl, .inl (SqL.of (s8 _ _ hbd)), rfl, Z1l bs, _, rfl, ?_⟩
      cases hi : inV (.str x) (bs.map V.str) with
      | true =>
       have hm := (Z1n x bs).mp hi
       have e : exB bs (.tup (.at (.str w0) :: .at (.str x) :: u)) = false := by
        unfold exB
        rw [Z92 (by rw [hw]; decide +kernel), hhx, decide_eq_true hm, Bool.true_or]
        simp
       have kk := k H8 s8
       rw [e] at kk
       exact Z34 kk
      | false =>
       refine Z4w ⟨rfl, Same.refl _, ?_⟩
       rw [hhx]
       exact decide_eq_false fun z => by rw [(Z1n x bs).mpr z] at hi; cases hi
     ·refine Z4w ⟨rfl, Same.refl _, ?_⟩
      unfold hit
      rw [show Z7s (.tup (.at (.str w0) :: ts)) = false from decide_eq_false (p := w0 = "set") (fun z => g (by rw [z]; decide +kernel)), Bool.false_and]
    rintro σ9 H9 ⟨rfl, s89, hhit⟩
    have s9 := s8.trans s89
    have L9 := s89 _ _ L8
    have hws9 := IsThs.kp (Kp.of s89) hws8
    clear s8 L8 hws8 s89
    refine ⟨_, rfl, rfl, _, rfl, Z14 (fun g => ?_) (fun g => ?_)⟩
    ·have hw : w0 = "let" := by
      have g' := of_decide_eq_true g
      injection g'
     obtain ⟨x, u, r, rfl, rfl, hx, hu⟩ := hname (by rw [hw]; decide +kernel)
     subst hw
     have e8 : S8 "let" (.at (.str x) :: u) = u := by
      unfold S8
      rw [if_neg (by decide +kernel)]
      rfl
     have hu2 : u.length = 2 := by
      have h := hc
      rw [e8, Z3b (w := "let") (l := [2]) (lo := 2) (hi := 2) (by decide +kernel) (fun n => by simp <;> omega), Bool.and_eq_true, decide_eq_true_eq, decide_eq_true_eq] at h
      omega
     obtain ⟨k1, k2, rfl⟩ := Zhj hu2
     rw [e8] at hws9 hkid hN
     obtain ⟨y1, y2, rfl, hy1, hy2⟩ : ∃ a b, ws = [a, b] /\ IsTh H9 a k1 /\ IsTh H9 b k2 := by
      cases hws9 with
      | cons h1 h2 =>
       cases h2 with
       | cons h2 h3 =>
        cases h3
        exact ⟨_, _, rfl, h1, h2⟩
     have hk1 := hkid k1 (by simp)
     have hk2 := hkid k2 (by simp)
     have hex : exB bs (.tup [.at (.str "let"), .at (.str x), k1, k2]) = (exB bs k1 && exB (bs ++ [x]) k2) := by
      have hcg : exB (bs ++ [x]) k2 = exB (x :: bs) k2 := Zl8 (fun z => by simp [or_comm]) k2
      rw [hcg]
      have hnt : ∀ {b : List Str} {k : Th}, L2.isTup k = false -> exB b k = false := fun {b k} h => by
       unfold exB
       cases k with
       | tup xs => cases h
       | «at» v => simp [treeT, Z5i]
       | lst v => simp [treeT, Z5i]
      have hN' : Z24 (.tup [.at (.str "let"), .at (.str x), k1, k2]) = (L2.isTup k1 && (L2.isTup k2 && true)) := hN
      cases i1 : L2.isTup k1 with
      | false => rw [hnt i1, Bool.false_and]; exact Zg4 (by rw [hN', i1, Bool.false_and])
      | true =>
       cases i2 : L2.isTup k2 with
       | false => rw [hnt i2, Bool.and_false]; exact Zg4 (by rw [hN', i1, i2]; rfl)
       | true => exact Zho (by rw [hN', i1, i2]; rfl) i1 i2
     rw [hex] at k
     refine ⟨_, rfl, sb, _, 0, y1, rfl, rfl, SqL.of L9, Z1w _ _, _, rfl, y1, bd, k1, bs, rfl, hy1, hk1.1, hk1.2, s9 _ _ hbd, hbl, hbx, by omega, fun H10 s10 => ⟨_, rfl, Z14 (fun g1 => ?_) (fun g1 => ?_)⟩⟩
     ·have sA := s9.trans s10
      refine ⟨_, rfl, sb, _, 1, y2, rfl, rfl, SqL.of (s10 _ _ L9), Z2z _ _ _, _, rfl, _, rfl, a, _, 1, .str x, rfl, rfl, SqT.of (sA _ _ ha), Z2z _ _ _, (by show 1 <= sizeLine; decide), fun q hq => ?_⟩
      have s11 := Z01 (o := .lst [.str x]) hq
      refine ⟨bd, q, _, _, rfl, rfl, s11 _ _ (sA _ _ hbd), Z00, by rw [List.length_map]; show bs.length + 1 <= sizeLine; omega, fun q2 hq2 => ?_⟩
      have s12 := Z01 (o := .lst (bs.map V.str ++ [.str x])) hq2
      have sB := (s10.trans s11).trans s12
      refine ⟨y2, q2, k2, bs ++ [x], rfl, IsTh.kp (Kp.of sB) hy2, hk2.1, hk2.2, ?_, by rw [List.length_append]; show bs.length + 1 <= 1000; omega, fun z hz => ?_, by rw [List.length_append]; show N + (bs.length + 1) <= 1000; omega, fun H13 s13 => ?_⟩
      ·rw [Z00, List.map_append]
       rfl
      ·rcases List.mem_append.mp hz with h | h
       ·exact hbx z h
       ·rw [List.mem_singleton.mp h]; exact hx
      ·have kk := k H13 ((s9.trans sB).trans s13)
       rw [g1, Bool.true_and] at kk
       exact kk
     ·have kk := k H10 (s9.trans s10)
      rw [show exB bs k1 = false by simpa using g1, Bool.false_and] at kk
      exact kk
    ·have hw : w0 ≠ "let" := fun z => g (by rw [z]; decide +kernel)
     have hex : exB bs (.tup (.at (.str w0) :: ts)) = (S8 w0 ts).all (exB bs) := by
      cases hn : Z24 (.tup (.at (.str w0) :: ts)) with
      | true => rw [Zbb hn hw, hhit]; rfl
      | false =>
       rw [Zg4 hn]
       rw [hn] at hN
       obtain ⟨y, hy, hyf⟩ := List.all_eq_false.mp hN.symm
       refine (List.all_eq_false.mpr ⟨y, hy, ?_⟩).symm
       unfold exB
       cases y with
       | tup xs => exact absurd rfl hyf
       | «at» v => simp [treeT, Z5i]
       | lst v => simp [treeT, Z5i]
     refine ⟨_, rfl, sb, rfl, ⟨_, SqL.of L9⟩, Z4b (K := K) (a := sb) (xs := ws) (fun i ys σc H' => ∃ (o : Option V), σc = [some (.ref bd), o] /\ ys = (((S8 w0 ts).take i).map (exB bs)).map V.bl /\ Same H9 H')
      ⟨none, rfl, by rw [List.take_zero]; rfl, Same.refl _⟩ (fun i ys σc H' ⟨_, _, _, e⟩ => SqL.of (e _ _ L9)) ?_ ?_⟩
     ·rintro i x ys σc H' hx hi ⟨o, rfl, rfl, s10⟩
      obtain ⟨y, hy, hxy⟩ := Z22 _ hws9 hx
      have hyk := hkid y (List.mem_of_getElem? hy)
      have hsl : (S8 w0 ts).length <= ts.length := by
       unfold S8
       split
       ·exact Nat.le_refl _
       ·rw [List.length_drop]; omega
      refine ⟨by rw [List.length_map, List.length_map, List.length_take]; omega, ?_⟩
      refine ⟨_, rfl, _, rfl, x, bd, y, bs, rfl, IsTh.kp (Kp.of s10) hxy, hyk.1, hyk.2, s10 _ _ (s9 _ _ hbd), hbl, hbx, by omega, fun H11 s11 => nx hi ⟨_, rfl, ?_, s10.trans s11⟩⟩
      rw [List.take_add_one, hy, List.map_append, List.map_append]
      rfl
     ·rintro ys σc H' ⟨o, rfl, rfl, s10⟩ q hq
      rw [List.take_of_length_le (by omega)]
      refine ⟨q, _, rfl, .inl (SqL.of Z00), rfl, Zg5 _, ?_⟩
      have kk := k _ ((s9.trans s10).trans (Z01 (o := .lst (((S8 w0 ts).map (exB bs)).map V.bl)) hq))
      rw [hex] at kk
      show Q (.bl (!inV (.bl false) (((S8 w0 ts).map (exB bs)).map V.bl))) _
      rw [Zg6, List.all_map]
      exact kk
end
def Z0v (l : Addr) (n : Nat) (z : Int) (sb : Bool) : List (Key × V) := [(Sum.inr "cells", .ref l), (Sum.inr "at", .int n), (Sum.inr "left", .int z), (Sum.inr "short", .bl sb)]
structure Feed (H : Hp) (d l : Addr) (ns : List Int) (n : Nat) : Prop where
 dc : ∃ z sb, H d = some (.dK (Z0v l n z sb))
 ls : H l = some (.lst (ns.map V.int))
 sz : ns.length <= 63
def But (d : Addr) (H H' : Hp) : Prop := ∀ b o, H b = some o -> b ≠ d -> H' b = some o
theorem But.refl (d : Addr) (H : Hp) : But d H H := fun _ _ e _ => e
theorem But.trans {d : Addr} {H H1 H2 : Hp} (a : But d H H1) (b : But d H1 H2) : But d H H2 := fun c o e n => b c o (a c o e n) n
theorem But.of {d : Addr} {H H1 : Hp} (a : Same H H1) : But d H H1 := fun c o e _ => a c o e
theorem Zg7 (l : Addr) (n : Nat) (z : Int) (sb : Bool) : Z2h (Z0v l n z sb) (Sum.inr "cells") = some (.ref l) := by with_unfolding_all rfl
theorem Zn8 (l : Addr) (n : Nat) (z : Int) (sb : Bool) : Z2h (Z0v l n z sb) (Sum.inr "at") = some (.int n) := by with_unfolding_all rfl
theorem Zj7 (l : Addr) (n : Nat) (z : Int) (sb : Bool) : Z2h (Z0v l n z sb) (Sum.inr "left") = some (.int z) := by with_unfolding_all rfl
theorem Zlb (l : Addr) (n : Nat) (z : Int) (sb : Bool) : Z5b (Z0v l n z sb) (Sum.inr "at") (.int ((n : Int) + 1)) = Z0v l (n + 1) z sb := by with_unfolding_all rfl
theorem Zg8 (l : Addr) (n : Nat) (z y : Int) (sb : Bool) : Z5b (Z0v l n z sb) (Sum.inr "left") (.int y) = Z0v l n y sb := by with_unfolding_all rfl
theorem Z68 {H : Hp} {d l : Addr} {n : Nat} {z : Int} {sb : Bool} (h : H d = some (.dK (Z0v l n z sb))) : DGet H d (.str "cells") (some (.ref l)) := by
 have := DGet.k (k := Sum.inr "cells") h; rw [Zg7] at this; exact this
theorem Zlc {H : Hp} {d l : Addr} {n : Nat} {z : Int} {sb : Bool} (h : H d = some (.dK (Z0v l n z sb))) : DGet H d (.str "at") (some (.int n)) := by
 have := DGet.k (k := Sum.inr "at") h; rw [Zn8] at this; exact this
theorem Z7v {H : Hp} {d l : Addr} {n : Nat} {z : Int} {sb : Bool} (h : H d = some (.dK (Z0v l n z sb))) : DGet H d (.str "left") (some (.int z)) := by
 have := DGet.k (k := Sum.inr "left") h; rw [Zj7] at this; exact this
theorem Zld {H : Hp} {d l : Addr} {n : Nat} {z : Int} {sb : Bool} (h : H d = some (.dK (Z0v l n z sb))) : DPut H d (.str "at") (.int ((n : Int) + 1)) (upd H d (.dK (Z0v l (n + 1) z sb))) := by
 have := DPut.k (k := Sum.inr "at") (v := .int ((n : Int) + 1)) h (by show 4 < sizeLine; decide); rw [Zlb] at this; exact this
theorem Zbd {H : Hp} {d l : Addr} {n : Nat} {z y : Int} {sb : Bool} (h : H d = some (.dK (Z0v l n z sb))) : DPut H d (.str "left") (.int y) (upd H d (.dK (Z0v l n y sb))) := by
 have := DPut.k (k := Sum.inr "left") (v := .int y) h (by show 4 < sizeLine; decide); rw [Zg8] at this; exact this
theorem Zg9 (l : Addr) (n : Nat) (z : Int) (sb : Bool) : Z2h (Z0v l n z sb) (Sum.inr "short") = some (.bl sb) := by with_unfolding_all rfl
theorem Zdy (l : Addr) (n : Nat) (z : Int) (sb b : Bool) : Z5b (Z0v l n z sb) (Sum.inr "short") (.bl b) = Z0v l n z b := by with_unfolding_all rfl
theorem Zdz {H : Hp} {d l : Addr} {n : Nat} {z : Int} {sb : Bool} (h : H d = some (.dK (Z0v l n z sb))) : DGet H d (.str "short") (some (.bl sb)) := by
 have := DGet.k (k := Sum.inr "short") h; rw [Zg9] at this; exact this
theorem Ze0 {H : Hp} {d l : Addr} {n : Nat} {z : Int} {sb b : Bool} (h : H d = some (.dK (Z0v l n z sb))) : DPut H d (.str "short") (.bl b) (upd H d (.dK (Z0v l n z b))) := by
 have := DPut.k (k := Sum.inr "short") (v := .bl b) h (by show 4 < sizeLine; decide); rw [Zdy] at this; exact this
theorem Feed.ne {H : Hp} {d l : Addr} {ns : List Int} {n : Nat} (F : Feed H d l ns n) : l ≠ d := by
 obtain ⟨⟨z, sb, h⟩, g, _⟩ := F
 exact Z4r g h (by intro q; cases q)
theorem Feed.but {H H' : Hp} {d l : Addr} {ns : List Int} {n m : Nat} {z : Int} {sb : Bool} (F : Feed H d l ns n) (b : But d H H') (h : H' d = some (.dK (Z0v l m z sb))) : Feed H' d l ns m := ⟨⟨z, sb, h⟩, b l _ F.ls F.ne, F.sz⟩
theorem But.upd {d : Addr} {H : Hp} {o : HO} : But d H (upd H d o) := fun c u e n => by rw [Z0a n]; exact e
def Zhq (K : PySem.W.Frag) : Sp := fun vs H Q _ => ∃ (a : Addr) (ns : List Int), vs = [.ref a] /\ SqL K H a (ns.map V.int) /\ ns.length <= 63 /\ ∀ d l H', Feed H' d l ns 0 -> H d = none -> Same H H' -> Q (.ref d) H'
def spDraw : Sp := fun vs H Q _ => ∃ (d l : Addr) (ns : List Int) (n : Nat) (m : Int), vs = [.ref d, .int m] /\ Feed H d l ns n /\ n <= 1000000000000 /\ 0 < m /\ m < 18446744073709551616 ∧
 ∀ r n' H', 0 <= r -> r < m -> n' <= n + 1 -> Feed H' d l ns n' -> But d H H' -> Q (.int r) H'
theorem Zn9 {ns : List Int} (h : ns.length <= 63) : Z3s (ns.map V.int) none (some 63) = ns.map V.int := by
 have e1 : HT.sIx (ns.map V.int).length 0 none = 0 := rfl
 have e2 : HT.sIx (ns.map V.int).length (ns.map V.int).length (some 63) = min 63 (ns.map V.int).length := rfl
 unfold Z3s
 rw [e1, e2, List.drop_zero, List.take_of_length_le]
 rw [List.length_map]; omega
theorem Znu (x : Int) : -(2 ^ 64) < x % 2147483629 := by omega
theorem Znv (x : Int) : x % 2147483629 < 2 ^ 64 := by omega
theorem Ze1 (ns : List Int) : (ns.map V.int).all Z33 = true := by
 rw [List.all_map]; exact List.all_eq_true.mpr fun _ _ => rfl
theorem Feed.same {H H' : Hp} {d l : Addr} {ns : List Int} {n : Nat} (F : Feed H d l ns n) (s : Same H H') : Feed H' d l ns n := let ⟨⟨z, sb, h⟩, g, q⟩ := F; ⟨⟨z, sb, s _ _ h⟩, s _ _ g, q⟩
structure Txt0 (mg : Str -> Option Value) : Prop where
 len : mg "len" = none
 list : mg "list" = none
 range : mg "range" = none
section
variable {P : Program} {w : World} {K : PySem.W.Frag} {mg : Str -> Option Value} {base : Heap}
theorem Zle : FnScope ["_law_script"] ["_law_script"] (Z03 Zdd) := ⟨rfl, rfl, rfl, by decide +kernel, rfl, by decide +kernel, by decide +kernel⟩
theorem Zj8 {f : Addr} {fd : FuncData} (F : Fun K "_law_feed" "_law_feed" Zdd f fd) (T : Txt0 mg) : FnOk P w K mg base CX0 1 f fd ["_law_script"] (Zhq K) := by
 refine F.ok Zle (fun vs H Q E h => ?_) (fun cdv A outer s H vs Q E hr h => ?_)
 ·obtain ⟨a, ns, rfl, _⟩ := h
  rfl
 ·obtain ⟨a, ns, rfl, hS, hl, k⟩ := h
  refine ⟨_, Z06 (Z0d (Z7l (Z25 Z09 (Z1a Z2j (by rfl) T.list (by rfl) (Z08 (Z16 Z9f (pv 0) Z1u (Z1q Z05)) Z02)) (Z25 Z09 Z05 (Z25 Z09 Z05 (Z25 Z09 Z28 Z7k)))) rfl rfl (by intro z; cases z) (by decide))), ?_⟩
  intro d hd
  refine ⟨_, rfl, _, rfl, a, _, rfl, (Z01 hd).seq hS, fun p hp => ?_⟩
  refine ⟨p, _, rfl, .inl (SqL.of Z00), fun l hl' => ?_⟩
  have hdl : d ≠ l := Z0h (H := upd (upd H d (.dK [])) p (.lst (Z3s (ns.map V.int) none (some 63)))) (by rw [Z0a (Z0h Z00 hp)]; exact Z00) hl'
  have hpd : p ≠ d := fun z => by rw [z, Z00] at hp; cases hp
  refine ⟨by rw [Z0a hdl, Z0a hpd.symm]; exact Z00, Z0v l 0 0 false, rfl, by show 4 <= 15; decide, ?_⟩
  have em : Z2k [] (Z0v l 0 0 false) = Z0v l 0 0 false := by with_unfolding_all rfl
  rw [em]
  refine k d l _ ⟨⟨0, false, Z00⟩, ?_, hl⟩ hd ?_
  ·rw [Z0a hdl.symm, Z00, Zn9 hl]
  ·intro b o e
   have hb : (upd H d (.dK [])) b = some o := Z01 hd b o e
   have hb2 := Z01 (o := .lst (Z3s (ns.map V.int) none (some 63))) hp b o hb
   rw [Z0a (Z0h e hd)]
   exact Z01 hl' b o hb2
theorem scDraw : FnScope ["_law_feed_here", "_law_many", "_law_found", "_law_at", "_law_cell", "_law_number"] ["_law_feed_here", "_law_many"] (Z03 Zde) := ⟨rfl, rfl, rfl, by decide +kernel, rfl, by decide +kernel, by decide +kernel⟩
theorem Z37 {f : Addr} {fd : FuncData} (F : Fun K "_law_draw" "_law_draw" Zde f fd) (T : Txt0 mg) : FnOk P w K mg base CX0 1 f fd ["_law_feed_here", "_law_many"] spDraw := by
 refine F.ok scDraw (fun vs H Q E h => ?_) (fun cdv A outer s H vs Q E hr h => ?_)
 ·obtain ⟨d, l, ns, n, m, rfl, _⟩ := h
  rfl
 ·obtain ⟨d, l, ns, n, m, rfl, FD, hn, hm0, hm1, k⟩ := h
  have hu := Z9j hr
  have hu0 := hr.units0
  obtain ⟨⟨z, sb, hd⟩, hls, hsz⟩ := id FD
  refine ⟨_, Z04 (Z10 (Z0b Z9c (Z17 hu (pv 0) Z09 (fun _ _ => rfl)) Z05 (Z0k _))
    (Z04 (Z0c (i := 2) scDraw.nd rfl (Or.inl rfl) (Z0l Z2t (Z17 hu (pv 0) Z09 (fun _ _ => rfl)) (pv 1))) <|
     Z04 (Z4v hu (pv 0) Z09 (Z0l Z5l (Z17 hu (pv 0) Z09 (fun _ _ => rfl)) (pv 1)) rfl) <|
     Z06 (Z0d (pv 2))) Z0g) <|
   Z04 (Z0c (i := 3) scDraw.nd rfl (Or.inl rfl) (Z17 hu (pv 0) Z09 (fun _ _ => rfl))) <|
   Z04 (Z4v hu (pv 0) Z09 (Z0l Z1z (pv 3) Z05) rfl) <|
   Z04 (Z0c (i := 4) scDraw.nd rfl (Or.inl rfl) (Z0l Z1z (Z0l Z3v (pv 3) (pv 3)) Z05)) <|
   Z0p (Z10 (Z0b (Z3l hu0) (Z17 hu (pv 0) Z09 (fun _ _ => rfl)) (Z0y Z02) (Z0k _))
    (Z06 (Z0c (i := 4) scDraw.nd rfl (Or.inl rfl) (Z18 Z20 (Z17 hu (pv 0) Z09 (fun _ _ => rfl)) (Z0l Z2t (pv 3) (Z0i Z0w (by rfl) T.len PySem.boot_len (Z08 (Z17 hu (pv 0) Z09 (fun _ _ => rfl)) Z02))) (fun _ _ => rfl)))) Z0g) <|
   Z04 (Z10 (Z0b Zmh (pv 4) (Z0l Zcl Z05 Z05) (Z0k _))
    (Z04 (Z4v hu (pv 0) Z09 (Z0l Z5l (pv 4) (pv 1)) rfl) <| Z06 (Z0d (Z0l Z2t (pv 4) (pv 1)))) Z0g) <|
   Z04 (Z0c (i := 5) scDraw.nd rfl (Or.inl rfl) (Z0l Z2t (Z0l Z3v (Z0l Z1z (Z0l Z1z (Z0l Z2t (pv 4) Z05) (Z0l Z3v Z05 (pv 3))) Z05) Z05) Z05)) <|
   Z04 (Z0c (i := 5) scDraw.nd rfl (Or.inl rfl) (Z0l Z2t (Z0l Z1z (Z0l Z1z (Z0l Z3v (pv 5) (pv 5)) (Z0l Z3v Z05 (pv 3))) Z05) Z05)) <|
   Z04 (Z0c (i := 5) scDraw.nd rfl (Or.inl rfl) (Z0l Z2t (Z0l Z1z (Z0l Z3v (pv 5) Z05) (pv 3)) Z05)) <|
   Z06 (Z0d (Z0l Z2t (Z0l Z5l (Z0l Z2t (Z0l Z3v (pv 5) (pv 5)) Z05) Z05) (pv 1))), ?_⟩
  refine ⟨_, rfl, d, .int z, rfl, Z7v hd, _, _, rfl, rfl, _, rfl, ?_⟩
  refine Z14 (fun hz => ?_) (fun hz => ?_)
  ·refine ⟨_, rfl, d, .int z, rfl, Z7v hd, _, rfl, _, _, rfl, rfl, hm0, ?_⟩
   refine ⟨_, rfl, d, .int z, rfl, Z7v hd, _, rfl, _, _, rfl, rfl, ⟨hm0, hm1⟩, _, rfl, d, _, rfl, Zbd hd, _, rfl, ?_⟩
   exact k _ n _ (Int.emod_nonneg _ (by omega)) (Int.emod_lt_of_pos _ hm0) (Nat.le_succ _) (FD.but But.upd Z00) But.upd
  ·refine ⟨_, rfl, d, .int n, rfl, Zlc hd, ?_⟩
   refine ⟨_, rfl, _, _, rfl, rfl, _, rfl, d, _, rfl, Zld hd, ?_⟩
   have hd1 : upd H d (.dK (Z0v l (n + 1) z sb)) d = some (.dK (Z0v l (n + 1) z sb)) := Z00
   have F1 : Feed (upd H d (.dK (Z0v l (n + 1) z sb))) d l ns (n + 1) := FD.but But.upd Z00
   have B1 : But d H (upd H d (.dK (Z0v l (n + 1) z sb))) := But.upd
   generalize upd H d (.dK (Z0v l (n + 1) z sb)) = H1 at hd1 F1 B1 ⊢
   have hls1 := F1.ls
   refine ⟨_, rfl, _, rfl, _, _, rfl, rfl, .inl ⟨by omega, by omega⟩, _, _, rfl, rfl, ?_⟩
   refine ⟨fun σ' H' => ∃ c o, σ' = [some (.ref d), some (.int m), o, some (.int n), some (.int c), none] /\ Feed H' d l ns (n + 1) /\ But d H H', ?_, ?_⟩
   ·refine ⟨_, rfl, d, .ref l, rfl, Z68 hd1, Nat.zero_le _, fun e he => ⟨l, e, ns.map V.int, [], rfl, rfl, SqL.of (Z01 he _ _ hls1), SqL.of Z00, Ze1 ns, rfl, _, rfl, ?_⟩⟩
    have F2 := F1.same (Z01 (o := .lst []) he)
    have B2 : But d H (upd H1 e (.lst [])) := B1.trans (But.of (Z01 he))
    obtain ⟨⟨z2, sb2, hd2⟩, hls2, _⟩ := id F2
    refine Z14 (fun hne => ?_) (fun hne => ?_)
    ·have hpos : 0 < (ns.map V.int).length := by
      cases ns with
      | nil => exact absurd hne (by decide)
      | cons _ _ => exact Nat.succ_pos _
     obtain ⟨v, hv, hat⟩ := Zkm hpos (n : Int)
     obtain ⟨c, _, rfl⟩ := List.mem_map.mp hv
     refine ⟨_, rfl, d, .ref l, rfl, Z68 hd2, _, rfl, _, rfl, d, .ref l, rfl, Z68 hd2, l, ns.map V.int, rfl, .inl (SqL.of hls2), _, _, rfl, rfl, (by show (0 : Int) < ((ns.map V.int).length : Int); omega), l, ns.map V.int, _, .int c, rfl, rfl, SqL.of hls2, hat, ?_⟩
     exact ⟨c, none, rfl, F2, B2⟩
    ·exact ⟨_, none, rfl, F2, B2⟩
   ·rintro σ' H2 ⟨c, o, rfl, F2, B2⟩
    obtain ⟨⟨z2, sb2, hd2⟩, hls2, _⟩ := id F2
    refine ⟨_, rfl, _, _, rfl, rfl, ⟨by decide, by decide, by decide⟩, _, _, rfl, rfl, _, rfl, ?_⟩
    refine Z14 (fun hge => ?_) (fun hge => ?_)
    ·refine ⟨_, rfl, _, rfl, _, _, rfl, rfl, ⟨hm0, hm1⟩, _, rfl, d, _, rfl, Zbd hd2, _, rfl, _, rfl, _, _, rfl, rfl, hm0, ?_⟩
     exact k _ (n + 1) _ (Int.emod_nonneg _ (by omega)) (Int.emod_lt_of_pos _ hm0) (Nat.le_refl _) (F2.but But.upd Z00) (B2.trans But.upd)
    ·refine ⟨_, rfl, _, _, rfl, rfl, (by show (0 : Int) < 2147483647; decide), _, rfl, _, _, rfl, rfl, .inl ⟨by decide, by decide⟩, _, _, rfl, rfl, _, _, rfl, rfl, _, _, rfl, rfl, .inr ⟨by decide, by decide⟩, _, _, rfl, rfl, (by show (0 : Int) < 2147483629; decide), ?_⟩
     refine ⟨_, rfl, _, rfl, _, _, rfl, rfl, .inl ⟨Znu _, Znv _⟩, _, rfl, _, _, rfl, rfl, .inl ⟨by decide, by decide⟩, _, _, rfl, rfl, _, _, rfl, rfl, _, _, rfl, rfl, (by show (0 : Int) < 2147483647; decide), ?_⟩
     refine ⟨_, rfl, _, _, rfl, rfl, .inr ⟨by decide, by decide⟩, _, rfl, _, _, rfl, rfl, _, _, rfl, rfl, (by show (0 : Int) < 2147483629; decide), ?_⟩
     refine ⟨_, rfl, _, rfl, _, _, rfl, rfl, .inl ⟨Znu _, Znv _⟩, _, _, rfl, rfl, (by show (0 : Int) < 2147483587; decide), _, _, rfl, rfl, ⟨by decide, by decide⟩, _, rfl, _, _, rfl, rfl, hm0, ?_⟩
     exact k _ (n + 1) _ (Int.emod_nonneg _ (by omega)) (Int.emod_lt_of_pos _ hm0) (Nat.le_refl _) F2 B2
def Low (t : Str) : Prop := ∀ c ∈ t.cps.toList, 97 <= c /\ c <= 122
theorem Zj9 : Low "" := by
 have e : ("" : Str).cps.toList = [] := by decide +kernel
 intro c hc
 rw [e] at hc
 cases hc
theorem Z69 {x y : Str} (a : Low x) (b : Low y) : Low (x ++ y) := by
 intro c hc
 have e : (x ++ y).cps.toList = x.cps.toList ++ y.cps.toList := by
  show (x.cps ++ y.cps).toList = _
  rw [Array.toList_append]
 rw [e] at hc
 rcases List.mem_append.mp hc with z | z
 ·exact a c z
 ·exact b c z
theorem Z9y {c : Nat} (h : 97 <= c /\ c <= 122) : Low ⟨#[c]⟩ := by
 intro d hd
 have : d = c := by simpa using hd
 subst this
 exact h
def Ze2 (t : Str) (x m : Int) : Prop := ((t.length : Int) = m /\ Low t) /\ (0 < m -> t.cps.toList[0]? = some (97 + (x % 26).toNat))
def spSpelled : Sp := fun vs H Q _ => ∃ (x m : Int), vs = [.int x, .int m] /\ 0 <= m /\ m <= 10 /\ ∀ t : Str, Ze2 t x m -> Q (.str t) H
abbrev abc : Str := "abcdefghijklmnopqrstuvwxyz"
theorem Zlf : ∀ k : Fin 26, abc.cps.toList[k.val]? = some (97 + k.val) := by decide +kernel
theorem Zlg (y : Int) : atI abc.cps.toList (y % 26) = some (97 + (y % 26).toNat) := by
 have h0 : 0 <= y % 26 := by omega
 have h1 : y % 26 < 26 := by omega
 have e : y % 26 = ((y % 26).toNat : Int) := by omega
 have h := Z32 (Zlf ⟨(y % 26).toNat, by omega⟩)
 rw [<- e] at h
 exact h
theorem scSpelled : FnScope ["_law_number", "_law_long", "_law_word", "_law_k"] ["_law_number", "_law_long"] (Z03 Z4g) := ⟨rfl, rfl, rfl, by decide +kernel, rfl, by decide +kernel, by decide +kernel⟩
theorem Zc8 {f : Addr} {fd : FuncData} (F : Fun K "_law_spelled" "_law_spelled" Z4g f fd) (T : Txt0 mg) : FnOk P w K mg base CX0 1 f fd ["_law_number", "_law_long"] spSpelled := by
 refine F.ok scSpelled (fun vs H Q E h => ?_) (fun cdv A outer s H vs Q E hr h => ?_)
 ·obtain ⟨x, m, rfl, _⟩ := h
  rfl
 ·obtain ⟨x, m, rfl, h0, h1, k⟩ := h
  refine ⟨_, Z04 (Z0c (i := 2) scSpelled.nd rfl (Or.inl rfl) Z09) <|
   Z04 (Z44 PassesOwn.never rfl (Z19 rfl T.range (Z08 (pv 1) Z02)) (Z0o (i := 3) scSpelled.nd rfl (Or.inl rfl))
    (Z04 (Z0c (i := 2) scSpelled.nd rfl (Or.inl rfl) (Z0l Z2u (pv 2) (Z18 Zaf Z09 (Z0l Z2t (pv 0) Z05) (fun _ _ => rfl)))) <|
     Z06 (Z0c (i := 0) scSpelled.nd rfl (Or.inl rfl) (Z0l Z5l (pv 0) Z05)))) <|
   Z06 (Z0d (pv 2)), ?_⟩
  refine ⟨_, rfl, m, rfl, by omega, by omega, Z2s (n := m.toNat) (fun i σ H' => ∃ y t o, σ = [some (.int y), some (.int m), some (.str t), o] /\ t.length = i /\ Low t /\ (i = 0 -> y = x) /\ (0 < i -> t.cps.toList[0]? = some (97 + (x % 26).toNat)) /\ H' = H) ⟨x, _, none, rfl, rfl, Zj9, fun _ => rfl, fun z => absurd z (Nat.lt_irrefl _), rfl⟩ ?_ ?_⟩
  ·rintro i σ H' hi ⟨y, t, o, rfl, ht, hlow, hy, hf, rfl⟩
   have hat := Zlg y
   refine ⟨_, rfl, _, rfl, _, _, rfl, rfl, (by show (0 : Int) < 26; decide), abc, _, _, rfl, rfl, (by decide +kernel), hat, _, _, rfl, rfl, ?_, _, rfl, _, _, rfl, rfl, ⟨by decide, by decide⟩, ?_⟩
   ·show t.length + 1 <= sizeLine
    have : sizeLine = 16777216 := sizeLine_eq
    omega
   ·refine ⟨_, _, _, rfl, by rw [PySem.Str.length_append, ht]; rfl, Z69 hlow (Z9y (by omega)), fun z => absurd z (Nat.succ_ne_zero _), fun _ => ?_, rfl⟩
    show (t.cps ++ #[97 + (y % 26).toNat]).toList[0]? = _
    by_cases hz : i = 0
    ·have h2 : t.cps.toList = [] := by
      apply List.eq_nil_of_length_eq_zero
      rw [Array.length_toList]
      show t.length = 0
      omega
     rw [Array.toList_append, h2, hy hz]
     rfl
    ·have h2 := hf (by omega)
     rw [Array.toList_append, List.getElem?_append_left (by rw [Array.length_toList]; show 0 < t.length; omega)]
     exact h2
  ·rintro σ H' ⟨y, t, o, rfl, ht, hlow, _, hf, rfl⟩
   exact ⟨_, rfl, k t ⟨⟨by omega, hlow⟩, fun z => hf (by omega)⟩⟩
end
theorem But.lst {d a : Addr} {H H' : Hp} {kvs : List (Key × V)} {xs : List V} (b : But d H H') (hd : H d = some (.dK kvs)) (h : H a = some (.lst xs)) : H' a = some (.lst xs) := b a _ h (Z4r h hd (by intro q; cases q))
theorem But.kp {d l : Addr} {ns : List Int} {n : Nat} {H H' : Hp} (b : But d H H') (F : Feed H d l ns n) : Kp H H' := by
 obtain ⟨⟨z, sb, hd⟩, _, _⟩ := F
 intro a o h hk
 exact b a o h (fun q => by subst q; rw [hd] at h; cases h; exact hk _ rfl)
theorem Feed.lst {d l a : Addr} {ns : List Int} {n : Nat} {H H' : Hp} {xs : List V} (F : Feed H d l ns n) (b : But d H H') (h : H a = some (.lst xs)) : H' a = some (.lst xs) := by
 obtain ⟨⟨z, sb, hd⟩, _, _⟩ := F
 exact b.lst hd h
def wordsT : List Str := ["num", "name", "op", "pick", "let", "set", "say", "take", "do", "again", "call", "own", "hole"]
def spWords : Sp := fun vs H Q _ => vs = [] /\ ∀ l, H l = none -> Q (.ref l) (upd H l (.lst (wordsT.map V.str)))
def spOne : Sp := fun vs H Q _ => ∃ (d l a : Addr) (ns : List Int) (n : Nat) (xs : List V), vs = [.ref d, .ref a] /\ Feed H d l ns n /\ n <= 900000000000 /\ H a = some (.lst xs) /\ 0 < xs.length /\ xs.length <= 1000000 ∧
 ∀ v n' H', v ∈ xs -> n' <= n + 1 -> Feed H' d l ns n' -> But d H H' -> Q v H'
def spValue : Sp := fun vs H Q _ => ∃ (d l : Addr) (ns : List Int) (n : Nat), vs = [.ref d] /\ Feed H d l ns n /\ n <= 900000000000 ∧
 ∀ (i : Int) n' H', 0 <= i -> i <= 999999999 -> n' <= n + 3 -> Feed H' d l ns n' -> But d H H' -> Q (.int i) H'
section
variable {P : Program} {w : World} {K : PySem.W.Frag} {mg : Str -> Option Value} {base : Heap}
structure Dr (K : PySem.W.Frag) (mg : Str -> Option Value) (fD fS fO fW : Addr) (dD dS dO dW : FuncData) : Prop where
 T : Txt0 mg
 D : Fun K "_law_draw" "_law_draw" Zde fD dD
 bD : Binds K dD ["_law_feed_here", "_law_many"] []
 mD : mg "_law_draw" = some (.ref fD)
 S : Fun K "_law_spelled" "_law_spelled" Z4g fS dS
 bS : Binds K dS ["_law_number", "_law_long"] []
 mS : mg "_law_spelled" = some (.ref fS)
 O : Fun K "_law_one" "_law_one" Zkw fO dO
 bO : Binds K dO ["_law_feed_here", "_law_some"] []
 mO : mg "_law_one" = some (.ref fO)
 W : Fun K "_law_words" "_law_words" Z3g fW dW
 bW : Binds K dW [] []
 mW : mg "_law_words" = some (.ref fW)
theorem Zja : FnScope [] [] (Z03 Z3g) := ⟨rfl, rfl, rfl, by decide +kernel, rfl, by decide +kernel, by decide +kernel⟩
theorem Zbe {f : Addr} {fd : FuncData} (F : Fun K "_law_words" "_law_words" Z3g f fd) : FnOk P w K mg base CX0 1 f fd [] spWords := by
 have hb : ∃ p1 p2 es, Z0n Z3g = [.Return (some (.List es p1)) p2] /\ es.map Z3w = (wordsT.map V.str).map some := ⟨_, _, _, rfl, rfl⟩
 obtain ⟨p1, p2, es, hb, he⟩ := hb
 refine F.ok Zja (fun vs H Q E h => ?_) (fun cdv A outer s H vs Q E hr h => ?_)
 ·obtain ⟨rfl, _⟩ := h
  rfl
 ·obtain ⟨rfl, k⟩ := h
  rw [hb]
  refine ⟨_, Z06 (Z0d (Z0y (Z49 (vs := wordsT.map V.str) he))), ?_⟩
  exact ⟨Z2y (by decide +kernel), fun l hl => k l hl⟩
theorem Zna : FnScope ["_law_feed_here", "_law_some"] ["_law_feed_here", "_law_some"] (Z03 Zkw) := ⟨rfl, rfl, rfl, by decide +kernel, rfl, by decide +kernel, by decide +kernel⟩
theorem Z4n {f fD fS fO fW : Addr} {fd dD dS dO dW : FuncData} (F : Fun K "_law_one" "_law_one" Zkw f fd) (U : Dr K mg fD fS fO fW dD dS dO dW) : FnOk P w K mg base CX0 2 f fd ["_law_feed_here", "_law_some"] spOne := by
 have GD : FnOk P w K mg base CX0 1 fD dD ["_law_feed_here", "_law_many"] spDraw := Z37 U.D U.T
 refine F.ok Zna (fun vs H Q E h => ?_) (fun cdv A outer s H vs Q E hr h => ?_)
 ·obtain ⟨d, l, a, ns, n, xs, rfl, _⟩ := h
  rfl
 ·obtain ⟨d, l, a, ns, n, xs, rfl, F0, hn, hS, h0, h1, k⟩ := h
  refine ⟨_, Z06 (Z0d (Z18 Z20 (pv 1) (Z07 GD (hr.mono (by decide)) rfl U.mD U.D.kp U.bD .nil Z0f (Z08 (pv 0) (Z08 (Z0i Z0w (by rfl) U.T.len PySem.boot_len (Z08 (pv 1) Z02)) Z02))) (fun _ _ => rfl))), ?_⟩
  refine ⟨_, rfl, _, rfl, _, rfl, a, xs, rfl, .inl (SqL.of hS), d, l, ns, n, _, rfl, F0, by omega, (by show (0 : Int) < (xs.length : Int); omega), (by show (xs.length : Int) < 18446744073709551616; omega), fun r n' H' hr0 hr1 hle F' B' => ?_⟩
  obtain ⟨v, hv, hat⟩ := Z9k (xs := xs) hr0 hr1
  exact ⟨a, xs, r, v, rfl, rfl, SqL.of (F0.lst B' hS), hat, k v n' H' hv hle F' B'⟩
theorem scLawValue : FnScope ["_law_feed_here", "_law_way"] ["_law_feed_here"] (Z03 Z27) := ⟨rfl, rfl, rfl, by decide +kernel, rfl, by decide +kernel, by decide +kernel⟩
theorem Zga {f fD fS fO fW : Addr} {fd dD dS dO dW : FuncData} (F : Fun K "_law_value" "_law_value" Z27 f fd) (U : Dr K mg fD fS fO fW dD dS dO dW) : FnOk P w K mg base CX0 2 f fd ["_law_feed_here"] spValue := by
 have GD : FnOk P w K mg base CX0 1 fD dD ["_law_feed_here", "_law_many"] spDraw := Z37 U.D U.T
 refine F.ok scLawValue (fun vs H Q E h => ?_) (fun cdv A outer s H vs Q E hr h => ?_)
 ·obtain ⟨d, l, ns, n, rfl, _⟩ := h
  rfl
 ·obtain ⟨d, l, ns, n, rfl, F0, hn, k⟩ := h
  have hr1 : Room 1 _ := hr.mono (by decide)
  refine' ⟨?tt, ?body, ?fin⟩
  case body =>
   refine' Z04 ?s1 (Z04 ?s2 (Z04 ?s3 (Z06 ?s4)))
   case s1 => exact Z0c (i := 1) scLawValue.nd rfl (Or.inl rfl) (Z07 GD hr1 (by rfl) U.mD U.D.kp U.bD .nil Z0f (Z0j (pv 0) (Z1y Z05 Z02)))
   case s2 => exact Z10 (Z0b Z1p (pv 1) Z05 (Z0k _)) (Z06 (Z0d (Z0l Z6p Z05 (Z07 GD hr1 (by rfl) U.mD U.D.kp U.bD .nil Z0f (Z0j (pv 0) (Z1y Z05 Z02)))))) Z0g
   case s3 => exact Z10 (Z0b Z1p (pv 1) Z05 (Z0k _)) (Z06 (Z0d (Z0l Z1z (Z0l Z3v (Z07 GD hr1 (by rfl) U.mD U.D.kp U.bD .nil Z0f (Z0j (pv 0) (Z1y Z05 Z02))) Z05) (Z07 GD hr1 (by rfl) U.mD U.D.kp U.bD .nil Z0f (Z0j (pv 0) (Z1y Z05 Z02)))))) Z0g
   case s4 => exact Z0d (Z07 GD hr1 (by rfl) U.mD U.D.kp U.bD .nil Z0f (Z0j (pv 0) (Z08 (Z0l Z6p (Z0l Z3v Z05 (pv 1)) Z05) Z02)))
  case fin =>
   refine ⟨_, rfl, d, l, ns, n, _, rfl, F0, by omega, by decide, by decide, fun way n1 H1 w0 w1 hn1 F1 b1 => ?_⟩
   refine ⟨_, rfl, rfl, _, rfl, Z14 (fun g => ?_) (fun g => ?_)⟩
   ·refine ⟨_, rfl, d, l, ns, n1, _, rfl, F1, by omega, by decide, by decide, fun i n2 H2 i0 i1 hn2 F2 b2 => ⟨_, _, rfl, rfl, ?_⟩⟩
    exact k _ n2 H2 (by omega) (by omega) (by omega) F2 (b1.trans b2)
   ·refine ⟨_, rfl, rfl, _, rfl, Z14 (fun g2 => ?_) (fun g2 => ?_)⟩
    ·refine ⟨_, rfl, d, l, ns, n1, _, rfl, F1, by omega, by decide, by decide, fun i n2 H2 i0 i1 hn2 F2 b2 => ⟨_, _, rfl, rfl, .inr ⟨by decide, by decide⟩, ?_⟩⟩
     refine ⟨_, rfl, d, l, ns, n2, _, rfl, F2, by omega, by decide, by decide, fun j n3 H3 j0 j1 hn3 F3 b3 => ⟨_, _, rfl, rfl, ?_⟩⟩
     exact k _ n3 H3 (by omega) (by omega) (by omega) F3 ((b1.trans b2).trans b3)
    ·have g' : way ≠ 0 := fun z => g (by rw [z]; decide)
     have g2' : way ≠ 1 := fun z => g2 (by rw [z]; decide)
     refine ⟨_, rfl, _, rfl, _, _, rfl, rfl, .inl ⟨by decide, by decide⟩, _, _, rfl, rfl, d, l, ns, n1, 3 * way - 3, rfl, F1, by omega, by omega, by omega, fun i n2 H2 i0 i1 hn2 F2 b2 => ?_⟩
     exact k i n2 H2 i0 (by omega) (by omega) F2 (b1.trans b2)
end
instance (t : Str) : Decidable (Low t) := by unfold Low; exact inferInstance
theorem Z6a {x : Str} {lo hi : Option Int} (h : Low x) : Low (Txt.slice x lo hi) := by
 unfold Txt.slice
 split
 ·exact h
 ·intro c hc
  have hc' := hc
  simp only [List.mem_filterMap] at hc'
  obtain ⟨i, _, e⟩ := hc'
  refine h c ?_
  rw [Array.mem_toList_iff]
  exact Array.mem_of_getElem? e
def short15 : List Str := ["a", "b", "c", "d", "x", "y", "z", "n", "t", "v", "aa", "ab", "xa", "tmp", "new"]
theorem Zgb : ∀ t ∈ wordsT, (1 <= t.length /\ t.length <= 5) /\ Low t := by decide +kernel
theorem Z77 : ∀ t ∈ short15, ((1 <= t.length /\ t.length <= 5) /\ Low t) /\ t ∉ wordsT := by decide +kernel
theorem Z58 (x y : Str) : (x ++ y).length = x.length + y.length := PySem.Str.length_append x y
theorem Z59 {x : Str} (h : x.length <= 1000) : x.length <= sizeLine := Nat.le_trans h (by decide)
abbrev Nm (t : Str) : Prop := (1 <= t.length /\ t.length <= 8) /\ Low t
def spLawName : Sp := fun vs H Q _ => ∃ (d l a : Addr) (ns : List Int) (n : Nat) (ts : List Str), vs = [.ref d, .ref a] /\ Feed H d l ns n /\ n <= 800000000000 /\ H a = some (.lst (ts.map V.str)) /\ ts.length <= 40 /\ (∀ t ∈ ts, Nm t) ∧
 ∀ (t : Str) n' H', Nm t -> t ∉ ts -> t ∉ wordsT -> n' <= n + 8 -> Feed H' d l ns n' -> But d H H' -> Q (.str t) H'
theorem Zbf {t : Str} (h : 1 <= t.length) : ∃ c, atI t.cps.toList 0 = some c := by
 have hl : t.cps.toList.length = t.length := by simp [Str.length]
 obtain ⟨c, _, e⟩ := Z9k (xs := t.cps.toList) (i := 0) (by decide) (by rw [hl]; omega)
 exact ⟨c, e⟩
theorem Zhr {t : Str} {i : Int} {c : Nat} (h : Low t) (e : atI t.cps.toList i = some c) : 97 <= c /\ c <= 122 := by
 obtain ⟨j, _, e2, _⟩ := Z7h e
 exact h c (List.mem_of_getElem? e2)
def mi (m : Int) (i : Nat) : Int := (m - 1 + i) % 8 + 1
def Z5j (x m : Int) (u : Str) (j : Nat) : Prop := (u.length : Int) = mi m j /\ u.cps.toList[0]? = some (97 + ((x + j) % 26).toNat)
instance (x m : Int) (u : Str) (j : Nat) : Decidable (Z5j x m u j) := by unfold Z5j; exact inferInstance
theorem Ze3 {x m : Int} {u : Str} {i j : Nat} (hi : i <= 60) (hj : j < i) (a : Z5j x m u i) (b : Z5j x m u j) : False := by
 obtain ⟨a1, a2⟩ := a
 obtain ⟨b1, b2⟩ := b
 unfold mi at a1 b1
 rw [a2] at b2
 have b3 := Option.some.inj b2
 have h1 : 0 <= (x + i) % 26 := by omega
 have h2 : 0 <= (x + j) % 26 := by omega
 omega
structure Left (x m : Int) (ex R : List Str) (i : Nat) : Prop where
 few : R.length + i <= 54
 all : ∀ u ∈ ex, u ∈ R ∨ ∃ j, j < i /\ Z5j x m u j
theorem Left.zero {x m : Int} {ex : List Str} (h : ex.length <= 53) : Left x m ex ex 0 := ⟨by omega, fun u hu => .inl hu⟩
theorem Left.one {x m : Int} {ex R : List Str} (h : ex.length <= 53) : Left x m ex ex 1 := ⟨by omega, fun u hu => .inl hu⟩
theorem Left.next {x m : Int} {ex R : List Str} {i : Nat} {t : Str} (h : Left x m ex R i) (ht : t ∈ ex) (k : Z5j x m t i) : Left x m ex (R.filter fun u => !decide (Z5j x m u i)) (i + 1) := by
 have hR : t ∈ R := by
  rcases h.all t ht with z | ⟨j, hj, kj⟩
  ·exact z
  ·exact (Ze3 (by have := h.few; omega) hj k kj).elim
 have hlt : (R.filter fun u => !decide (Z5j x m u i)).length < R.length := by
  rw [List.length_filter_lt_length_iff_exists]
  exact ⟨t, hR, by simp [k]⟩
 refine ⟨by have := h.few; omega, fun u hu => ?_⟩
 rcases h.all u hu with z | ⟨j, hj, kj⟩
 ·by_cases q : Z5j x m u i
  ·exact .inr ⟨i, Nat.lt_succ_self _, q⟩
  ·exact .inl (List.mem_filter.mpr ⟨z, by simp [q]⟩)
 ·exact .inr ⟨j, by omega, kj⟩
theorem Z4o {X : Cx} {K : PySem.W.Frag} (hK : X.K = K) : OpR X (compareOp .NotIn) (rIn K true) := by subst hK; exact Z3c
theorem Znb : (["_law_taken", "_law_name_here"] : List Str).Nodup := by decide +kernel
section
variable {P : Program} {w : World} {K : PySem.W.Frag} {mg : Str -> Option Value} {base : Heap}
theorem scLawName : FnScope ["_law_feed_here", "_law_taken", "_law_words_here", "_law_some", "_law_way", "_law_long", "_law_number", "_law_name_here", "_law_word", "_law_at"] ["_law_feed_here", "_law_taken"] (Z03 Z2m) := ⟨rfl, rfl, rfl, by decide +kernel, rfl, by decide +kernel, by decide +kernel⟩
def Mid (d l a wd : Addr) (ns : List Int) (n k : Nat) (ts : List Str) (H : Hp) (so : Addr) (way m x : Int) : St -> Hp -> Prop := fun σ' H' => ∃ (t : Str) (n' : Nat) (o8 o9 : Option V),
 σ' = [some (.ref d), some (.ref a), some (.ref wd), some (.ref so), some (.int way), some (.int m), some (.int x), some (.str t), o8, o9] /\ Nm t /\ n' <= n + k /\ Feed H' d l ns n' /\ H' a = some (.lst (ts.map V.str)) /\ H' wd = some (.lst (wordsT.map V.str)) /\ But d H H'
theorem Zbg {f fD fS fO fW : Addr} {fd dD dS dO dW : FuncData} (F : Fun K "_law_name" "_law_name" Z2m f fd) (U : Dr K mg fD fS fO fW dD dS dO dW) : FnOk P w K mg base CX0 3 f fd ["_law_feed_here", "_law_taken"] spLawName := by
 have GD : FnOk P w K mg base CX0 1 fD dD ["_law_feed_here", "_law_many"] spDraw := Z37 U.D U.T
 have GS : FnOk P w K mg base CX0 1 fS dS ["_law_number", "_law_long"] spSpelled := Zc8 U.S U.T
 have GO : FnOk P w K mg base CX0 2 fO dO ["_law_feed_here", "_law_some"] spOne := Z4n U.O U
 have GW : FnOk P w K mg base CX0 1 fW dW [] spWords := Zbe U.W
 refine F.ok scLawName (fun vs H Q E h => ?_) (fun cdv A outer s H vs Q E hr h => ?_)
 ·obtain ⟨d, l, a, ns, n, ts, rfl, _⟩ := h
  rfl
 ·obtain ⟨d, l, a, ns, n, ts, rfl, F0, hn, A0, hts, hall, k⟩ := h
  have hu := Z9j hr
  have hu0 := hr.units0
  have hsz : sizeLine = 16777216 := sizeLine_eq
  have hr1 : Room 1 _ := hr.mono (by decide)
  have hr2 : Room 2 _ := hr.mono (by decide)
  refine' ⟨?tt, ?body, ?fin⟩
  case body =>
   refine' Z04 ?s1 ?rs1
   case s1 => exact Z0c (i := 2) scLawName.nd rfl (Or.inl rfl) (Z7g GW hr1 (by rfl) U.mW U.W.kp U.bW .nil Z0f)
   case rs1 =>
    refine' Z04 ?s2 ?rs2
    case s2 =>
     refine' Z7u (i := 3) ?ha ?hb ?hc ?hd ?he ?hf
     case ha => exact scLawName.nd
     case hb => exact rfl
     case hc => exact (Or.inl rfl)
     case he => exact rfl
     case hf => exact (.inr rfl)
     case hd =>
      refine' @Z4c ((Z9e CX0 P w K mg base ["_law_feed_here", "_law_taken", "_law_words_here", "_law_some", "_law_way", "_law_long", "_law_number", "_law_name_here", "_law_word", "_law_at"] "_law_name" (Z03 Z2m) f cdv A outer s H E).nox) _ (short15.map V.str) ?q
      case q => decide +kernel
    case rs2 =>
     refine' Z0p ?s3 ?rs3
     case s3 =>
      refine' Z4z (i := 3) (N' := ["_law_taken", "_law_name_here"]) (src := [some 1, none]) ?k1 ?k2 ?k3 ?k4 ?k5 ?k6 ?k7
      case k1 => rfl
      case k2 => exact scLawName.nd
      case k3 => rfl
      case k4 => exact Or.inl rfl
      case k5 => exact Z0m (Z03 Z2m) rfl ["_law_feed_here", "_law_taken", "_law_words_here", "_law_some", "_law_way", "_law_long", "_law_number", "_law_name_here", "_law_word", "_law_at"] rfl (by decide +kernel)
      case k6 => exact Z4u (pv 3)
      case k7 => exact fun cl C ex s0 H0 => ⟨Z0o (i := 1) Znb rfl (Or.inl rfl), Z4y (Z0b (Z4o (K := K) rfl) (pv 1) (pv 0) (by with_unfolding_all rfl)), pv 1⟩
     case rs3 =>
      refine' Z04 ?s4 ?rs4
      case s4 => exact Z0c (i := 4) scLawName.nd rfl (Or.inl rfl) (Z07 GD hr1 (by rfl) U.mD U.D.kp U.bD .nil Z0f (Z0j (pv 0) (Z1y Z05 Z02)))
      case rs4 =>
       refine' Z0p ?s5 ?rs5
       case s5 =>
        refine' Z10 ?c (Z06 ?b) Z0g
        case c => exact (Z6n (Z0b (Z3l hu0) (pv 3) (Z0y Z02) (Z0k _)) (Z4s (Z3r (Z0b Z1p (pv 4) Z05 (Z0k _)) (Z3u (Z2c (Z17 hu (pv 0) Z09 (fun _ _ => rfl))))).pt)).pt
        case b => exact Z0d (Z18 Z20 (pv 3) (Z07 GD hr1 (by rfl) U.mD U.D.kp U.bD .nil Z0f (Z0j (pv 0) (Z6h (Z0i Z0w (by rfl) U.T.len PySem.boot_len (Z0j (pv 3) Z02)) Z02))) (fun _ _ => rfl))
       case rs5 =>
        refine' Z04 ?s6 ?rs6
        case s6 => exact Z0c (i := 5) scLawName.nd rfl (Or.inl rfl) (Z0l Z1z Z05 (Z07 GD hr1 (by rfl) U.mD U.D.kp U.bD .nil Z0f (Z0j (pv 0) (Z1y Z05 Z02))))
        case rs6 =>
         refine' Z04 ?s7 ?rs7
         case s7 => exact Z0c (i := 6) scLawName.nd rfl (Or.inl rfl) (Z0l Z1z (Z0l Z3v (Z07 GD hr1 (by rfl) U.mD U.D.kp U.bD .nil Z0f (Z0j (pv 0) (Z1y Z05 Z02))) Z05) (Z07 GD hr1 (by rfl) U.mD U.D.kp U.bD .nil Z0f (Z0j (pv 0) (Z1y Z05 Z02))))
         case rs7 =>
          refine' Z04 ?s8 ?rs8
          case s8 => exact Z0c (i := 7) scLawName.nd rfl (Or.inl rfl) (Z07 GS hr1 (by rfl) U.mS U.S.kp U.bS .nil Z0f (Z0j (pv 6) (Z0j (pv 5) Z02)))
          case rs8 =>
           refine' Z0p ?s9 ?rs9
           case s9 =>
            refine' Z10 (Z0b Z1p (pv 4) Z05 (Z0k _)) (Z06 ?b) Z0g
            case b =>
             refine' Z0c (i := 7) scLawName.nd rfl (Or.inl rfl) (Z0l Z2u ?l ?r)
             case l => exact Z18 Z20 (pv 2) (Z07 GD hr1 (by rfl) U.mD U.D.kp U.bD .nil Z0f (Z0j (pv 0) (Z1y Z05 Z02))) (fun _ _ => rfl)
             case r => exact Z18 Zaf (pv 7) Z05 (fun _ _ => rfl)
           case rs9 =>
            refine' Z0p ?s10 ?rs10
            case s10 =>
             refine' Z10 ?c (Z06 ?b) Z0g
             case c => exact (Z6n (Z0b Z1p (pv 4) Z05 (Z0k _)) (Z4s (Z0b (Z3l hu0) (pv 1) (Z0y Z02) (Z0k _)))).pt
             case b =>
              refine' Z0c (i := 7) scLawName.nd rfl (Or.inl rfl) (Z16 Zan (Z0l Z2u ?x ?z) Z1u (Z1q ?u))
              case x => exact (Z07 GO hr2 (by rfl) U.mO U.O.kp U.bO .nil Z0f (Z0j (pv 0) (Z0j (pv 1) Z02)))
              case z => exact pv 7
              case u => exact Z0l Z1z Z05 (Z0l Z2t (pv 6) Z05)
            case rs10 =>
             refine' Z0p ?s11 ?rs11
             case s11 =>
              refine' Z10 ?c (Z04 ?b1 (Z04 ?b2 (Z06 ?b3))) Z0g
              case c => exact (Z6n (Z0b Z1p (pv 4) Z05 (Z0k _)) (Z4s (Z0b (Z3l hu0) (pv 1) (Z0y Z02) (Z0k _)))).pt
              case b1 => exact Z0c (i := 8) scLawName.nd rfl (Or.inl rfl) (Z07 GO hr2 (by rfl) U.mO U.O.kp U.bO .nil Z0f (Z0j (pv 0) (Z0j (pv 1) Z02)))
              case b2 => exact Z0c (i := 9) scLawName.nd rfl (Or.inl rfl) (Z0l Z2t (pv 6) (Z0i Z2i (by rfl) U.T.len PySem.boot_len (Z0j (pv 8) Z02)))
              case b3 =>
               refine' Z0c (i := 7) scLawName.nd rfl (Or.inl rfl) (Z0l Z2u (Z0l Z2u ?x ?y) ?z)
               case x => exact Z16 Zan (pv 8) Z1u (Z1q (pv 9))
               case y => exact Z18 Zaf (pv 7) Z05 (fun _ _ => rfl)
               case z => exact Z16 Zan (pv 8) (Z1q (Z0l Z1z (pv 9) Z05)) Z1u
             case rs11 =>
              refine' Z04 ?s12 ?rs12
              case s12 =>
               refine' Z7e PassesOwn.never ?c (Z04 ?b1 (Z04 ?b2 (Z06 ?b3)))
               case c => exact (Z3r (Z0b Z1k (pv 7) (pv 1) (by with_unfolding_all rfl)) (Z3u (Z0b Z1k (pv 7) (pv 2) (by with_unfolding_all rfl)))).pt
               case b1 => exact Z0c (i := 6) scLawName.nd rfl (Or.inl rfl) (Z0l Z1z (pv 6) Z05)
               case b2 => exact Z0c (i := 5) scLawName.nd rfl (Or.inl rfl) (Z0l Z1z (Z0l Z2t (pv 5) Z05) Z05)
               case b3 => exact Z0c (i := 7) scLawName.nd rfl (Or.inl rfl) (Z07 GS hr1 (by rfl) U.mS U.S.kp U.bS .nil Z0f (Z0j (pv 6) (Z0j (pv 5) Z02)))
              case rs12 =>
               refine' Z06 ?s13
               case s13 => exact Z0d (pv 7)
  case fin =>
   refine ⟨rfl, fun wd hwd => ?_⟩
   have sw := Z01 (o := .lst (wordsT.map V.str)) hwd
   refine ⟨Z2y (by decide +kernel), fun p hp => ?_⟩
   have sp := Z01 (o := .lst (short15.map V.str)) hp
   have s1 := sw.trans sp
   have F1 := F0.same s1
   have A1 := s1 _ _ A0
   have W1 := sp _ _ (Z00 (H := H) (a := wd) (o := .lst (wordsT.map V.str)))
   have S1 : upd (upd H wd (.lst (wordsT.map V.str))) p (.lst (short15.map V.str)) p = some (.lst (short15.map V.str)) := Z00
   generalize upd (upd H wd (.lst (wordsT.map V.str))) p (.lst (short15.map V.str)) = H1 at s1 F1 A1 W1 S1 ⊢
   refine ⟨fun σ' H' => ∃ (so : Addr) (fs : List Str), σ' = [some (.ref d), some (.ref a), some (.ref wd), some (.ref so), none, none, none, none, none, none] /\ Same H1 H' /\ H' so = some (.lst (fs.map V.str)) /\ fs.length <= 15 /\ ∀ t ∈ fs, t ∈ short15 /\ t ∉ ts, ?_, ?_⟩
   ·refine ⟨_, rfl, p, rfl, ⟨_, SqL.of S1⟩, Z4b (K := K) (a := p) (xs := short15.map V.str) (fun i ys σc H' => ∃ (o : Option V) (fs : List Str), σc = [some (.ref a), o] /\ H' = H1 /\ ys = fs.map V.str /\ fs.length <= i /\ ∀ t ∈ fs, t ∈ short15 /\ t ∉ ts)
     ⟨none, [], rfl, rfl, rfl, Nat.le_refl _, fun t ht => by cases ht⟩ (fun i ys σc H' ⟨_, _, _, e, _⟩ => by rw [e]; exact SqL.of S1) ?_ ?_⟩
    ·rintro i x ys σc H' hx hi ⟨o, fs, rfl, rfl, rfl, hfl, hfa⟩
     obtain ⟨t, ht, rfl⟩ := List.mem_map.mp (List.mem_of_getElem? hx)
     have hi' : i < 15 := by
      have : (short15.map V.str).length = 15 := by decide +kernel
      omega
     refine ⟨by rw [List.length_map]; omega, ?_⟩
     refine ⟨_, rfl, _, rfl, a, ts.map V.str, rfl, .inl (SqL.of A1), rfl, Z1l ts, _, rfl, Z14 (fun g => ?_) (fun g => ?_)⟩
     ·refine ⟨_, rfl, nx hi ⟨_, fs ++ [t], rfl, rfl, by rw [List.map_append]; rfl, by rw [List.length_append, List.length_singleton]; omega, fun u hu => ?_⟩⟩
      rcases List.mem_append.mp hu with z | z
      ·exact hfa u z
      ·rw [List.mem_singleton] at z
       subst z
       refine ⟨ht, fun q => ?_⟩
       have h1 := (Z1n u ts).mpr q
       have g' : (!inV (.str u) (ts.map V.str)) = true := g
       rw [h1] at g'
       cases g'
     ·exact nx hi ⟨_, fs, rfl, rfl, rfl, by omega, hfa⟩
    ·rintro ys σc H' ⟨o, fs, rfl, rfl, rfl, hfl, hfa⟩ q hq
     have : (short15.map V.str).length = 15 := by decide +kernel
     exact ⟨q, fs, rfl, Z01 hq, Z00, by omega, hfa⟩
   rintro σ1 H1' ⟨so, fs, rfl, sq, S2, hfl, hfa⟩
   have F1 := F1.same sq
   have A1 := sq _ _ A1
   have W1 := sq _ _ W1
   have B1 : But d H H1' := But.of (s1.trans sq)
   refine ⟨_, rfl, d, l, ns, n, _, rfl, F1, by omega, by decide, by decide, fun way n2 H2 _ _ hn2 F2 B2 => ?_⟩
   have A2 := F1.lst B2 A1
   have W2 := F1.lst B2 W1
   have S3 := F1.lst B2 S2
   have B2' := B1.trans B2
   refine ⟨fun σ' H' => σ' = [some (.ref d), some (.ref a), some (.ref wd), some (.ref so), some (.int way), none, none, none, none, none] /\ Feed H' d l ns n2 /\ H' a = some (.lst (ts.map V.str)) /\ H' wd = some (.lst (wordsT.map V.str)) /\ But d H H', ?_, ?_⟩
   ·refine ⟨_, rfl, Nat.zero_le _, fun e he => ⟨so, e, fs.map V.str, [], rfl, rfl, SqL.of (Z01 he _ _ S3), SqL.of Z00, Z1l fs, rfl, _, rfl, ?_⟩⟩
    have se := Z01 (o := .lst []) he
    have F2' := F2.same se
    have A2' := se _ _ A2
    have W2' := se _ _ W2
    have S3' := se _ _ S3
    have B2'' := B2'.trans (But.of (d := d) se)
    generalize upd H2 e (.lst []) = H2e at F2' A2' W2' S3' B2'' ⊢
    obtain ⟨z2, sb2, hd2⟩ := id F2'.dc
    refine Z14 (fun hne => ?_) (fun _ => Z4w ⟨rfl, F2', A2', W2', B2''⟩)
    have hpos : 0 < (fs.map V.str).length := by
     cases fs with
     | nil => exact absurd hne (by decide)
     | cons _ _ => exact Nat.succ_pos _
    have hfew : (fs.map V.str).length <= 15 := by rw [List.length_map]; exact hfl
    refine ⟨_, rfl, rfl, _, rfl, Z14 (fun _ => Z34 ?_) (fun _ => ⟨_, rfl, d, .bl sb2, rfl, Zdz hd2, _, rfl, ?_⟩)⟩
    ·refine ⟨_, rfl, _, rfl, _, rfl, so, fs.map V.str, rfl, .inl (SqL.of S3'), d, l, ns, n2, _, rfl, F2', by omega, (by show (0 : Int) < ((fs.map V.str).length : Int); omega), (by show ((fs.map V.str).length : Int) < 18446744073709551616; omega), fun r n3 H3 r0 r1 hn3 F3 B3 => ?_⟩
     obtain ⟨v3, hv3, hat3⟩ := Z9k (xs := fs.map V.str) (i := r) r0 r1
     obtain ⟨t3, ht3, rfl⟩ := List.mem_map.mp hv3
     have h3 := hfa t3 ht3
     have h4 := Z77 t3 h3.1
     exact ⟨so, fs.map V.str, r, .str t3, rfl, rfl, SqL.of (F2'.lst B3 S3'), hat3, k t3 n3 H3 ⟨⟨h4.1.1.1, by omega⟩, h4.1.2⟩ h3.2 h4.2 (by omega) F3 (B2''.trans B3)⟩
    ·refine Z14 (fun _ => ?_) (fun _ => ⟨rfl, F2', A2', W2', B2''⟩)
     refine ⟨_, rfl, _, rfl, _, rfl, so, fs.map V.str, rfl, .inl (SqL.of S3'), d, l, ns, n2, _, rfl, F2', by omega, (by show (0 : Int) < ((fs.map V.str).length : Int); omega), (by show ((fs.map V.str).length : Int) < 18446744073709551616; omega), fun r n3 H3 r0 r1 hn3 F3 B3 => ?_⟩
     obtain ⟨v3, hv3, hat3⟩ := Z9k (xs := fs.map V.str) (i := r) r0 r1
     obtain ⟨t3, ht3, rfl⟩ := List.mem_map.mp hv3
     have h3 := hfa t3 ht3
     have h4 := Z77 t3 h3.1
     exact ⟨so, fs.map V.str, r, .str t3, rfl, rfl, SqL.of (F2'.lst B3 S3'), hat3, k t3 n3 H3 ⟨⟨h4.1.1.1, by omega⟩, h4.1.2⟩ h3.2 h4.2 (by omega) F3 (B2''.trans B3)⟩
   clear F2 A2 W2 S3 B2' B2 F1 A1 W1 B1 S2 sq
   rintro σ2 H2' ⟨rfl, F2, A2, W2, B2'⟩
   refine ⟨_, rfl, d, l, ns, n2, _, rfl, F2, by omega, by decide, by decide, fun lg n3 H3 lg0 lg1 hn3 F3 B3 => ?_⟩
   have A3 := F2.lst B3 A2
   have W3 := F2.lst B3 W2
   have B3' := B2'.trans B3
   refine ⟨_, _, rfl, rfl, ?_⟩
   refine ⟨_, rfl, d, l, ns, n3, _, rfl, F3, by omega, by decide, by decide, fun r4 n4 H4 r40 r41 hn4 F4 B4 => ?_⟩
   have A4 := F3.lst B4 A3
   have W4 := F3.lst B4 W3
   have B4' := B3'.trans B4
   refine ⟨_, _, rfl, rfl, .inr ⟨by decide, by decide⟩, ?_⟩
   refine ⟨_, rfl, d, l, ns, n4, _, rfl, F4, by omega, by decide, by decide, fun r5 n5 H5 r50 r51 hn5 F5 B5 => ?_⟩
   have A5 := F4.lst B5 A4
   have W5 := F4.lst B5 W4
   have B5' := B4'.trans B5
   refine ⟨_, _, rfl, rfl, ?_⟩
   have hx0 : 0 <= r4 * 456976 + r5 := by omega
   refine ⟨_, rfl, _, rfl, r4 * 456976 + r5, 1 + lg, rfl, by omega, by omega, fun t5 ht5 => ?_⟩
   obtain ⟨⟨hl5, hw5⟩, hf5⟩ := ht5
   have hm0 : 1 <= 1 + lg := by omega
   have hm1 : 1 + lg <= 8 := by omega
   refine ⟨Mid d l a wd ns n 6 ts H so way (1 + lg) (r4 * 456976 + r5), ?_, ?_⟩
   ·refine ⟨_, rfl, rfl, _, rfl, Z14 (fun _ => ?_) (fun _ => ?_)⟩
    ·refine ⟨_, rfl, _, rfl, d, l, ns, n5, _, rfl, F5, by omega, by decide, by decide, fun r6 n6 H6 r60 r61 hn6 F6 B6 => ?_⟩
     obtain ⟨z5, sb5, hd5⟩ := F5.dc
     have A6 := B6.lst hd5 A5
     have W6 := B6.lst hd5 W5
     obtain ⟨v6, hv6, hat6⟩ := Z9k (xs := wordsT.map V.str) (i := r6) r60 (Int.lt_of_lt_of_le r61 (by decide +kernel))
     obtain ⟨t6, ht6, rfl⟩ := List.mem_map.mp hv6
     have h6 := Zgb t6 ht6
     obtain ⟨c6, hc6⟩ := Zbf (t := t5) (by omega)
     refine ⟨wd, wordsT.map V.str, r6, .str t6, rfl, rfl, SqL.of W6, hat6, ?_⟩
     refine ⟨_, rfl, t5, 0, c6, rfl, rfl, Z59 (by omega), hc6, ?_⟩
     refine ⟨t6, ⟨#[c6]⟩, rfl, rfl, (by show t6.length + 1 <= sizeLine; omega), ?_⟩
     exact ⟨_, n6, none, none, rfl, ⟨⟨by rw [Z58]; show 1 <= t6.length + 1; omega, by rw [Z58]; show t6.length + 1 <= 8; omega⟩, Z69 h6.2 (Z9y (Zhr hw5 hc6))⟩, by omega, F6, A6, W6, B5'.trans B6⟩
    ·exact ⟨t5, n5, none, none, rfl, ⟨⟨by omega, by omega⟩, hw5⟩, by omega, F5, A5, W5, B5'⟩
   generalize r4 * 456976 + r5 = x at hx0 ⊢
   generalize 1 + lg = m at hm0 hm1 ⊢
   rintro σ7 H7 ⟨t7, n7, o77, o78, rfl, ht7, hn7, F7, A7, W7, B7⟩
   obtain ⟨z7, sb7, hd7⟩ := F7.dc
   refine ⟨Mid d l a wd ns n 7 ts H so way m x, ?_, ?_⟩
   ·refine ⟨_, rfl, rfl, _, rfl, Z14 (fun _ => ?_) (fun _ => Z4w ⟨t7, n7, o77, o78, rfl, ht7, by omega, F7, A7, W7, B7⟩)⟩
    refine ⟨_, rfl, Nat.zero_le _, fun e he => ⟨a, e, ts.map V.str, [], rfl, rfl, SqL.of (Z01 he _ _ A7), SqL.of Z00, Z1l ts, rfl, _, rfl, ?_⟩⟩
    have se := Z01 (o := .lst []) he
    have F7' := F7.same se
    have A7' := se _ _ A7
    have W7' := se _ _ W7
    have B7' := B7.trans (But.of (d := d) se)
    obtain ⟨z7', sb7', hd7'⟩ := F7'.dc
    generalize upd H7 e (.lst []) = H7e at F7' A7' W7' B7' hd7' ⊢
    refine Z14 (fun hne => ?_) (fun _ => ⟨t7, n7, o77, o78, rfl, ht7, by omega, F7', A7', W7', B7'⟩)
    have hpos : 0 < (ts.map V.str).length := by
     cases ts with
     | nil => exact absurd hne (by decide)
     | cons _ _ => exact Nat.succ_pos _
    have hfew : (ts.map V.str).length <= 40 := by rw [List.length_map]; exact hts
    refine ⟨_, rfl, _, rfl, d, l, a, ns, n7, ts.map V.str, rfl, F7', by omega, A7', hpos, by omega, fun v8 n8 H8 hv8 hn8 F8 B8 => ?_⟩
    have A8 := B8.lst hd7' A7'
    have W8 := B8.lst hd7' W7'
    obtain ⟨t8, ht8, rfl⟩ := List.mem_map.mp hv8
    have h8 := hall t8 ht8
    refine ⟨_, rfl, t8, t7, rfl, rfl, (by omega), ?_⟩
    have hlen : (t8 ++ t7).length = t8.length + t7.length := Z58 _ _
    refine ⟨_, rfl, _, _, rfl, rfl, (by show (0 : Int) < 8; decide), _, _, rfl, rfl, _, rfl, _, rfl, Z59 (by omega), ?_⟩
    have hj : 1 <= 1 + x % 8 := by omega
    have hj2 : 1 + x % 8 <= 8 := by omega
    have q1 := Zig (x := t8 ++ t7) (j := 1 + x % 8) (by omega) hj
    have q2 := Zh9 (x := t8 ++ t7) (j := 1 + x % 8) (by omega)
    exact ⟨_, n8, o77, o78, rfl, ⟨⟨q1, by omega⟩, Z6a (Z69 h8.2 ht7.2)⟩, by omega, F8, A8, W8, B7'.trans B8⟩
   rintro σ8 H8 ⟨t8, n8, o87, o88, rfl, ht8, hn8, F8, A8, W8, B8⟩
   obtain ⟨z8, sb8, hd8⟩ := F8.dc
   refine ⟨Mid d l a wd ns n 8 ts H so way m x, ?_, ?_⟩
   ·refine ⟨_, rfl, rfl, _, rfl, Z14 (fun _ => ?_) (fun _ => Z4w ⟨t8, n8, o87, o88, rfl, ht8, by omega, F8, A8, W8, B8⟩)⟩
    refine ⟨_, rfl, Nat.zero_le _, fun e he => ⟨a, e, ts.map V.str, [], rfl, rfl, SqL.of (Z01 he _ _ A8), SqL.of Z00, Z1l ts, rfl, _, rfl, ?_⟩⟩
    have se := Z01 (o := .lst []) he
    have F8' := F8.same se
    have A8' := se _ _ A8
    have W8' := se _ _ W8
    have B8' := B8.trans (But.of (d := d) se)
    obtain ⟨z8', sb8', hd8'⟩ := F8'.dc
    generalize upd H8 e (.lst []) = H8e at F8' A8' W8' B8' hd8' ⊢
    refine Z14 (fun hne => ?_) (fun _ => ⟨t8, n8, o87, o88, rfl, ht8, by omega, F8', A8', W8', B8'⟩)
    have hpos : 0 < (ts.map V.str).length := by
     cases ts with
     | nil => exact absurd hne (by decide)
     | cons _ _ => exact Nat.succ_pos _
    have hfew : (ts.map V.str).length <= 40 := by rw [List.length_map]; exact hts
    refine ⟨_, rfl, _, rfl, d, l, a, ns, n8, ts.map V.str, rfl, F8', by omega, A8', hpos, by omega, fun v9 n9 H9 hv9 hn9 F9 B9 => ?_⟩
    have A9 := B9.lst hd8' A8'
    have W9 := B9.lst hd8' W8'
    obtain ⟨t9, ht9, rfl⟩ := List.mem_map.mp hv9
    have h9 := hall t9 ht9
    refine ⟨_, rfl, _, rfl, t9, rfl, Z59 (by omega), _, _, rfl, rfl, (by show (0 : Int) < (t9.length : Int); omega), ?_⟩
    have at0 : 0 <= x % (t9.length : Int) := Int.emod_nonneg _ (by omega)
    have at1 : x % (t9.length : Int) < t9.length := Int.emod_lt_of_pos _ (by omega)
    obtain ⟨c9, hc9⟩ := Zbf (t := t8) ht8.1.1
    have q1 := Zh9 (x := t9) (j := x % (t9.length : Int)) at0
    have q2 := Zf9 (x := t9) (i := x % (t9.length : Int) + 1) (by omega) (by omega)
    refine ⟨_, rfl, _, rfl, _, rfl, t9, rfl, Z59 (by omega), _, rfl, t8, 0, c9, rfl, rfl, Z59 (by omega), hc9, _, ⟨#[c9]⟩, rfl, rfl, (by show _ + 1 <= sizeLine; omega), ?_⟩
    have hlen : (Txt.slice t9 none (some (x % (t9.length : Int))) ++ (⟨#[c9]⟩ : Str)).length = (Txt.slice t9 none (some (x % (t9.length : Int)))).length + 1 := Z58 _ _
    refine ⟨_, rfl, _, rfl, _, _, rfl, rfl, _, rfl, t9, rfl, Z59 (by omega), _, _, rfl, rfl, (by omega), ?_⟩
    exact ⟨_, n9, _, _, rfl, ⟨⟨by rw [Z58]; omega, by rw [Z58]; omega⟩, Z69 (Z69 (Z6a h9.2) (Z9y (Zhr ht8.2 hc9))) (Z6a h9.2)⟩, by omega, F9, A9, W9, B8'.trans B9⟩
   rintro σ9 H9 ⟨t9, n9, o97, o98, rfl, ht9, hn9, F9, A9, W9, B9⟩
   have hex : (ts ++ wordsT).length <= 53 := by
    rw [List.length_append]
    have : wordsT.length = 13 := by decide +kernel
    omega
   refine Zf1 (fun σ H' => ∃ (i : Nat) (R : List Str) (t : Str), σ = [some (.ref d), some (.ref a), some (.ref wd), some (.ref so), some (.int way), some (.int (mi m i)), some (.int (x + i)), some (.str t), o97, o98] /\ Nm t /\ Left x m (ts ++ wordsT) R i /\ (0 < i -> Z5j x m t i) /\ H' = H9)
    (fun (σ : St) (_ : Hp) => match σ[6]? with | some (some (V.int z)) => (x + 100 - z).toNat | _ => 0) ⟨0, _, t9, ?_, ht9, Left.zero hex, fun z => absurd z (Nat.lt_irrefl _), rfl⟩ ?_ ?_
   ·have e1 : mi m 0 = m := by unfold mi; omega
    have e2 : x + ((0 : Nat) : Int) = x := by omega
    rw [e1, e2]
   ·rintro σ H' ⟨i, R, t, rfl, ht, hL, hK, rfl⟩
    have hi : i <= 54 := by have := hL.few; omega
    have e1 : mi m i % 8 + 1 = mi m (i + 1) := by unfold mi; omega
    have e2 : x + (i : Int) + 1 = x + ((i + 1 : Nat) : Int) := by omega
    have e3 : 1 <= mi m (i + 1) /\ mi m (i + 1) <= 8 := by unfold mi; omega
    have body : t ∈ ts ++ wordsT -> ∀ t' : Str, Ze2 t' (x + ((i + 1 : Nat) : Int)) (mi m (i + 1)) →
      ∃ R', Nm t' /\ Left x m (ts ++ wordsT) R' (i + 1) /\ (0 < i + 1 -> Z5j x m t' (i + 1)) := by
     intro hin t' ht'
     have hk : Z5j x m t' (i + 1) := ⟨ht'.1.1, ht'.2 (by omega)⟩
     have hl := ht'.1.1
     by_cases hz : i = 0
     ·subst hz
      exact ⟨_, ⟨⟨by omega, by omega⟩, ht'.1.2⟩, Left.one (R := R) hex, fun _ => hk⟩
     ·exact ⟨_, ⟨⟨by omega, by omega⟩, ht'.1.2⟩, hL.next hin (hK (by omega)), fun _ => hk⟩
    refine ⟨_, rfl, _, rfl, a, ts.map V.str, rfl, .inl (SqL.of A9), rfl, Z1l ts, _, rfl, Z14 (fun g => Z34 ?_) (fun g => ?_)⟩
    ·refine ⟨_, rfl, _, _, rfl, rfl, _, rfl, _, _, rfl, rfl, (by show (0 : Int) < 8; decide), _, _, rfl, rfl, _, rfl, _, rfl, _, _, rfl, (by rw [e1]; omega), (by rw [e1]; omega), fun t' ht' => ?_⟩
     rw [e1, e2] at ht'
     obtain ⟨R', q1, q2, q3⟩ := body (List.mem_append.mpr (.inl ((Z1n t ts).mp g))) t' ht'
     refine ⟨⟨i + 1, R', t', ?_, q1, q2, q3, rfl⟩, ?_⟩
     ·show [some (.ref d), some (.ref a), some (.ref wd), some (.ref so), some (.int way), some (.int (mi m i % 8 + 1)), some (.int (x + i + 1)), some (.str t'), o97, o98] = _
      rw [e1, e2]
     ·show (x + 100 - (x + i + 1)).toNat < (x + 100 - (x + i)).toNat
      omega
    ·refine ⟨_, rfl, _, rfl, wd, wordsT.map V.str, rfl, .inl (SqL.of W9), rfl, Z1l wordsT, _, rfl, Z14 (fun g2 => ?_) (fun g2 => ?_)⟩
     ·refine ⟨_, rfl, _, _, rfl, rfl, _, rfl, _, _, rfl, rfl, (by show (0 : Int) < 8; decide), _, _, rfl, rfl, _, rfl, _, rfl, _, _, rfl, (by rw [e1]; omega), (by rw [e1]; omega), fun t' ht' => ?_⟩
      rw [e1, e2] at ht'
      obtain ⟨R', q1, q2, q3⟩ := body (List.mem_append.mpr (.inr ((Z1n t wordsT).mp g2))) t' ht'
      refine ⟨⟨i + 1, R', t', ?_, q1, q2, q3, rfl⟩, ?_⟩
      ·show [some (.ref d), some (.ref a), some (.ref wd), some (.ref so), some (.int way), some (.int (mi m i % 8 + 1)), some (.int (x + i + 1)), some (.str t'), o97, o98] = _
       rw [e1, e2]
      ·show (x + 100 - (x + i + 1)).toNat < (x + 100 - (x + i)).toNat
       omega
     ·exact ⟨_, rfl, k t n9 _ ht (fun z => g ((Z1n t ts).mpr z)) (fun z => g2 ((Z1n t wordsT).mpr z)) hn9 F9 B9⟩
   ·rintro σ H' Q1 Q2 hq ⟨v, f1, w1, f2, p, xs, f3, f4, f5, f6, c, f7, q⟩
    refine ⟨v, f1, w1, f2, p, xs, f3, f4, f5, f6, c, f7, ?_⟩
    cases c with
    | true => exact Z34 (hq _ _ (by simpa using q))
    | false =>
     refine Z4w ?_
     simp only [Bool.false_eq_true, if_false] at q
     obtain ⟨v, f1, w1, f2, p, xs, f3, f4, f5, f6, c, f7, q⟩ := q
     exact ⟨v, f1, w1, f2, p, xs, f3, f4, f5, f6, c, f7, hq _ _ q⟩
end
def NmW (t : Str) : Prop := Nm t /\ t ∉ wordsT
def spNames : Sp := fun vs H Q _ => ∃ (d l : Addr) (ns : List Int) (n m : Nat), vs = [.ref d, .int m] /\ Feed H d l ns n /\ n <= 700000000000 /\ m <= 30 ∧
 ∀ (nm : Addr) (ts : List Str) n' H', H' nm = some (.lst (ts.map V.str)) -> ts.length = m -> (∀ t ∈ ts, NmW t) -> n' <= n + 8 * m -> Feed H' d l ns n' -> H nm = none -> But d H H' -> Q (.ref nm) H'
def Z0s (nm lt cl : Addr) (r : Int) : List (Key × V) := [(Sum.inr "names", .ref nm), (Sum.inr "lets", .ref lt), (Sum.inr "calls", .ref cl), (Sum.inr "room", .int r)]
theorem Ze4 (nm lt cl : Addr) (r : Int) : Z2h (Z0s nm lt cl r) (Sum.inr "names") = some (.ref nm) := by with_unfolding_all rfl
theorem Zgc (nm lt cl : Addr) (r : Int) : Z2h (Z0s nm lt cl r) (Sum.inr "lets") = some (.ref lt) := by with_unfolding_all rfl
theorem Ze5 (nm lt cl : Addr) (r : Int) : Z2h (Z0s nm lt cl r) (Sum.inr "calls") = some (.ref cl) := by with_unfolding_all rfl
theorem Zgd (nm lt cl : Addr) (r : Int) : Z2h (Z0s nm lt cl r) (Sum.inr "room") = some (.int r) := by with_unfolding_all rfl
theorem Ze6 (nm lt cl : Addr) (r q : Int) : Z5b (Z0s nm lt cl r) (Sum.inr "room") (.int q) = Z0s nm lt cl q := by with_unfolding_all rfl
section
variable {H : Hp} {wd nm lt cl : Addr} {r q : Int}
theorem Z30 (h : H wd = some (.dK (Z0s nm lt cl r))) : DGet H wd (.str "names") (some (.ref nm)) := by
 have := DGet.k (k := Sum.inr "names") h; rw [Ze4] at this; exact this
theorem Z93 (h : H wd = some (.dK (Z0s nm lt cl r))) : DGet H wd (.str "lets") (some (.ref lt)) := by
 have := DGet.k (k := Sum.inr "lets") h; rw [Zgc] at this; exact this
theorem Z78 (h : H wd = some (.dK (Z0s nm lt cl r))) : DGet H wd (.str "calls") (some (.ref cl)) := by
 have := DGet.k (k := Sum.inr "calls") h; rw [Ze5] at this; exact this
theorem Z94 (h : H wd = some (.dK (Z0s nm lt cl r))) : DGet H wd (.str "room") (some (.int r)) := by
 have := DGet.k (k := Sum.inr "room") h; rw [Zgd] at this; exact this
theorem Ze7 (h : H wd = some (.dK (Z0s nm lt cl r))) : DPut H wd (.str "room") (.int q) (upd H wd (.dK (Z0s nm lt cl q))) := by
 have := DPut.k (k := Sum.inr "room") (v := .int q) h (by show 4 < sizeLine; decide); rw [Ze6] at this; exact this
end
structure Nms (H : Hp) (nm lt cl : Addr) (T1 T2 T3 : List Str) : Prop where
 a : H nm = some (.lst (T1.map V.str))
 b : H lt = some (.lst (T2.map V.str))
 c : H cl = some (.lst (T3.map V.str))
 a1 : 1 <= T1.length
 a2 : T1.length <= 10
 b2 : T2.length <= 10
 c1 : 1 <= T3.length
 c2 : T3.length <= 10
 an : ∀ t ∈ T1, NmW t
 bn : ∀ t ∈ T2, NmW t
 cn : ∀ t ∈ T3, NmW t
theorem Nms.kp {H H' : Hp} {nm lt cl : Addr} {T1 T2 T3 : List Str} (h : Nms H nm lt cl T1 T2 T3) (k : Kp H H') : Nms H' nm lt cl T1 T2 T3 :=
 ⟨k _ _ h.a (fun _ z => by cases z), k _ _ h.b (fun _ z => by cases z), k _ _ h.c (fun _ z => by cases z), h.a1, h.a2, h.b2, h.c1, h.c2, h.an, h.bn, h.cn⟩
theorem Z26 {H : Hp} {d wd l nm lt cl : Addr} {ns : List Int} {n : Nat} {r : Int} (F : Feed H d l ns n) (W : H wd = some (.dK (Z0s nm lt cl r))) : wd ≠ d := by
 obtain ⟨⟨z, sb, hd⟩, _, _⟩ := F
 refine Z4r W hd (fun q => ?_)
 injection q with q
 have := congrArg (fun l : List (Key × V) => l.map (·.1)) q
 have h0 := congrArg List.head? this
 simp only [Z0s, Z0v, List.map_cons, List.head?_cons] at h0
 have h1 := Option.some.inj h0
 injection h1 with h1
 exact absurd h1 (by decide +kernel)
theorem Z4p {t : Str} (h : Nm t) : Z3e (.str t) = true := by
 show decide (t.length <= 1000) = true
 exact decide_eq_true (by have := h.1.2; omega)
theorem Z38 {w : Str} {k : Wd} {f : Th -> Bool} {lo hi : Nat} {v : V} {ks : List Th} (hk : kindOf w = some k) (hr : rule nameB signB k = (some f, lo, hi)) (hf : f (.at v) = true) (h1 : lo <= ks.length) (h2 : ks.length <= hi) (nk : ∀ x ∈ ks, L2.isTup x = true) : Z24 (nd w [v] ks) = true := by
 unfold nd
 show Z3t nameB signB (.tup (.at (.str w) :: (.at v :: ks))) = true
 rw [Z3t, hk]
 dsimp only
 rw [hr, Zdi, hf, decide_eq_true h1, decide_eq_true h2, List.all_eq_true.mpr nk]
 rfl
theorem Z6b {w : Str} {k : Wd} {lo hi : Nat} {ks : List Th} (hk : kindOf w = some k) (hr : rule nameB signB k = (none, lo, hi)) (h1 : lo <= ks.length) (h2 : ks.length <= hi) (nk : ∀ x ∈ ks, L2.isTup x = true) : Z24 (nd w [] ks) = true := by
 unfold nd
 show Z3t nameB signB (.tup (.at (.str w) :: ks)) = true
 rw [Z3t, hk]
 dsimp only
 rw [hr, Zdi, decide_eq_true h1, decide_eq_true h2, List.all_eq_true.mpr nk]
 rfl
theorem Z3x {w : Str} {hd : List V} {ks : List Th} {bs : List Str} (h : w ≠ "set") : hit bs (nd w hd ks) = false := by
 unfold hit
 rw [show Z7s (nd w hd ks) = false from decide_eq_false (p := w = "set") h, Bool.false_and]
theorem Z42 {w : Str} {hd : List V} {ks : List Th} {bs : List Str} (hn : Z24 (nd w hd ks) = true) (hw : w ≠ "let") (hh : hit bs (nd w hd ks) = false) (nk : ∀ x ∈ ks, L2.isTup x = true) (hk : ∀ x ∈ ks, exB bs x = true) : exB bs (nd w hd ks) = true := by
 have e : S8 w (hd.map Th.at ++ ks) = ks := by
  rw [<- (Z57 (show Z24 (.tup (.at (.str w) :: (hd.map Th.at ++ ks))) = true from hn)).1]
  have := Z36 (w := w) (hd := hd) nk
  rw [Z1c] at this
  exact this
 have e2 := Zbb (bs := bs) (show Z24 (.tup (.at (.str w) :: (hd.map Th.at ++ ks))) = true from hn) hw
 rw [show hit bs (.tup (.at (.str w) :: (hd.map Th.at ++ ks))) = false from hh, e, List.all_eq_true.mpr hk] at e2
 exact e2
theorem Z6c {t : Str} (h : NmW t) : Z13 t = true := by
 obtain ⟨⟨⟨t1, t2⟩, t3⟩, hw⟩ := h
 have e1 : inV (.str t) wordsV = false := by
  cases z : inV (.str t) wordsV with
  | false => rfl
  | true =>
   have ew : wordsV = wordsT.map V.str := by decide +kernel
   rw [ew] at z
   exact absurd ((Z1n t wordsT).mp z) hw
 have e2 : t.cps.toList.all az = true := by
  rw [List.all_eq_true]
  intro c hc
  have := t3 c hc
  unfold az
  rw [Bool.and_eq_true, decide_eq_true_iff, decide_eq_true_iff]
  exact this
 unfold Z13
 rw [e1, e2, decide_eq_true t1, decide_eq_true t2]
 rfl
theorem Z5d {x : Th} (h : x ∈ ([] : List Th)) : L2.isTup x = true := by cases h
theorem Zjb (bs : List Str) : exB bs (.tup [.at (.str "take")]) = true := Z42 (w := "take") (hd := []) (ks := []) (Z6b (k := .take) (by decide +kernel) rfl (Nat.le_refl _) (Nat.le_refl _) fun _ => Z5d) (by decide +kernel) (Z3x (by decide +kernel)) (fun _ => Z5d) (fun x hx => by cases hx)
theorem Zlh {i : Int} (h0 : 0 <= i) (h1 : i <= 999999999) (bs : List Str) : exB bs (.tup [.at (.str "num"), .at (.int i)]) = true :=
 Z42 (w := "num") (hd := [.int i]) (ks := []) (Z38 (k := .num) (by decide +kernel) rfl (by show (decide (0 <= i) && decide (i <= 999999999)) = true; rw [decide_eq_true h0, decide_eq_true h1]; rfl) (Nat.le_refl _) (Nat.le_refl _) fun _ => Z5d) (by decide +kernel) (Z3x (by decide +kernel)) (fun _ => Z5d) (fun x hx => by cases hx)
theorem Zge {t : Str} (h : NmW t) (bs : List Str) : exB bs (.tup [.at (.str "call"), .at (.str t)]) = true :=
 Z42 (w := "call") (hd := [.str t]) (ks := []) (Z38 (k := .call) (by decide +kernel) rfl (Z6c h) (Nat.zero_le _) (Nat.zero_le _) fun _ => Z5d) (by decide +kernel) (Z3x (by decide +kernel)) (fun _ => Z5d) (fun x hx => by cases hx)
theorem Zjc {t : Str} (h : NmW t) (bs : List Str) : exB bs (.tup [.at (.str "name"), .at (.str t)]) = true :=
 Z42 (w := "name") (hd := [.str t]) (ks := []) (Z38 (k := .name) (by decide +kernel) rfl (Z6c h) (Nat.le_refl _) (Nat.le_refl _) fun _ => Z5d) (by decide +kernel) (Z3x (by decide +kernel)) (fun _ => Z5d) (fun x hx => by cases hx)
def Zgf (t : Th) : Prop := OkT 1 t /\ (∀ bs, exB bs t = true) /\ Th.sz t <= 3
theorem Znc {w : Str} (hw : ∀ bs, exB bs (.tup [.at (.str w)]) = true) (hn : w ≠ "let") : Zgf (.tup [.at (.str w)]) :=
 ⟨⟨w, [], rfl, fun z => absurd z hn, fun x hx => by cases hx⟩, hw, by simp [Th.sz, szs]⟩
theorem Zjd {w : Str} {v : V} (hw : ∀ bs, exB bs (.tup [.at (.str w), .at v]) = true) (hn : w ≠ "let") : Zgf (.tup [.at (.str w), .at v]) := by
 refine ⟨⟨w, [.at v], rfl, fun z => absurd z hn, fun x hx h => ?_⟩, hw, by simp [Th.sz, szs]⟩
 rw [List.mem_singleton] at hx
 subst hx
 cases h
def spLeaf : Sp := fun vs H Q _ => ∃ (d l wd nm lt cl bd : Addr) (ns : List Int) (n : Nat) (r : Int) (T1 T2 T3 bs : List Str), vs = [.ref d, .ref wd, .ref bd] /\ Feed H d l ns n /\ n <= 700000000000 /\ H wd = some (.dK (Z0s nm lt cl r)) /\ Nms H nm lt cl T1 T2 T3 ∧
 H bd = some (.lst (bs.map V.str)) /\ bs.length <= 100 /\ (∀ t ∈ bs, NmW t) ∧
 ∀ (v : V) (t : Th) n' H', IsTh H' v t -> Zgf t -> n' <= n + 4 -> Feed H' d l ns n' -> But d H H' -> Q v H'
section
variable {P : Program} {w : World} {K : PySem.W.Frag} {mg : Str -> Option Value} {base : Heap}
theorem scNames : FnScope ["_law_feed_here", "_law_many", "_law_names_here", "_law_k"] ["_law_feed_here", "_law_many"] (Z03 Z8q) := ⟨rfl, rfl, rfl, by decide +kernel, rfl, by decide +kernel, by decide +kernel⟩
theorem Zgg {f fN fD fS fO fW : Addr} {fd dN dD dS dO dW : FuncData} (F : Fun K "_law_names" "_law_names" Z8q f fd) (U : Dr K mg fD fS fO fW dD dS dO dW) (FN : Fun K "_law_name" "_law_name" Z2m fN dN) (bN : Binds K dN ["_law_feed_here", "_law_taken"] []) (mN : mg "_law_name" = some (.ref fN)) :
  FnOk P w K mg base CX0 4 f fd ["_law_feed_here", "_law_many"] spNames := by
 have GN : FnOk P w K mg base CX0 3 fN dN ["_law_feed_here", "_law_taken"] spLawName := Zbg FN U
 refine F.ok scNames (fun vs H Q E h => ?_) (fun cdv A outer s H vs Q E hr h => ?_)
 ·obtain ⟨d, l, ns, n, m, rfl, _⟩ := h
  rfl
 ·obtain ⟨d, l, ns, n, m, rfl, F0, hn, hm, k⟩ := h
  have hsz : sizeLine = 16777216 := sizeLine_eq
  have hr3 : Room 3 _ := hr.mono (by decide)
  refine' ⟨?tt, ?body, ?fin⟩
  case body =>
   refine' Z04 ?s1 (Z04 ?s2 (Z06 ?s3))
   case s1 => exact Z0c (i := 2) scNames.nd rfl (Or.inl rfl) (Z0y Z02)
   case s2 =>
    refine' Z44 PassesOwn.never rfl (Z19 (by rfl) U.T.range (Z0j (pv 1) Z02)) (Z0o (i := 3) scNames.nd rfl (Or.inl rfl)) (Z06 ?b)
    case b => exact Z31 (Z7j PySem.F.plainAttrs_list PySem.F.slot_list_append PySem.F.type_list_append Z2d (pv 2) (Z6h (Z07 GN hr3 (by rfl) mN FN.kp bN .nil Z0f (Z0j (pv 0) (Z0j (pv 2) Z02))) Z02))
   case s3 => exact Z0d (pv 2)
  case fin =>
   refine ⟨Nat.zero_le _, fun nm hnm => ?_⟩
   have s0 := Z01 (o := .lst []) hnm
   refine ⟨_, rfl, (m : Int), rfl, by omega, by omega, Z2s (lo := 0) (n := ((m : Int)).toNat) (fun i σ H' => ∃ (ts : List Str) (n' : Nat) (o : Option V), σ = [some (.ref d), some (.int m), some (.ref nm), o] /\ H' nm = some (.lst (ts.map V.str)) /\ ts.length = i /\ (∀ t ∈ ts, NmW t) /\ n' <= n + 8 * i /\ Feed H' d l ns n' /\ But d H H')
    ⟨[], n, none, rfl, Z00, rfl, (fun t ht => by cases ht), by omega, F0.same s0, But.of s0⟩ ?_ ?_⟩
   ·rintro i σ H1 hi ⟨ts, n1, o, rfl, L1, hl, hall, hn1, F1, B1⟩
    refine ⟨_, rfl, .inl ⟨rfl, _, SqL.of L1⟩, _, rfl, _, rfl, d, l, nm, ns, n1, ts, rfl, F1, by omega, L1, by omega, (fun t ht => (hall t ht).1), fun t n2 H2 ht _ hw hn2 F2 B2 => ?_⟩
    have L2 := F1.lst B2 L1
    refine ⟨nm, ts.map V.str, .str t, rfl, rfl, L2, by rw [List.length_map]; omega, ?_⟩
    refine ⟨ts ++ [t], n2, _, rfl, by rw [Z00, List.map_append]; rfl, by rw [List.length_append, hl]; rfl, fun u hu => ?_, by omega, ?_, ?_⟩
    ·rcases List.mem_append.mp hu with z | z
     ·exact hall u z
     ·rw [List.mem_singleton] at z; subst z; exact ⟨ht, hw⟩
    ·obtain ⟨⟨z, sb, hd⟩, hls, hz⟩ := id F2
     have hnd : nm ≠ d := Z4r L2 hd (by intro q; cases q)
     have hnl : nm ≠ l := fun q => by
      have h0 := F0.ls
      rw [<- q, hnm] at h0
      cases h0
     exact ⟨⟨z, sb, by rw [Z0a hnd.symm]; exact hd⟩, by rw [Z0a hnl.symm]; exact hls, hz⟩
    ·intro b ob e hb
     rw [Z0a (Z0h e hnm)]
     exact B2 b ob (B1 b ob e hb) hb
   ·rintro σ H1 ⟨ts, n1, o, rfl, L1, hl, hall, hn1, F1, B1⟩
    have em : ((m : Int)).toNat = m := Int.toNat_natCast m
    rw [em] at hl hn1
    exact ⟨_, rfl, k nm ts n1 H1 L1 hl hall hn1 F1 hnm B1⟩
theorem scLeaf : FnScope ["_law_feed_here", "_law_world_here", "_law_bound", "_law_way"] ["_law_feed_here", "_law_world_here", "_law_bound"] (Z03 Z9n) := ⟨rfl, rfl, rfl, by decide +kernel, rfl, by decide +kernel, by decide +kernel⟩
theorem Z9z {f fV fD fS fO fW : Addr} {fd dV dD dS dO dW : FuncData} (F : Fun K "_law_leaf" "_law_leaf" Z9n f fd) (U : Dr K mg fD fS fO fW dD dS dO dW) (FV : Fun K "_law_value" "_law_value" Z27 fV dV) (bV : Binds K dV ["_law_feed_here"] []) (mV : mg "_law_value" = some (.ref fV)) :
  FnOk P w K mg base CX0 3 f fd ["_law_feed_here", "_law_world_here", "_law_bound"] spLeaf := by
 have GD : FnOk P w K mg base CX0 1 fD dD ["_law_feed_here", "_law_many"] spDraw := Z37 U.D U.T
 have GO : FnOk P w K mg base CX0 2 fO dO ["_law_feed_here", "_law_some"] spOne := Z4n U.O U
 have GV : FnOk P w K mg base CX0 2 fV dV ["_law_feed_here"] spValue := Zga FV U
 refine F.ok scLeaf (fun vs H Q E h => ?_) (fun cdv A outer s H vs Q E hr h => ?_)
 ·obtain ⟨d, l, wd, nm, lt, cl, bd, ns, n, r, T1, T2, T3, bs, rfl, _⟩ := h
  rfl
 ·obtain ⟨d, l, wd, nm, lt, cl, bd, ns, n, r, T1, T2, T3, bs, rfl, F0, hn, W0, N0, B0, hbl, hbn, k⟩ := h
  have hsz : sizeLine = 16777216 := sizeLine_eq
  have hu := Z9j hr
  have hr1 : Room 1 _ := hr.mono (by decide)
  have hr2 : Room 2 _ := hr.mono (by decide)
  refine' ⟨?tt, ?body, ?fin⟩
  case body =>
   refine' Z04 ?s1 ?r1
   case s1 => exact Z0c (i := 3) scLeaf.nd rfl (Or.inl rfl) (Z07 GD hr1 (by rfl) U.mD U.D.kp U.bD .nil Z0f (Z0j (pv 0) (Z1y Z05 Z02)))
   case r1 =>
    refine' Z04 ?s2 ?r2
    case s2 => exact Z10 (Z0b Z1p (pv 3) Z05 (Z0k _)) (Z06 (Z0d (Z12 (Z1y Z09 Z02)))) Z0g
    case r2 =>
     refine' Z04 ?s3 ?r3
     case s3 => exact Z10 (Z0b Z1p (pv 3) Z05 (Z0k _)) (Z06 (Z0d (Z12 (Z1y Z09 (Z6h (Z07 GV hr2 (by rfl) mV FV.kp bV .nil Z0f (Z0j (pv 0) Z02)) Z02))))) Z0g
     case r3 =>
      refine' Z04 ?s4 ?r4
      case s4 => exact Z10 (Z0b Z1p (pv 3) Z05 (Z0k _)) (Z06 (Z0d (Z12 (Z1y Z09 (Z6h (Z07 GO hr2 (by rfl) U.mO U.O.kp U.bO .nil Z0f (Z0j (pv 0) (Z08 (Z17 hu (pv 1) Z09 (fun _ _ => rfl)) Z02))) Z02))))) Z0g
      case r4 =>
       refine' Z06 ?s5
       case s5 => exact Z0d (Z12 (Z1y Z09 (Z6h (Z07 GO hr2 (by rfl) U.mO U.O.kp U.bO .nil Z0f (Z0j (pv 0) (Z08 (Z0l Z2e (Z0l Z2e (Z17 hu (pv 1) Z09 (fun _ _ => rfl)) (pv 2)) (pv 2)) Z02))) Z02)))
  case fin =>
   have hne := Z26 F0 W0
   refine ⟨_, rfl, d, l, ns, n, _, rfl, F0, by omega, by decide, by decide, fun way n1 H1 w0 w1 hn1 F1 b1 => ?_⟩
   have W1 := b1 wd _ W0 hne
   have N1 := N0.kp (b1.kp F0)
   have B1 := F0.lst b1 B0
   refine ⟨_, rfl, rfl, _, rfl, Z14 (fun _ => ?_) (fun _ => ?_)⟩
   ·refine ⟨(by show 1 <= sizeLine; decide), fun p hp => ?_⟩
    exact k (.ref p) (.tup [.at (.str "take")]) n1 _ (.tup Z00 (.cons (.at (by decide +kernel)) .nil)) (Znc Zjb (by decide +kernel)) (by omega) (F1.same (Z01 hp)) (b1.trans (But.of (Z01 hp)))
   ·refine ⟨_, rfl, rfl, _, rfl, Z14 (fun _ => ?_) (fun _ => ?_)⟩
    ·refine ⟨_, rfl, d, l, ns, n1, rfl, F1, by omega, fun i n2 H2 i0 i1 hn2 F2 b2 => ⟨(by show 2 <= sizeLine; decide), fun p hp => ?_⟩⟩
     exact k (.ref p) (.tup [.at (.str "num"), .at (.int i)]) n2 _ (.tup Z00 (.cons (.at (by decide +kernel)) (.cons (.at rfl) .nil))) (Zjd (Zlh (by omega) (by omega)) (by decide +kernel)) (by omega) (F2.same (Z01 hp)) ((b1.trans b2).trans (But.of (Z01 hp)))
    ·refine ⟨_, rfl, rfl, _, rfl, Z14 (fun _ => ?_) (fun _ => ?_)⟩
     ·refine ⟨_, rfl, _, rfl, wd, .ref cl, rfl, Z78 W1, d, l, cl, ns, n1, T3.map V.str, rfl, F1, by omega, N1.c, by rw [List.length_map]; exact N1.c1, by rw [List.length_map]; have := N1.c2; omega, fun v n2 H2 hv hn2 F2 b2 => ⟨(by show 2 <= sizeLine; decide), fun p hp => ?_⟩⟩
      obtain ⟨x, hx, rfl⟩ := List.mem_map.mp hv
      have hN := N1.cn x hx
      exact k (.ref p) (.tup [.at (.str "call"), .at (.str x)]) n2 _ (.tup Z00 (.cons (.at (by decide +kernel)) (.cons (.at (Z4p hN.1)) .nil))) (Zjd (Zge hN) (by decide +kernel)) (by omega) (F2.same (Z01 hp)) ((b1.trans b2).trans (But.of (Z01 hp)))
     ·refine ⟨_, rfl, _, rfl, wd, .ref nm, rfl, Z30 W1, _, rfl, nm, bd, T1.map V.str, bs.map V.str, rfl, rfl, N1.a, B1, by rw [List.length_map, List.length_map]; have := N1.a2; omega, fun c1 hc1 => ?_⟩
      have sc1 := Z01 (o := .lst (T1.map V.str ++ bs.map V.str)) hc1
      refine ⟨_, rfl, c1, bd, T1.map V.str ++ bs.map V.str, bs.map V.str, rfl, rfl, Z00, sc1 _ _ B1, by rw [List.length_append, List.length_map, List.length_map]; have := N1.a2; omega, fun c2 hc2 => ?_⟩
      have sc2 := Z01 (o := .lst (T1.map V.str ++ bs.map V.str ++ bs.map V.str)) hc2
      refine ⟨d, l, c2, ns, n1, _, rfl, (F1.same sc1).same sc2, by omega, Z00, ?_, ?_, fun v n2 H2 hv hn2 F2 b2 => ⟨(by show 2 <= sizeLine; decide), fun p hp => ?_⟩⟩
      ·rw [List.length_append, List.length_append, List.length_map]; have := N1.a1; omega
      ·rw [List.length_append, List.length_append, List.length_map, List.length_map]; have := N1.a2; omega
      ·have hN : ∃ x, v = .str x /\ NmW x := by
        rcases List.mem_append.mp hv with z | z
        ·rcases List.mem_append.mp z with z | z
         ·obtain ⟨x, hx, rfl⟩ := List.mem_map.mp z; exact ⟨x, rfl, N1.an x hx⟩
         ·obtain ⟨x, hx, rfl⟩ := List.mem_map.mp z; exact ⟨x, rfl, hbn x hx⟩
        ·obtain ⟨x, hx, rfl⟩ := List.mem_map.mp z; exact ⟨x, rfl, hbn x hx⟩
       obtain ⟨x, rfl, hN⟩ := hN
       exact k (.ref p) (.tup [.at (.str "name"), .at (.str x)]) n2 _ (.tup Z00 (.cons (.at (by decide +kernel)) (.cons (.at (Z4p hN.1)) .nil))) (Zjd (Zjc hN) (by decide +kernel)) (by omega) (F2.same (Z01 hp)) ((b1.trans ((But.of (sc1.trans sc2)).trans b2)).trans (But.of (Z01 hp)))
end
def But2 (d e : Addr) (H H' : Hp) : Prop := ∀ b o, H b = some o -> b ≠ d -> b ≠ e -> H' b = some o
theorem But2.refl (d e : Addr) (H : Hp) : But2 d e H H := fun _ _ h _ _ => h
theorem But2.trans {d e : Addr} {H H1 H2 : Hp} (a : But2 d e H H1) (b : But2 d e H1 H2) : But2 d e H H2 := fun c o h n m => b c o (a c o h n m) n m
theorem But2.of {d e : Addr} {H H1 : Hp} (a : But d H H1) : But2 d e H H1 := fun c o h n _ => a c o h n
theorem But2.same {d e : Addr} {H H1 : Hp} (a : Same H H1) : But2 d e H H1 := fun c o h _ _ => a c o h
theorem But2.upd {d e : Addr} {H : Hp} {o : HO} : But2 d e H (upd H e o) := fun c u h _ n => by rw [Z0a n]; exact h
theorem But2.kp {d e l : Addr} {ns : List Int} {n : Nat} {kvs : List (Key × V)} {H H' : Hp} (b : But2 d e H H') (F : Feed H d l ns n) (W : H e = some (.dK kvs)) : Kp H H' := by
 obtain ⟨⟨z, sb, hd⟩, _, _⟩ := F
 intro a o h hk
 exact b a o h (fun q => by subst q; rw [hd] at h; cases h; exact hk _ rfl) (fun q => by subst q; rw [W] at h; cases h; exact hk _ rfl)
theorem Feed.world {H : Hp} {d wd l nm lt cl : Addr} {ns : List Int} {n : Nat} {r q : Int} (F : Feed H d l ns n) (W : H wd = some (.dK (Z0s nm lt cl r))) : Feed (L2.upd H wd (.dK (Z0s nm lt cl q))) d l ns n := by
 have hne := Z26 F W
 obtain ⟨⟨z, sb, hd⟩, hl, hs⟩ := F
 refine ⟨⟨z, sb, by rw [Z0a hne.symm]; exact hd⟩, ?_, hs⟩
 rw [Z0a (Z4r hl W (by intro q; cases q))]
 exact hl
def cD : Nat -> Nat
 | 0 => 0
 | N + 1 => 20 + 6 * cD N
def kinds10 : List Str := ["let", "let", "set", "say", "again", "pick", "op", "op", "do", "call"]
def Zgh : List (Str × V) := [("let", .int 2), ("set", .int 1), ("say", .int 1), ("again", .int 1), ("pick", .int 3), ("op", .int 2)]
def Zhs (N : Nat) : Sp := fun vs H Q _ => ∃ (d l wd nm lt cl bd : Addr) (ns : List Int) (n : Nat) (r b : Int) (T1 T2 T3 bs : List Str), vs = [.ref d, .ref wd, .ref bd, .int b] /\ 1 <= N /\ N <= 13 /\ b <= N /\ Feed H d l ns n /\ n + cD N <= 600000000000 ∧
 H wd = some (.dK (Z0s nm lt cl r)) /\ 0 <= r /\ r <= 1000 /\ Nms H nm lt cl T1 T2 T3 /\ H bd = some (.lst (bs.map V.str)) /\ bs.length + N <= 40 /\ (∀ t ∈ bs, NmW t) ∧
 ∀ (v : V) (t : Th) (n' : Nat) (r' : Int) H', IsTh H' v t -> OkT N t -> exB bs t = true -> (Th.sz t : Int) <= 8 * (1 + (r - r')) -> 0 <= r' -> r' <= r -> n' <= n + cD N -> Feed H' d l ns n' -> H' wd = some (.dK (Z0s nm lt cl r')) -> But2 d wd H H' -> Q v H'
structure Ctx (H H' : Hp) (d l wd nm lt cl bd : Addr) (ns : List Int) (n : Nat) (r : Int) (T1 T2 T3 bs : List Str) : Prop where
 F : Feed H' d l ns n
 W : H' wd = some (.dK (Z0s nm lt cl r))
 N : Nms H' nm lt cl T1 T2 T3
 B : H' bd = some (.lst (bs.map V.str))
 b2 : But2 d wd H H'
section
variable {H H1 H2 : Hp} {d l wd nm lt cl bd : Addr} {ns : List Int} {n n2 : Nat} {r r2 : Int} {T1 T2 T3 bs : List Str}
theorem Ctx.draw (C : Ctx H H1 d l wd nm lt cl bd ns n r T1 T2 T3 bs) (b : But d H1 H2) (F2 : Feed H2 d l ns n2) : Ctx H H2 d l wd nm lt cl bd ns n2 r T1 T2 T3 bs :=
 ⟨F2, b wd _ C.W (Z26 C.F C.W), C.N.kp (b.kp C.F), C.F.lst b C.B, C.b2.trans (But2.of b)⟩
theorem Ctx.same (C : Ctx H H1 d l wd nm lt cl bd ns n r T1 T2 T3 bs) (s : Same H1 H2) : Ctx H H2 d l wd nm lt cl bd ns n r T1 T2 T3 bs :=
 ⟨C.F.same s, s _ _ C.W, C.N.kp (Kp.of s), s _ _ C.B, C.b2.trans (But2.same s)⟩
theorem Ctx.go (C : Ctx H H1 d l wd nm lt cl bd ns n r T1 T2 T3 bs) (b : But2 d wd H1 H2) (F2 : Feed H2 d l ns n2) (W2 : H2 wd = some (.dK (Z0s nm lt cl r2))) : Ctx H H2 d l wd nm lt cl bd ns n2 r2 T1 T2 T3 bs :=
 ⟨F2, W2, C.N.kp (b.kp C.F C.W), b.kp C.F C.W _ _ C.B (fun _ z => by cases z), C.b2.trans b⟩
theorem Ctx.room (C : Ctx H H1 d l wd nm lt cl bd ns n r T1 T2 T3 bs) : Ctx H (upd H1 wd (.dK (Z0s nm lt cl r2))) d l wd nm lt cl bd ns n r2 T1 T2 T3 bs :=
 C.go But2.upd (C.F.world C.W) Z00
end
theorem Ctx.put {H H1 : Hp} {d l wd nm lt cl bd hd : Addr} {ns : List Int} {n : Nat} {r : Int} {T1 T2 T3 bs : List Str} {xs ys : List V} (C : Ctx H H1 d l wd nm lt cl bd ns n r T1 T2 T3 bs) (D : H1 hd = some (.lst xs)) (x2 : hd ≠ bd) (x3 : hd ≠ l) (x4 : hd ≠ nm) (x5 : hd ≠ lt) (x6 : hd ≠ cl) (x0 : H hd = none) :
  Ctx H (upd H1 hd (.lst ys)) d l wd nm lt cl bd ns n r T1 T2 T3 bs := by
 obtain ⟨⟨⟨z, sb, hd'⟩, hls, hz⟩, W, N, B, b2⟩ := C
 have h1 : hd ≠ d := Z4r D hd' (by intro q; cases q)
 have h2 : hd ≠ wd := Z4r D W (by intro q; cases q)
 refine ⟨⟨⟨z, sb, by rw [Z0a h1.symm]; exact hd'⟩, by rw [Z0a x3.symm]; exact hls, hz⟩, by rw [Z0a h2.symm]; exact W, ⟨by rw [Z0a x4.symm]; exact N.a, by rw [Z0a x5.symm]; exact N.b, by rw [Z0a x6.symm]; exact N.c, N.a1, N.a2, N.b2, N.c1, N.c2, N.an, N.bn, N.cn⟩, by rw [Z0a x2.symm]; exact B, fun c o e n1 n2 => ?_⟩
 rw [Z0a (Z0h e x0)]
 exact b2 c o e n1 n2
def mnL : List (Str × Int) := [("let", 2), ("set", 1), ("say", 1), ("again", 1), ("pick", 3), ("op", 2)]
def Zli (wo : Str) (mn : Int) : Prop := ∀ p ∈ mnL, wo = p.1 -> mn = p.2
theorem Z95 {wo : Str} {mn : Int} (h : (mnL.all fun p => !decide (wo = p.1) || decide (mn = p.2)) = true) : Zli wo mn := fun p hp e => by
 have := List.all_eq_true.mp h p hp
 rw [decide_eq_true e, Bool.not_true, Bool.false_or, decide_eq_true_eq] at this
 exact this
theorem Zlj {wo : Str} {mn : Int} (h : (mnL.all fun p => !decide (wo = p.1)) = true) : Zli wo mn := fun p hp e => by
 have := List.all_eq_true.mp h p hp
 rw [decide_eq_true e] at this
 cases this
theorem Zje {wo : Str} (h : wo ∈ kinds10) {q : Int} (q0 : 1 <= q) (q1 : q <= 6) : ∃ mn : Int, (Z2h (Z2k [] (Z5u Zgh)) (Sum.inr wo)).getD (.int q) = .int mn /\ 1 <= mn /\ mn <= 6 /\ Zli wo mn := by
 simp only [kinds10, List.mem_cons, List.not_mem_nil, or_false] at h
 rcases h with rfl | rfl | rfl | rfl | rfl | rfl | rfl | rfl | rfl | rfl
 ·exact ⟨2, by with_unfolding_all rfl, by decide, by decide, Z95 (by decide +kernel)⟩
 ·exact ⟨2, by with_unfolding_all rfl, by decide, by decide, Z95 (by decide +kernel)⟩
 ·exact ⟨1, by with_unfolding_all rfl, by decide, by decide, Z95 (by decide +kernel)⟩
 ·exact ⟨1, by with_unfolding_all rfl, by decide, by decide, Z95 (by decide +kernel)⟩
 ·exact ⟨1, by with_unfolding_all rfl, by decide, by decide, Z95 (by decide +kernel)⟩
 ·exact ⟨3, by with_unfolding_all rfl, by decide, by decide, Z95 (by decide +kernel)⟩
 ·exact ⟨2, by with_unfolding_all rfl, by decide, by decide, Z95 (by decide +kernel)⟩
 ·exact ⟨2, by with_unfolding_all rfl, by decide, by decide, Z95 (by decide +kernel)⟩
 ·exact ⟨q, by with_unfolding_all rfl, q0, q1, Zlj (by decide +kernel)⟩
 ·exact ⟨q, by with_unfolding_all rfl, q0, q1, Zlj (by decide +kernel)⟩
theorem Zgi : ∀ wo ∈ kinds10, Z3e (.str wo) = true := by decide +kernel
abbrev signs6 : Str := "+-*/<="
theorem Z5e {n : Nat} {t : Th} (h : OkT n t) : isTup t = true := by
 cases n with
 | zero => exact h.elim
 | succ n => obtain ⟨w, ts, rfl, _⟩ := h; rfl
theorem Za0 {N : Nat} {wo : Str} {own : List V} {ks : List Th} (hw : wo ≠ "let") (hk : ∀ k ∈ ks, OkT N k) : OkT (N + 1) (.tup (.at (.str wo) :: (own.map Th.at ++ ks))) := by
 refine ⟨wo, _, rfl, fun z => absurd z hw, fun x hx hx2 => ?_⟩
 rcases List.mem_append.mp hx with z | z
 ·obtain ⟨v, _, rfl⟩ := List.mem_map.mp z; cases hx2
 ·exact hk x z
theorem Zlk (own : List V) : szs (own.map Th.at) = own.length := by
 induction own with
 | nil => rfl
 | cons v own ih => rw [List.map_cons, szs, ih, Th.sz, List.length_cons]; omega
theorem Za1 {H : Hp} : ∀ {own : List V}, (∀ v ∈ own, Z3e v = true) -> IsThs H own (own.map Th.at)
 | [], _ => .nil
 | v :: own, h => .cons (.at (h v (List.mem_cons_self ..))) (Za1 fun u hu => h u (List.mem_cons_of_mem _ hu))
def Ze8 (bs : List Str) (w : Str) (mn : Int) (own : List V) : Prop := ∀ ks : List Th, (∀ x ∈ ks, L2.isTup x = true) -> (ks.length : Int) = mn -> Z24 (nd w own ks) = true /\ hit bs (nd w own ks) = false
def HdO (bs L : List Str) (w : Str) (mn : Int) (own : List V) : Prop := (w ∈ L -> Ze8 bs w mn own) /\ (w ∉ L -> own = [])
theorem HdO.no {bs L : List Str} {w x : Str} {mn : Int} {own : List V} (h : HdO bs L w mn own) (g : ¬ decide (V.str w = V.str x) = true) : HdO bs (x :: L) w mn own :=
 ⟨fun z => h.1 ((List.mem_cons.mp z).resolve_left fun q => g (by rw [q]; exact decide_eq_true rfl)), fun z => h.2 fun q => z (List.mem_cons_of_mem _ q)⟩
theorem HdO.yes {bs L : List Str} {w : Str} {mn : Int} {own : List V} (h : Ze8 bs w mn own) : HdO bs (w :: L) w mn own := ⟨fun _ => h, fun z => absurd (List.mem_cons_self ..) z⟩
abbrev Lw0 : List Str := ["say", "pick", "do"]
abbrev Lw1 : List Str := "set" :: Lw0
abbrev Lw2 : List Str := "op" :: Lw1
abbrev Lw3 : List Str := "call" :: Lw2
abbrev Lw4 : List Str := "again" :: Lw3
theorem Za2 {bs : List Str} {w : Str} {k : Wd} {f : Th -> Bool} {lo hi : Nat} {v : V} {mn : Int} (hk : kindOf w = some k) (hr : rule nameB signB k = (some f, lo, hi)) (hf : f (.at v) = true) (hm : (lo : Int) <= mn /\ mn <= hi) (hs : w ≠ "set") : Ze8 bs w mn [v] := fun ks nk hl =>
 ⟨Z38 hk hr hf (by omega) (by omega) nk, Z3x hs⟩
theorem Zjf {bs : List Str} {x : Str} (hx : NmW x) (hb : x ∉ bs) : Ze8 bs "set" 1 [.str x] := fun ks nk hl => by
 refine ⟨Z38 (k := .sett) (by decide +kernel) rfl (Z6c hx) (by omega) (by omega) nk, ?_⟩
 unfold hit
 rw [show Z7s (nd "set" [.str x] ks) = true from decide_eq_true (p := ("set" : Str) = "set") rfl, Bool.true_and]
 exact decide_eq_false hb
theorem Zgj {bs : List Str} {w : Str} {mn : Int} (hw : w ∈ Lw0) (h : Zli w mn) (h1 : 1 <= mn) (h6 : mn <= 6) : Ze8 bs w mn [] := fun ks nk hl => by
 simp only [Lw0, List.mem_cons, List.not_mem_nil, or_false] at hw
 rcases hw with rfl | rfl | rfl
 ·have := h ("say", 1) (by decide +kernel) rfl
  have this : mn = 1 := this
  exact ⟨Z6b (k := .say) (by decide +kernel) rfl (by omega) (by omega) nk, Z3x (by decide +kernel)⟩
 ·have := h ("pick", 3) (by decide +kernel) rfl
  have this : mn = 3 := this
  exact ⟨Z6b (k := .pick) (by decide +kernel) rfl (by omega) (by omega) nk, Z3x (by decide +kernel)⟩
 ·exact ⟨Z6b (k := .dow) (by decide +kernel) rfl (by omega) (by omega) nk, Z3x (by decide +kernel)⟩
theorem Znd {w : Str} (h : w ∈ kinds10) (hn : w ≠ "let") : w ∈ Lw4 := by
 rcases (by decide +kernel : ∀ t ∈ kinds10, t = "let" ∨ t ∈ Lw4) w h with z | z
 ·exact absurd z hn
 ·exact z
theorem Zgk : ∀ c ∈ signs6.cps.toList, signB (.at (.str ⟨#[c]⟩)) = true := by decide +kernel
theorem Zne : (["_law_bound", "_law_name_here"] : List Str).Nodup := by decide +kernel
theorem Zgl : (["_law_feed_here", "_law_world_here", "_law_bound", "_law_depth", "_law_k"] : List Str).Nodup := by decide +kernel
section
variable {P : Program} {w : World} {K : PySem.W.Frag} {mg : Str -> Option Value} {base : Heap}
theorem scExpr : FnScope ["_law_feed_here", "_law_world_here", "_law_bound", "_law_depth", "_law_words_here", "_law_word", "_law_free", "_law_many", "_law_head", "_law_name_here", "_law_first"] ["_law_feed_here", "_law_world_here", "_law_bound", "_law_depth"] (Z03 Z6j) := ⟨rfl, rfl, rfl, by decide +kernel, rfl, by decide +kernel, by decide +kernel⟩
theorem Zjg {f fL fV fD fS fO fW : Addr} {fd dL dV dD dS dO dW : FuncData} (F : Fun K "_law_expr" "_law_expr" Z6j f fd) (b : Binds K fd ["_law_feed_here", "_law_world_here", "_law_bound", "_law_depth"] []) (m : mg "_law_expr" = some (.ref f)) (U : Dr K mg fD fS fO fW dD dS dO dW) (htup : mg "tuple" = none)
  (FV : Fun K "_law_value" "_law_value" Z27 fV dV) (bV : Binds K dV ["_law_feed_here"] []) (mV : mg "_law_value" = some (.ref fV)) (FL : Fun K "_law_leaf" "_law_leaf" Z9n fL dL) (bL : Binds K dL ["_law_feed_here", "_law_world_here", "_law_bound"] []) (mL : mg "_law_leaf" = some (.ref fL)) :
  ∀ N, FnOk P w K mg base CX0 (N + 4) f fd ["_law_feed_here", "_law_world_here", "_law_bound", "_law_depth"] (Zhs N) := by
 have GD : FnOk P w K mg base CX0 1 fD dD ["_law_feed_here", "_law_many"] spDraw := Z37 U.D U.T
 have GO : FnOk P w K mg base CX0 2 fO dO ["_law_feed_here", "_law_some"] spOne := Z4n U.O U
 have GL : FnOk P w K mg base CX0 3 fL dL ["_law_feed_here", "_law_world_here", "_law_bound"] spLeaf := Z9z FL U FV bV mV
 intro N
 induction N with
 | zero =>
  refine F.ok scExpr (fun vs H Q E h => ?_) (fun cdv A outer s H vs Q E hr h => ?_)
  ·obtain ⟨d, l, wd, nm, lt, cl, bd, ns, n, r, b, T1, T2, T3, bs, rfl, _⟩ := h
   rfl
  ·obtain ⟨d, l, wd, nm, lt, cl, bd, ns, n, r, b, T1, T2, T3, bs, rfl, h, _⟩ := h
   exact absurd h (by decide)
 | succ N ih =>
  refine F.ok scExpr (fun vs H Q E h => ?_) (fun cdv A outer s H vs Q E hr h => ?_)
  ·obtain ⟨d, l, wd, nm, lt, cl, bd, ns, n, r, b, T1, T2, T3, bs, rfl, _⟩ := h
   rfl
  ·obtain ⟨d, l, wd, nm, lt, cl, bd, ns, n, r, bb, T1, T2, T3, bs, rfl, _, hN13, hb, F0, hn, W0, hr0, hr1000, N0, B0, hbl, hbn, k⟩ := h
   have hsz : sizeLine = 16777216 := sizeLine_eq
   have hu := Z9j hr
   have hu0 := hr.units0
   have hr1 : Room 1 _ := hr.mono (by omega)
   have hr2 : Room 2 _ := hr.mono (by omega)
   have hr3 : Room 3 _ := hr.mono (by omega)
   have ec : cD (N + 1) = 20 + 6 * cD N := rfl
   refine' ⟨?tt, ?body, ?fin⟩
   case body =>
    refine' Z04 ?s1 ?r1
    case s1 =>
     refine' Z7u (i := 4) ?ha ?hb ?hc ?hd ?he ?hf
     case ha => exact scExpr.nd
     case hb => exact rfl
     case hc => exact (Or.inl rfl)
     case he => exact rfl
     case hf => exact (.inr rfl)
     case hd =>
      refine' @Z4c ((Z9e CX0 P w K mg base ["_law_feed_here", "_law_world_here", "_law_bound", "_law_depth", "_law_words_here", "_law_word", "_law_free", "_law_many", "_law_head", "_law_name_here", "_law_first"] "_law_expr" (Z03 Z6j) f cdv A outer s H E).nox) _ (kinds10.map V.str) ?q
      case q => decide +kernel
    case r1 =>
     refine' Z0p ?s2 ?r2
     case s2 => exact Z0c (i := 5) scExpr.nd rfl (Or.inl rfl) (Z18 Z20 (pv 4) (Z07 GD hr1 (by rfl) U.mD U.D.kp U.bD .nil Z0f (Z0j (pv 0) (Z1y Z05 Z02))) (fun _ _ => rfl))
     case r2 =>
      refine' Z0p ?s3 ?r3
      case s3 =>
       refine' Z4z (i := 6) (N' := ["_law_bound", "_law_name_here"]) (src := [some 2, none]) ?k1 ?k2 ?k3 ?k4 ?k5 ?k6 ?k7
       case k1 => rfl
       case k2 => exact scExpr.nd
       case k3 => rfl
       case k4 => exact Or.inl rfl
       case k5 => exact Z0m (Z03 Z6j) rfl ["_law_feed_here", "_law_world_here", "_law_bound", "_law_depth", "_law_words_here", "_law_word", "_law_free", "_law_many", "_law_head", "_law_name_here", "_law_first"] rfl (by decide +kernel)
       case k6 => exact Z4u (Z17 hu (pv 1) Z09 (fun _ _ => rfl))
       case k7 => exact fun cl C ex s0 H0 => ⟨Z0o (i := 1) Zne rfl (Or.inl rfl), Z4y (Z0b (Z4o (K := K) rfl) (pv 1) (pv 0) (by with_unfolding_all rfl)), pv 1⟩
      case r3 =>
       refine' Z0p ?s4 ?r4
       case s4 =>
        refine' Z10 ?c (Z06 ?e) Z0g
        case c => exact (Z6n (Z0b Z1p (pv 5) Z09 (Z0k _)) (Z4s (Z0b (Z6y hu0) (pv 6) (Z0y Z02) (Z0k _)))).pt
        case e => exact Z0c (i := 5) scExpr.nd rfl (Or.inl rfl) Z09
       case r4 =>
        refine' Z04 ?s5 ?r5
        case s5 => exact Z0c (i := 7) scExpr.nd rfl (Or.inl rfl) (Z0l Z1z Z05 (Z07 GD hr1 (by rfl) U.mD U.D.kp U.bD .nil Z0f (Z0j (pv 0) (Z1y Z05 Z02))))
        case r5 =>
         refine' Z0p ?s6 ?r6
         case s6 =>
          refine' Z7u (i := 7) ?ha ?hb ?hc ?hd ?he ?hf
          case ha => exact scExpr.nd
          case hb => exact rfl
          case hc => exact (Or.inl rfl)
          case he => exact rfl
          case hf => exact (.inr rfl)
          case hd =>
           refine' @Z5k ((Z9e CX0 P w K mg base ["_law_feed_here", "_law_world_here", "_law_bound", "_law_depth", "_law_words_here", "_law_word", "_law_free", "_law_many", "_law_head", "_law_name_here", "_law_first"] "_law_expr" (Z03 Z6j) f cdv A outer s H E).nox) _ _ _ _ _ _ _ _ hu ?x1 (pv 5) (pv 7) ?x2
           case x1 =>
            refine' @Zik ((Z9e CX0 P w K mg base ["_law_feed_here", "_law_world_here", "_law_bound", "_law_depth", "_law_words_here", "_law_word", "_law_free", "_law_many", "_law_head", "_law_name_here", "_law_first"] "_law_expr" (Z03 Z6j) f cdv A outer s H E).nox) _ Zgh ?q
            case q => decide +kernel
           case x2 => exact ⟨rfl, rfl, rfl, rfl⟩
         case r6 =>
          refine' Z04 ?s7 ?r7
          case s7 =>
           refine' Z10 ?c (Z06 ?e) Z0g
           case c => exact (Z3r (Z0b Zkc (pv 3) Z05 (Z0k _)) (Z3r (Z0b Z9c (pv 7) (Z17 hu (pv 1) Z09 (fun _ _ => rfl)) (Z0k _)) (Z3u (Z0b Z1p (Z07 GD hr1 (by rfl) U.mD U.D.kp U.bD .nil Z0f (Z0j (pv 0) (Z1y Z05 Z02))) Z05 (Z0k _))))).pt
           case e => exact Z0d (Z07 GL hr3 (by rfl) mL FL.kp bL .nil Z0f (Z0j (pv 0) (Z0j (pv 1) (Z0j (pv 2) Z02))))
          case r7 =>
           refine' Z0p ?s8 ?r8
           case s8 => exact Z4v hu (pv 1) Z09 (Z0l Z6p (Z17 hu (pv 1) Z09 (fun _ _ => rfl)) (pv 7)) rfl
           case r8 =>
            refine' Z0p ?s9 ?r9
            case s9 => exact Z0c (i := 8) scExpr.nd rfl (Or.inl rfl) (Z0y (Z0j (pv 5) Z02))
            case r9 =>
             refine' Z04 ?s10 ?r10
             case s10 =>
              refine' Z10 ?c (Z04 ?e1 (Z04 ?e2 (Z06 ?e3))) Z0g
              case c => exact Z0b Z1p (pv 5) Z09 (Z0k _)
              case e1 => exact Z0c (i := 9) scExpr.nd rfl (Or.inl rfl) (Z07 GO hr2 (by rfl) U.mO U.O.kp U.bO .nil Z0f (Z0j (pv 0) (Z08 (Z0l Z2e (Z17 hu (pv 1) Z09 (fun _ _ => rfl)) (Z17 hu (pv 1) Z09 (fun _ _ => rfl))) Z02)))
              case e2 => exact Z0c (i := 10) scExpr.nd rfl (Or.inl rfl) (Z07 ih hr (by rfl) m F.kp b .nil Z0f (Z0j (pv 0) (Z0j (pv 1) (Z0j (pv 2) (Z08 (Z0l Z6p (pv 3) Z05) Z02)))))
              case e3 => exact Z0d (Z12 (Z1y Z09 (Z0j (pv 9) (Z0j (pv 10) (Z6h (Z07 ih hr (by rfl) m F.kp b .nil Z0f (Z0j (pv 0) (Z0j (pv 1) (Z08 (Z0l Z2e (pv 2) (Z0y (Z0j (pv 9) Z02))) (Z08 (Z0l Z6p (pv 3) Z05) Z02))))) Z02)))))
             case r10 =>
              refine' Z0p ?s11 ?r11
              case s11 => exact Z10 (Z0b Z1p (pv 5) Z09 (Z0k _)) (Z06 (Z31 (Z7j PySem.F.plainAttrs_list PySem.F.slot_list_append PySem.F.type_list_append Z2d (pv 8) (Z6h (Z07 GO hr2 (by rfl) U.mO U.O.kp U.bO .nil Z0f (Z0j (pv 0) (Z0j (pv 6) Z02))) Z02)))) Z0g
              case r11 =>
               refine' Z0p ?s12 ?r12
               case s12 => exact Z10 (Z0b Z1p (pv 5) Z09 (Z0k _)) (Z06 (Z31 (Z7j PySem.F.plainAttrs_list PySem.F.slot_list_append PySem.F.type_list_append Z2d (pv 8) (Z08 (Z18 Zaf Z09 (Z07 GD hr1 (by rfl) U.mD U.D.kp U.bD .nil Z0f (Z0j (pv 0) (Z1y Z05 Z02))) (fun _ _ => rfl)) Z02)))) Z0g
               case r12 =>
                refine' Z0p ?s13 ?r13
                case s13 => exact Z10 (Z0b Z1p (pv 5) Z09 (Z0k _)) (Z06 (Z31 (Z7j PySem.F.plainAttrs_list PySem.F.slot_list_append PySem.F.type_list_append Z2d (pv 8) (Z6h (Z07 GO hr2 (by rfl) U.mO U.O.kp U.bO .nil Z0f (Z0j (pv 0) (Z08 (Z17 hu (pv 1) Z09 (fun _ _ => rfl)) Z02))) Z02)))) Z0g
                case r13 =>
                 refine' Z0p ?s14 ?r14
                 case s14 => exact Z10 (Z0b Z1p (pv 5) Z09 (Z0k _)) (Z06 (Z31 (Z7j PySem.F.plainAttrs_list PySem.F.slot_list_append PySem.F.type_list_append Z2d (pv 8) (Z6h (Z07 GD hr1 (by rfl) U.mD U.D.kp U.bD .nil Z0f (Z0j (pv 0) (Z1y Z05 Z02))) Z02)))) Z0g
                 case r14 =>
                  refine' Z06 ?s15
                  case s15 =>
                   refine' Z0d (Z1a Z1f (by rfl) htup (by decide +kernel) (Z08 (Z0l Z2e (pv 8) ?x) Z02))
                   case x =>
                    refine' Z21 (N' := ["_law_feed_here", "_law_world_here", "_law_bound", "_law_depth", "_law_k"]) (src := [some 0, some 1, some 2, some 3, none]) ?k1 ?k5 ?k6 ?k7
                    case k1 => rfl
                    case k5 => exact Z0m (Z03 Z6j) rfl ["_law_feed_here", "_law_world_here", "_law_bound", "_law_depth", "_law_words_here", "_law_word", "_law_free", "_law_many", "_law_head", "_law_name_here", "_law_first"] rfl (by decide +kernel)
                    case k6 => exact Z19 (by rfl) U.T.range (Z0j (pv 7) Z02)
                    case k7 => exact fun cl C ex s0 H0 => ⟨Z0o (i := 4) Zgl rfl (Or.inl rfl), Z2o, Z07 ih hr (by rfl) m F.kp b .nil Z0f (Z0j (pv 0) (Z0j (pv 1) (Z0j (pv 2) (Z08 (Z0l Z6p (pv 3) Z05) Z02))))⟩
   case fin =>
    have hne := Z26 F0 W0
    have leafK : ∀ {E' : XK} {H' : Hp} {n' : Nat}, Ctx H H' d l wd nm lt cl bd ns n' r T1 T2 T3 bs -> n' <= n + 3 -> spLeaf [.ref d, .ref wd, .ref bd] H' Q E' := fun {E' H' n'} C hn' =>
     ⟨d, l, wd, nm, lt, cl, bd, ns, n', r, T1, T2, T3, bs, rfl, C.F, by omega, C.W, C.N, C.B, by omega, hbn, fun v t n9 H9 hth hlf hn9 F9 b9 =>
      k v t n9 r H9 hth (hlf.1.le (by omega)) (hlf.2.1 bs) (by have := hlf.2.2; omega) hr0 (Int.le_refl _) (by omega) F9 (b9 wd _ C.W (Z26 C.F C.W)) (C.b2.trans (But2.of b9))⟩
    refine ⟨Z2y (by decide +kernel), fun wh hwh => ?_⟩
    have C1 : Ctx H (upd H wh (.lst (kinds10.map V.str))) d l wd nm lt cl bd ns n r T1 T2 T3 bs := Ctx.same ⟨F0, W0, N0, B0, But2.refl _ _ _⟩ (Z01 hwh)
    refine ⟨fun σ' H' => ∃ (wo : Str) (n1 : Nat), σ' = [some (.ref d), some (.ref wd), some (.ref bd), some (.int bb), some (.ref wh), some (.str wo), none, none, none, none, none] /\ wo ∈ kinds10 /\ n1 <= n + 1 /\ Ctx H H' d l wd nm lt cl bd ns n1 r T1 T2 T3 bs, ?_, ?_⟩
    ·refine ⟨_, rfl, _, rfl, d, l, ns, n, _, rfl, C1.F, by omega, by decide, by decide, fun q n1 H1 q0 q1 hn1 F1 b1 => ?_⟩
     obtain ⟨v, hv, hat⟩ := Z9k (xs := kinds10.map V.str) (i := q) q0 (Int.lt_of_lt_of_le q1 (by decide +kernel))
     obtain ⟨wo, hwo, rfl⟩ := List.mem_map.mp hv
     exact ⟨wh, kinds10.map V.str, q, .str wo, rfl, rfl, SqL.of (C1.F.lst b1 Z00), hat, wo, n1, rfl, hwo, hn1, C1.draw b1 F1⟩
    rintro σ2 H2 ⟨wo, n2, rfl, hwo, hn2, C2⟩
    refine ⟨fun σ' H' => ∃ (fr : Addr) (fs : List Str), σ' = [some (.ref d), some (.ref wd), some (.ref bd), some (.int bb), some (.ref wh), some (.str wo), some (.ref fr), none, none, none, none] /\ H' fr = some (.lst (fs.map V.str)) /\ (∀ t ∈ fs, NmW t /\ t ∉ bs) /\ fs.length <= 10 /\ Ctx H H' d l wd nm lt cl bd ns n2 r T1 T2 T3 bs, ?_, ?_⟩
    ·refine ⟨_, rfl, wd, .ref nm, rfl, Z30 C2.W, nm, rfl, ⟨_, SqL.of C2.N.a⟩, Z4b (K := K) (a := nm) (xs := T1.map V.str) (fun i ys σc H' => ∃ (o : Option V) (fs : List Str), σc = [some (.ref bd), o] /\ H' = H2 /\ ys = fs.map V.str /\ fs.length <= i /\ ∀ t ∈ fs, NmW t /\ t ∉ bs)
      ⟨none, [], rfl, rfl, rfl, Nat.le_refl _, (fun t ht => by cases ht)⟩ (fun i ys σc H' ⟨_, _, _, e, _⟩ => by rw [e]; exact SqL.of C2.N.a) ?_ ?_⟩
     ·rintro i x ys σc H' hx hi ⟨o, fs, rfl, rfl, rfl, hfl, hfa⟩
      obtain ⟨t, ht, rfl⟩ := List.mem_map.mp (List.mem_of_getElem? hx)
      have hi' : i < 10 := by
       have := C2.N.a2
       rw [List.length_map] at hi
       omega
      refine ⟨by rw [List.length_map]; omega, ?_⟩
      refine ⟨_, rfl, _, rfl, bd, bs.map V.str, rfl, .inl (SqL.of C2.B), rfl, Z1l bs, _, rfl, Z14 (fun g => ?_) (fun g => ?_)⟩
      ·refine ⟨_, rfl, nx hi ⟨_, fs ++ [t], rfl, rfl, by rw [List.map_append]; rfl, by rw [List.length_append, List.length_singleton]; omega, fun u hu => ?_⟩⟩
       rcases List.mem_append.mp hu with z | z
       ·exact hfa u z
       ·rw [List.mem_singleton] at z; subst z; exact ⟨C2.N.an u ht, fun hb => by rw [show inV (.str u) (bs.map V.str) = true from (Z1n u bs).mpr hb] at g; cases g⟩
      ·exact nx hi ⟨_, fs, rfl, rfl, rfl, by omega, hfa⟩
     ·rintro ys σc H' ⟨o, fs, rfl, rfl, rfl, hfl, hfa⟩ q hq
      have := C2.N.a2
      rw [List.length_map] at hfl
      exact ⟨q, fs, rfl, Z00, hfa, by omega, C2.same (Z01 hq)⟩
    rintro σ3 H3 ⟨fr, fs, rfl, S3, hfn, hfl, C3⟩
    refine ⟨fun σ' H' => ∃ (w2 : Str), σ' = [some (.ref d), some (.ref wd), some (.ref bd), some (.int bb), some (.ref wh), some (.str w2), some (.ref fr), none, none, none, none] /\ w2 ∈ kinds10 /\ (w2 = "set" -> fs ≠ []) /\ H' fr = some (.lst (fs.map V.str)) /\ Ctx H H' d l wd nm lt cl bd ns n2 r T1 T2 T3 bs, ?_, ?_⟩
    ·refine ⟨_, rfl, rfl, _, rfl, Z14 (fun g => ?_) (fun g => Z4w ⟨wo, rfl, hwo, fun z => absurd (by rw [z]; decide +kernel) g, S3, C3⟩)⟩
     refine ⟨_, rfl, Nat.zero_le _, fun e he => ⟨fr, e, fs.map V.str, [], rfl, rfl, SqL.of (Z01 he _ _ S3), SqL.of Z00, Z1l fs, rfl, _, rfl, Z14 (fun _ => ?_) (fun g2 => ?_)⟩⟩
     ·exact ⟨"say", rfl, by decide +kernel, (fun z => absurd z (by decide +kernel)), Z01 he _ _ S3, C3.same (Z01 he)⟩
     ·refine ⟨wo, rfl, hwo, (fun _ z => g2 ?_), Z01 he _ _ S3, C3.same (Z01 he)⟩
      rw [z]; decide
    clear S3 C3 C2 C1 hwo
    rintro σ4 H4 ⟨w2, rfl, hw2, hset, S4, C4⟩
    refine ⟨_, rfl, d, l, ns, n2, _, rfl, C4.F, by omega, by decide, by decide, fun q n5 H5 q0 q1 hn5 F5 b5 => ⟨_, _, rfl, rfl, ?_⟩⟩
    have C5 := C4.draw b5 F5
    have S5 := C4.F.lst b5 S4
    refine ⟨fun σ' H' => ∃ (mn : Int), σ' = [some (.ref d), some (.ref wd), some (.ref bd), some (.int bb), some (.ref wh), some (.str w2), some (.ref fr), some (.int mn), none, none, none] /\ 1 <= mn /\ mn <= 6 /\ Zli w2 mn /\ H' fr = some (.lst (fs.map V.str)) /\ Ctx H H' d l wd nm lt cl bd ns n5 r T1 T2 T3 bs, ?_, ?_⟩
    ·intro p hp
     obtain ⟨mn, e1, e2, e3, e4⟩ := Zje hw2 (q := 1 + q) (by omega) (by omega)
     refine ⟨p, rfl, .inl ⟨_, .inl Z00⟩, _, rfl, _, rfl, _, DGet.k (k := Sum.inr w2) Z00, ?_⟩
     have sp := Z01 (o := .dK (Z2k [] (Z5u Zgh))) hp
     refine ⟨mn, ?_, e2, e3, e4, sp _ _ S5, C5.same sp⟩
     show [some (.ref d), some (.ref wd), some (.ref bd), some (.int bb), some (.ref wh), some (.str w2), some (.ref fr), some ((Z2h (Z2k [] (Z5u Zgh)) (Sum.inr w2)).getD (.int (1 + q))), none, none, none] = _
     rw [e1]
    clear S5 C5 S4 C4 F5 b5
    rintro σ6 H6 ⟨mn, rfl, hm1, hm6, hml, S6, C6⟩
    refine ⟨_, rfl, _, _, rfl, rfl, _, rfl, Z14 (fun _ => Z34 ?_) (fun g1 => ?_)⟩
    ·exact ⟨_, rfl, _, rfl, _, rfl, leafK (E' := E0) C6 (by omega)⟩
    refine ⟨_, rfl, _, rfl, wd, .int r, rfl, Z94 C6.W, _, _, rfl, rfl, _, rfl, Z14 (fun _ => Z34 ?_) (fun g2 => ?_)⟩
    ·exact ⟨_, rfl, _, rfl, _, rfl, leafK (E' := E0) C6 (by omega)⟩
    refine ⟨_, rfl, d, l, ns, n5, _, rfl, C6.F, by omega, by decide, by decide, fun q7 n7 H7 q70 q71 hn7 F7 b7 => ⟨rfl, _, rfl, Z14 (fun _ => ?_) (fun _ => ?_)⟩⟩
    ·exact ⟨_, rfl, _, rfl, _, rfl, leafK (E' := E0) (C6.draw b7 F7) (by omega)⟩
    have C7 := C6.draw b7 F7
    have S7 := C6.F.lst b7 S6
    have hb2 : 2 <= bb := by
     have := of_decide_eq_false (Bool.eq_false_iff.mpr g1)
     omega
    have hmr : mn <= r := by
     have := of_decide_eq_false (Bool.eq_false_iff.mpr g2)
     omega
    have hN1 : 1 <= N := by omega
    clear C6 S6 F7 b7
    refine ⟨fun σ' H' => σ' = [some (.ref d), some (.ref wd), some (.ref bd), some (.int bb), some (.ref wh), some (.str w2), some (.ref fr), some (.int mn), none, none, none] /\ H' fr = some (.lst (fs.map V.str)) /\ Ctx H H' d l wd nm lt cl bd ns n7 (r - mn) T1 T2 T3 bs, ?_, ?_⟩
    ·refine ⟨_, rfl, wd, .int r, rfl, Z94 C7.W, _, rfl, _, _, rfl, rfl, _, rfl, wd, _, rfl, Ze7 C7.W, ?_⟩
     refine ⟨rfl, ?_, C7.room⟩
     rw [Z0a (Z4r S7 C7.W (by intro q; cases q))]
     exact S7
    clear S7 C7
    rintro σ8 H8 ⟨rfl, S8, C8⟩
    refine ⟨fun σ' H' => ∃ hd : Addr, σ' = [some (.ref d), some (.ref wd), some (.ref bd), some (.int bb), some (.ref wh), some (.str w2), some (.ref fr), some (.int mn), some (.ref hd), none, none] /\ H' hd = some (.lst [.str w2]) /\ H' fr = some (.lst (fs.map V.str)) /\ hd ≠ fr /\ hd ≠ bd /\ hd ≠ l /\ hd ≠ nm /\ hd ≠ lt /\ hd ≠ cl /\ H hd = none /\ Ctx H H' d l wd nm lt cl bd ns n7 (r - mn) T1 T2 T3 bs, ?_, ?_⟩
    ·refine ⟨_, rfl, (by show 1 <= sizeLine; decide), fun hd hhd => ?_⟩
     have sh := Z01 (o := .lst [.str w2]) hhd
     have no : ∀ {a : Addr} {o : HO}, H8 a = some o -> hd ≠ a := fun {a o} e z => by rw [<- z, hhd] at e; cases e
     refine ⟨hd, rfl, Z00, sh _ _ S8, no S8, no C8.B, no C8.F.ls, no C8.N.a, no C8.N.b, no C8.N.c, ?_, C8.same sh⟩
     cases e : H hd with
     | none => rfl
     | some o =>
      exfalso
      by_cases h1 : hd = d
      ·obtain ⟨⟨z, sb, hd'⟩, _, _⟩ := C8.F
       rw [h1, hd'] at hhd
       cases hhd
      ·by_cases h2 : hd = wd
       ·rw [h2, C8.W] at hhd; cases hhd
       ·rw [C8.b2 hd o e h1 h2] at hhd; cases hhd
    clear S8 C8
    rintro σ9 H9 ⟨hd, rfl, D9, S9, x1, x2, x3, x4, x5, x6, x0, C9⟩
    refine ⟨_, rfl, rfl, _, rfl, Z14 (fun g => ?_) (fun g => ?_)⟩
    ·have hw : w2 = "let" := by
      have g' := of_decide_eq_true g
      injection g'
     have hm2 : mn = 2 := hml ("let", 2) (by decide +kernel) hw
     have ha2 := C9.N.a2
     have hb2' := C9.N.b2
     have ha1 := C9.N.a1
     refine ⟨_, rfl, _, rfl, wd, .ref nm, rfl, Z30 C9.W, _, rfl, wd, .ref lt, rfl, Z93 C9.W, nm, lt, T1.map V.str, T2.map V.str, rfl, rfl, C9.N.a, C9.N.b, by rw [List.length_map, List.length_map]; omega, fun c hc => ?_⟩
     have sc := Z01 (o := .lst (T1.map V.str ++ T2.map V.str)) hc
     have C9' := C9.same sc
     refine ⟨d, l, c, ns, n7, _, rfl, C9'.F, by omega, Z00, by rw [List.length_append, List.length_map]; omega, by rw [List.length_append, List.length_map, List.length_map]; omega, fun v n10 H10 hv hn10 F10 b10 => ?_⟩
     have C10 := C9'.draw b10 F10
     obtain ⟨x, rfl, hx⟩ : ∃ x, v = .str x /\ NmW x := by
      rcases List.mem_append.mp hv with z | z
      ·obtain ⟨x, hx, rfl⟩ := List.mem_map.mp z; exact ⟨x, rfl, C9.N.an x hx⟩
      ·obtain ⟨x, hx, rfl⟩ := List.mem_map.mp z; exact ⟨x, rfl, C9.N.bn x hx⟩
     refine ⟨_, rfl, _, rfl, _, rfl, _, rfl, _, _, rfl, rfl, d, l, wd, nm, lt, cl, bd, ns, n10, r - mn, bb - 1, T1, T2, T3, bs, rfl, hN1, by omega, by omega, C10.F, by omega, C10.W, by omega, by omega, C10.N, C10.B, by omega, hbn, fun v1 t1 n11 r11 H11 h1 o1 f1 z1 r110 r111 hn11 F11 W11 b11 => ?_⟩
     have C11 := C10.go b11 F11 W11
     refine ⟨_, rfl, _, rfl, _, rfl, _, rfl, _, rfl, _, rfl, (by show 1 <= sizeLine; decide), fun c1 hc1 => ?_⟩
     have sc1 := Z01 (o := .lst [.str x]) hc1
     refine ⟨bd, c1, bs.map V.str, [.str x], rfl, rfl, sc1 _ _ C11.B, Z00, by rw [List.length_map, List.length_singleton]; omega, fun c2 hc2 => ?_⟩
     have sc2 := Z01 (o := .lst (bs.map V.str ++ [.str x])) hc2
     have C12 := (C11.same sc1).same sc2
     refine ⟨_, rfl, _, _, rfl, rfl, d, l, wd, nm, lt, cl, c2, ns, n11, r11, bb - 1, T1, T2, T3, bs ++ [x], rfl, hN1, by omega, by omega, C12.F, by omega, C12.W, by omega, by omega, C12.N, by rw [Z00, List.map_append]; rfl, by rw [List.length_append, List.length_singleton]; omega, fun u hu => ?_, fun v2 t2 n12 r12 H12 h2 o2 f2 z2 r120 r121 hn12 F12 W12 b12 => ?_⟩
     ·rcases List.mem_append.mp hu with z | z
      ·exact hbn u z
      ·rw [List.mem_singleton] at z; subst z; exact hx
     ·have C13 := C12.go b12 F12 W12
      have h1' := IsTh.kp (b12.kp C12.F C12.W) (IsTh.kp (Kp.of (sc1.trans sc2)) h1)
      refine ⟨(by show 4 <= sizeLine; decide), fun p hp => ?_⟩
      have sp := Z01 (o := .tup [.str "let", .str x, v1, v2]) hp
      have C14 := C13.same sp
      refine k (.ref p) (.tup [.at (.str "let"), .at (.str x), t1, t2]) n12 r12 _ (.tup Z00 (.cons (.at (by decide +kernel)) (.cons (.at (Z4p hx.1)) (.cons (IsTh.kp (Kp.of sp) h1') (.cons (IsTh.kp (Kp.of sp) h2) .nil))))) ?_ ?_ ?_ r120 (by omega) (by omega) C14.F C14.W C14.b2
      ·refine ⟨"let", [.at (.str x), t1, t2], rfl, fun _ => ?_, fun y hy hy2 => ?_⟩
       ·unfold Z0r
        rw [List.filter_cons_of_neg (by intro z; cases z), List.filter_cons_of_pos (Z5e o1), List.filter_cons_of_pos (Z5e o2)]
        rfl
       ·simp only [List.mem_cons, List.not_mem_nil, or_false] at hy
        rcases hy with rfl | rfl | rfl
        ·cases hy2
        ·exact o1
        ·exact o2
      ·have it1 := Z5e o1
       have it2 := Z5e o2
       have f2' : exB (x :: bs) t2 = true := by rw [<- Zl8 (a := bs ++ [x]) (fun z => by simp [or_comm]) t2]; exact f2
       have hn : Z24 (nd "let" [.str x] [t1, t2]) = true := Z38 (k := .lett) (by decide +kernel) rfl (Z6c hx) (Nat.le_refl _) (Nat.le_refl _) (fun y hy => by
        simp only [List.mem_cons, List.not_mem_nil, or_false] at hy
        rcases hy with rfl | rfl
        ·exact it1
        ·exact it2)
       rw [Zho (show Z24 (.tup [.at (.str "let"), .at (.str x), t1, t2]) = true from hn) it1 it2, f1, f2']
       rfl
      ·simp only [Th.sz, szs]
       omega
    ·have hnl : w2 ≠ "let" := fun z => g (by rw [z]; decide +kernel)
     have hkl := Zgi w2 hw2
     let Mh : Nat -> List Str -> St -> Hp -> Prop := fun kk L σ' H' => ∃ (own : List V) (n' : Nat), σ' = [some (.ref d), some (.ref wd), some (.ref bd), some (.int bb), some (.ref wh), some (.str w2), some (.ref fr), some (.int mn), some (.ref hd), none, none] /\ (own.length <= kk /\ HdO bs L w2 mn own) /\ (∀ v ∈ own, Z3e v = true) ∧
      H' hd = some (.lst (.str w2 :: own)) /\ H' fr = some (.lst (fs.map V.str)) /\ n' <= n + 3 + kk /\ Ctx H H' d l wd nm lt cl bd ns n' (r - mn) T1 T2 T3 bs
     have app : ∀ {kk : Nat} {L : List Str} {H' : Hp} {own : List V} {n' : Nat} (v : V), Z3e v = true -> HdO bs L w2 mn (own ++ [v]) -> own.length <= kk -> (∀ v ∈ own, Z3e v = true) -> H' hd = some (.lst (.str w2 :: own)) -> H' fr = some (.lst (fs.map V.str)) -> n' <= n + 3 + (kk + 1) -> Ctx H H' d l wd nm lt cl bd ns n' (r - mn) T1 T2 T3 bs →
       Mh (kk + 1) L [some (.ref d), some (.ref wd), some (.ref bd), some (.int bb), some (.ref wh), some (.str w2), some (.ref fr), some (.int mn), some (.ref hd), none, none] (upd H' hd (.lst ((.str w2 :: own) ++ [v]))) := by
      intro kk L H' own n' v hv hho hol hoa hD hS hn' C
      refine ⟨own ++ [v], n', rfl, ⟨by rw [List.length_append, List.length_singleton]; omega, hho⟩, fun u hu => ?_, Z00, by rw [Z0a x1.symm]; exact hS, hn', C.put hD x2 x3 x4 x5 x6 x0⟩
      rcases List.mem_append.mp hu with z | z
      ·exact hoa u z
      ·rw [List.mem_singleton] at z; subst z; exact hv
     have keep : ∀ {kk : Nat} {L : List Str} {x : Str} {σ' : St} {H' : Hp}, ¬ decide (V.str w2 = V.str x) = true -> Mh kk L σ' H' -> Mh (kk + 1) (x :: L) σ' H' := fun {kk L x σ' H'} g ⟨own, n', e1, e2, e3, e4, e5, e6, e7⟩ => ⟨own, n', e1, ⟨by omega, e2.2.no g⟩, e3, e4, e5, by omega, e7⟩
     have M0 : Mh 0 Lw0 [some (.ref d), some (.ref wd), some (.ref bd), some (.int bb), some (.ref wh), some (.str w2), some (.ref fr), some (.int mn), some (.ref hd), none, none] H9 := ⟨[], n7, rfl, ⟨Nat.le_refl _, fun z => Zgj z hml hm1 hm6, fun _ => rfl⟩, (fun v hv => by cases hv), D9, S9, by omega, C9⟩
     refine ⟨Mh 1 Lw1, ?_, ?_⟩
     ·refine ⟨_, rfl, rfl, _, rfl, Z14 (fun g2 => ?_) (fun g2 => keep g2 M0)⟩
      have hw : w2 = "set" := by
       have g' := of_decide_eq_true g2
       injection g'
      have hfs := hset hw
      refine ⟨_, rfl, .inl ⟨rfl, _, SqL.of D9⟩, _, rfl, _, rfl, d, l, fr, ns, n7, fs.map V.str, rfl, C9.F, by omega, S9, ?_, by rw [List.length_map]; omega, fun v n10 H10 hv hn10 F10 b10 => ?_⟩
      ·rw [List.length_map]
       exact List.length_pos_iff.mpr hfs
      ·obtain ⟨x, hx, rfl⟩ := List.mem_map.mp hv
       have D10 := C9.F.lst b10 D9
       refine ⟨hd, [.str w2], .str x, rfl, rfl, D10, by show 1 < sizeLine; omega, ?_⟩
       have hm2 : mn = 1 := hml ("set", 1) (by decide +kernel) hw
       exact app (own := []) (.str x) (Z4p (hfn x hx).1.1) (by rw [hw, hm2]; exact HdO.yes (Zjf (hfn x hx).1 (hfn x hx).2)) (Nat.le_refl _) (fun v hv => by cases hv) D10 (C9.F.lst b10 S9) (by omega) (C9.draw b10 F10)
     rintro σ11 H11 ⟨own, n11, rfl, ho1, ho2, D11, S11, hn11, C11⟩
     refine ⟨Mh 2 Lw2, ?_, ?_⟩
     ·refine ⟨_, rfl, rfl, _, rfl, Z14 (fun g2 => ?_) (fun g2 => keep g2 ⟨own, n11, rfl, ho1, ho2, D11, S11, hn11, C11⟩)⟩
      refine ⟨_, rfl, .inl ⟨rfl, _, SqL.of D11⟩, _, rfl, d, l, ns, n11, _, rfl, C11.F, by omega, by decide, by decide, fun q n12 H12 q0 q1 hn12 F12 b12 => ?_⟩
      obtain ⟨c, hc, hat⟩ := Z9k (xs := signs6.cps.toList) (i := q) q0 (Int.lt_of_lt_of_le q1 (by decide +kernel))
      have D12 := C11.F.lst b12 D11
      refine ⟨signs6, q, c, rfl, rfl, (by decide +kernel), hat, hd, .str w2 :: own, .str ⟨#[c]⟩, rfl, rfl, D12, by rw [List.length_cons]; omega, ?_⟩
      have hw : w2 = "op" := by
       have g' := of_decide_eq_true g2
       injection g'
      have e0 : own = [] := ho1.2.2 (by rw [hw]; decide +kernel)
      have hm2 : mn = 2 := hml ("op", 2) (by decide +kernel) hw
      exact app (.str ⟨#[c]⟩) rfl (by rw [e0, hw, hm2]; exact HdO.yes (Za2 (k := .op) (by decide +kernel) rfl (Zgk c hc) ⟨by decide, by decide⟩ (by decide +kernel))) ho1.1 ho2 D12 (C11.F.lst b12 S11) (by omega) (C11.draw b12 F12)
     clear D11 S11 C11
     rintro σ12 H12 ⟨own, n12, rfl, ho1, ho2, D12, S12, hn12, C12⟩
     refine ⟨Mh 3 Lw3, ?_, ?_⟩
     ·refine ⟨_, rfl, rfl, _, rfl, Z14 (fun g2 => ?_) (fun g2 => keep g2 ⟨own, n12, rfl, ho1, ho2, D12, S12, hn12, C12⟩)⟩
      refine ⟨_, rfl, .inl ⟨rfl, _, SqL.of D12⟩, _, rfl, _, rfl, wd, .ref cl, rfl, Z78 C12.W, d, l, cl, ns, n12, T3.map V.str, rfl, C12.F, by omega, C12.N.c, by rw [List.length_map]; exact C12.N.c1, by rw [List.length_map]; have := C12.N.c2; omega, fun v n13 H13 hv hn13 F13 b13 => ?_⟩
      obtain ⟨x, hx, rfl⟩ := List.mem_map.mp hv
      have D13 := C12.F.lst b13 D12
      refine ⟨hd, .str w2 :: own, .str x, rfl, rfl, D13, by rw [List.length_cons]; omega, ?_⟩
      have hw : w2 = "call" := by
       have g' := of_decide_eq_true g2
       injection g'
      have e0 : own = [] := ho1.2.2 (by rw [hw]; decide +kernel)
      exact app (.str x) (Z4p (C12.N.cn x hx).1) (by rw [e0, hw]; exact HdO.yes (Za2 (k := .call) (by decide +kernel) rfl (Z6c (C12.N.cn x hx)) ⟨by omega, by omega⟩ (by decide +kernel))) ho1.1 ho2 D13 (C12.F.lst b13 S12) (by omega) (C12.draw b13 F13)
     clear D12 S12 C12
     rintro σ13 H13 ⟨own, n13, rfl, ho1, ho2, D13, S13, hn13, C13⟩
     refine ⟨Mh 4 Lw4, ?_, ?_⟩
     ·refine ⟨_, rfl, rfl, _, rfl, Z14 (fun g2 => ?_) (fun g2 => keep g2 ⟨own, n13, rfl, ho1, ho2, D13, S13, hn13, C13⟩)⟩
      refine ⟨_, rfl, .inl ⟨rfl, _, SqL.of D13⟩, _, rfl, d, l, ns, n13, _, rfl, C13.F, by omega, by decide, by decide, fun q n14 H14 q0 q1 hn14 F14 b14 => ?_⟩
      have D14 := C13.F.lst b14 D13
      refine ⟨hd, .str w2 :: own, .int q, rfl, rfl, D14, by rw [List.length_cons]; omega, ?_⟩
      have hw : w2 = "again" := by
       have g' := of_decide_eq_true g2
       injection g'
      have e0 : own = [] := ho1.2.2 (by rw [hw]; decide +kernel)
      have hm2 : mn = 1 := hml ("again", 1) (by decide +kernel) hw
      exact app (.int q) rfl (by rw [e0, hw, hm2]; exact HdO.yes (Za2 (k := .again) (by decide +kernel) rfl (by show (decide (0 <= q) && decide (q <= 5)) = true; rw [decide_eq_true q0, decide_eq_true (by omega)]; rfl) ⟨by decide, by decide⟩ (by decide +kernel))) ho1.1 ho2 D14 (C13.F.lst b14 S13) (by omega) (C13.draw b14 F14)
     clear D13 S13 C13
     rintro σ14 H14 ⟨own, n14, rfl, ho1, ho2, D14, S14, hn14, C14⟩
     refine ⟨_, rfl, _, rfl, mn, rfl, by omega, by omega, Z3m (lo := 0) (n := mn.toNat) (fun j ys σc H' => ∃ (n' : Nat) (o : Option V) (r' : Int) (cs : List Th), σc = [some (.ref d), some (.ref wd), some (.ref bd), some (.int bb), o] /\ Ctx H14 H' d l wd nm lt cl bd ns n' r' T1 T2 T3 bs /\ n' <= n14 + j * cD N /\ 0 <= r' /\ r' <= r - mn /\ IsThs H' ys cs /\ cs.length = j /\ (∀ c ∈ cs, OkT N c /\ exB bs c = true) /\ (szs cs : Int) <= 8 * (j + (r - mn - r')))
      ⟨n14, none, r - mn, [], rfl, ⟨C14.F, C14.W, C14.N, C14.B, But2.refl _ _ _⟩, by omega, by omega, Int.le_refl _, .nil, rfl, (fun c hc => by cases hc), by simp [szs]⟩ ?_ ?_⟩
     ·rintro j ys σc H' hj ⟨n', o, r', cs, rfl, C', hn', hr', hr'', hcs, hcl, hca, hcz⟩
      have hmul : j * cD N <= 5 * cD N := Nat.mul_le_mul_right _ (by omega)
      have hys := IsThs.len _ hcs
      refine ⟨by omega, ?_⟩
      refine ⟨_, rfl, _, rfl, _, rfl, _, rfl, _, _, rfl, rfl, d, l, wd, nm, lt, cl, bd, ns, n', r', bb - 1, T1, T2, T3, bs, rfl, hN1, by omega, by omega, C'.F, by omega, C'.W, hr', by omega, C'.N, C'.B, by omega, hbn, fun v t n2' r2' H2' h1 o1 f1 z1 y1 y2 y3 F2' W2' b2' => ?_⟩
      refine nx hj ⟨n2', _, r2', cs ++ [t], rfl, C'.go b2' F2' W2', by rw [Nat.succ_mul]; omega, y1, by omega, IsThs.app _ (IsThs.kp (b2'.kp C'.F C'.W) hcs) (.cons h1 .nil), by rw [List.length_append, hcl]; rfl, fun c hc => ?_, ?_⟩
      ·rcases List.mem_append.mp hc with z | z
       ·exact hca c z
       ·rw [List.mem_singleton] at z; subst z; exact ⟨o1, f1⟩
      ·rw [szs_app]
       simp only [szs]
       omega
     ·rintro ys σc H' ⟨n', o, r', cs, rfl, C', hn', hr', hr'', hcs, hcl, hca, hcz⟩ q hq
      have hys := IsThs.len _ hcs
      have sq := Z01 (o := .lst ys) hq
      have D' := sq _ _ (C'.b2.kp C14.F C14.W _ _ D14 (fun _ z => by cases z))
      have hmul : mn.toNat * cD N <= 6 * cD N := Nat.mul_le_mul_right _ (by omega)
      refine ⟨hd, q, .str w2 :: own, ys, rfl, rfl, D', Z00, by rw [List.length_cons]; omega, fun r3 hr3 => ?_⟩
      have s3 := Z01 (o := .lst (.str w2 :: own ++ ys)) hr3
      refine ⟨r3, .str w2 :: own ++ ys, rfl, .inl ⟨SqL.of Z00, fun p hp => ?_⟩⟩
      have sp := Z01 (o := .tup (.str w2 :: own ++ ys)) hp
      have sA := (sq.trans s3).trans sp
      have CA := C'.same sA
      refine k (.ref p) (.tup (.at (.str w2) :: (own.map Th.at ++ cs))) n' r' _ (.tup Z00 (.cons (.at hkl) (IsThs.app _ (Za1 ho2) (IsThs.kp (Kp.of sA) hcs)))) (Za0 hnl fun c hc => (hca c hc).1) (by
        obtain ⟨p1, p2⟩ := ho1.2.1 (Znd hw2 hnl) cs (fun c hc => Z5e (hca c hc).1) (by omega)
        exact Z42 p1 hnl p2 (fun c hc => Z5e (hca c hc).1) fun c hc => (hca c hc).2) ?_ hr' (by omega) (by omega) CA.F CA.W (C14.b2.trans CA.b2)
      simp only [Th.sz, szs, szs_app, Zlk]
      omega
end
def spWorld : Sp := fun vs H Q _ => ∃ (d l : Addr) (ns : List Int) (n : Nat) (r : Int), vs = [.ref d, .int r] /\ Feed H d l ns n /\ n <= 500000000000 ∧
 ∀ (wd nm lt cl : Addr) (T1 T2 T3 : List Str) n' H', H' wd = some (.dK (Z0s nm lt cl r)) -> Nms H' nm lt cl T1 T2 T3 -> n' <= n + 100 -> Feed H' d l ns n' -> But d H H' -> Q (.ref wd) H'
section
variable {P : Program} {w : World} {K : PySem.W.Frag} {mg : Str -> Option Value} {base : Heap}
theorem scWorld : FnScope ["_law_feed_here", "_law_room", "_law_names_here", "_law_lets", "_law_k", "_law_calls"] ["_law_feed_here", "_law_room"] (Z03 Z8r) := ⟨rfl, rfl, rfl, by decide +kernel, rfl, by decide +kernel, by decide +kernel⟩
theorem Zgm {f fM fN fD fS fO fW : Addr} {fd dM dN dD dS dO dW : FuncData} (F : Fun K "_law_world" "_law_world" Z8r f fd) (U : Dr K mg fD fS fO fW dD dS dO dW) (FN : Fun K "_law_name" "_law_name" Z2m fN dN) (bN : Binds K dN ["_law_feed_here", "_law_taken"] []) (mN : mg "_law_name" = some (.ref fN))
  (FM : Fun K "_law_names" "_law_names" Z8q fM dM) (bM : Binds K dM ["_law_feed_here", "_law_many"] []) (mM : mg "_law_names" = some (.ref fM)) :
  FnOk P w K mg base CX0 5 f fd ["_law_feed_here", "_law_room"] spWorld := by
 have GD : FnOk P w K mg base CX0 1 fD dD ["_law_feed_here", "_law_many"] spDraw := Z37 U.D U.T
 have GO : FnOk P w K mg base CX0 2 fO dO ["_law_feed_here", "_law_some"] spOne := Z4n U.O U
 have GN : FnOk P w K mg base CX0 3 fN dN ["_law_feed_here", "_law_taken"] spLawName := Zbg FN U
 have GM : FnOk P w K mg base CX0 4 fM dM ["_law_feed_here", "_law_many"] spNames := Zgg FM U FN bN mN
 refine F.ok scWorld (fun vs H Q E h => ?_) (fun cdv A outer s H vs Q E hr h => ?_)
 ·obtain ⟨d, l, ns, n, r, rfl, _⟩ := h
  rfl
 ·obtain ⟨d, l, ns, n, r, rfl, F0, hn, k⟩ := h
  have hsz : sizeLine = 16777216 := sizeLine_eq
  have hu := Z9j hr
  have hr1 : Room 1 _ := hr.mono (by decide)
  have hr2 : Room 2 _ := hr.mono (by decide)
  have hr3 : Room 3 _ := hr.mono (by decide)
  have hr4 : Room 4 _ := hr.mono (by decide)
  refine' ⟨?tt, ?body, ?fin⟩
  case body =>
   refine' Z04 ?s1 ?r1
   case s1 => exact Z4v hu (pv 0) Z09 (Z2n Z1p (Z07 GD hr1 (by rfl) U.mD U.D.kp U.bD .nil Z0f (Z0j (pv 0) (Z1y Z05 Z02))) Z05 (Z0k _)) rfl
   case r1 =>
    refine' Z04 ?s2 ?r2
    case s2 => exact Z0c (i := 2) scWorld.nd rfl (Or.inl rfl) (Z07 GM hr4 (by rfl) mM FM.kp bM .nil Z0f (Z0j (pv 0) (Z08 (Z0l Z1z Z05 (Z07 GD hr1 (by rfl) U.mD U.D.kp U.bD .nil Z0f (Z0j (pv 0) (Z1y Z05 Z02)))) Z02)))
    case r2 =>
     refine' Z04 ?s3 ?r3
     case s3 => exact Z0c (i := 3) scWorld.nd rfl (Or.inl rfl) (Z0y (Z08 (Z18 Z20 (pv 2) Z05 (fun _ _ => rfl)) Z02))
     case r3 =>
      refine' Z04 ?s4 ?r4
      case s4 =>
       refine' Z44 PassesOwn.never rfl (Z19 (by rfl) U.T.range (Z1y Z05 Z02)) (Z0o (i := 4) scWorld.nd rfl (Or.inl rfl)) (Z06 ?b)
       case b => exact Z31 (Z7j PySem.F.plainAttrs_list PySem.F.slot_list_append PySem.F.type_list_append Z2d (pv 3) (Z6h (Z07 GN hr3 (by rfl) mN FN.kp bN .nil Z0f (Z0j (pv 0) (Z08 (Z0l Z2e (pv 2) (pv 3)) Z02))) Z02))
      case r4 =>
       refine' Z04 ?s5 ?r5
       case s5 => exact Z0c (i := 5) scWorld.nd rfl (Or.inl rfl) (Z0y (Z6h (Z07 GN hr3 (by rfl) mN FN.kp bN .nil Z0f (Z0j (pv 0) (Zkn (Z0y Z02) Z02))) (Z6h (Z07 GO hr2 (by rfl) U.mO U.O.kp U.bO .nil Z0f (Z0j (pv 0) (Z0j (pv 2) Z02))) Z02)))
       case r5 =>
        refine' Z06 ?s6
        case s6 => exact Z0d (Z7l (Z25 Z09 (pv 2) (Z25 Z09 (pv 3) (Z25 Z09 (pv 5) (Z25 Z09 (pv 1) Z7k)))) rfl rfl (by intro z; cases z) (by decide))
  case fin =>
   refine ⟨_, rfl, d, l, ns, n, _, rfl, F0, by omega, by decide, by decide, fun q0 n1 H1 _ _ hn1 F1 b1 => ⟨rfl, ?_⟩⟩
   obtain ⟨⟨z1, sb1, hd1⟩, hl1, hz1⟩ := id F1
   refine ⟨_, rfl, d, _, rfl, Ze0 hd1, ?_⟩
   have F2 := F1.but (m := n1) (But.upd (o := .dK (Z0v l n1 z1 (decide (V.int q0 = V.int 0))))) Z00
   have b2 := b1.trans (But.upd (d := d) (H := H1) (o := .dK (Z0v l n1 z1 (decide (V.int q0 = V.int 0)))))
   generalize upd H1 d (.dK (Z0v l n1 z1 (decide (V.int q0 = V.int 0)))) = H2 at F2 b2 ⊢
   refine ⟨_, rfl, _, rfl, d, l, ns, n1, _, rfl, F2, by omega, by decide, by decide, fun q n3 H3 q0' q1 hn3 F3 b3 => ⟨_, _, rfl, rfl, ?_⟩⟩
   refine ⟨d, l, ns, n3, (1 + q).toNat, by rw [Int.toNat_of_nonneg (by omega)]; rfl, F3, by omega, by omega, fun nm T1 n4 H4 L4 hT1 hall1 hn4 F4 _ b4 => ?_⟩
   have b24 := (b2.trans b3).trans b4
   obtain ⟨t0, T1', rfl⟩ : ∃ t0 T', T1 = t0 :: T' := by
    cases T1 with
    | nil => simp only [List.length_nil] at hT1; omega
    | cons t0 T' => exact ⟨t0, T', rfl⟩
   have h0 := hall1 t0 (List.mem_cons_self ..)
   refine ⟨_, rfl, nm, _, 0, .str t0, rfl, rfl, SqL.of L4, Z1w _ _, (by show 1 <= sizeLine; decide), fun lt hlt => ?_⟩
   have sl := Z01 (o := .lst [.str t0]) hlt
   have nolt : ∀ {a : Addr} {o : HO}, H4 a = some o -> lt ≠ a := fun {a o} e z => by rw [<- z, hlt] at e; cases e
   have hltH : H lt = none := by
    cases e : H lt with
    | none => rfl
    | some o =>
     exfalso
     by_cases h1 : lt = d
     ·obtain ⟨⟨z, sb, hd'⟩, _, _⟩ := F4
      rw [h1, hd'] at hlt
      cases hlt
     ·rw [b24 lt o e h1] at hlt; cases hlt
   refine ⟨3, rfl, by decide, by decide, Z2s (lo := 0) (n := 3) (fun i σ H' => ∃ (T2 : List Str) (n' : Nat) (o : Option V), σ = [some (.ref d), some (.int r), some (.ref nm), some (.ref lt), o, none] /\ H' lt = some (.lst (T2.map V.str)) /\ T2.length = i + 1 /\ (∀ t ∈ T2, NmW t) /\ H' nm = some (.lst ((t0 :: T1').map V.str)) /\ n' <= n4 + 8 * i /\ Feed H' d l ns n' /\ But d H H')
    ⟨[t0], n4, none, rfl, Z00, rfl, (fun t ht => by rw [List.mem_singleton] at ht; subst ht; exact h0), sl _ _ L4, by omega, F4.same sl, b24.trans (But.of sl)⟩ ?_ ?_⟩
   ·rintro i σ H5 hi ⟨T2, n5, o, rfl, L5, hT2, hall2, M5, hn5, F5, b5⟩
    refine ⟨_, rfl, .inl ⟨rfl, _, SqL.of L5⟩, _, rfl, _, rfl, _, rfl, nm, lt, (t0 :: T1').map V.str, T2.map V.str, rfl, rfl, M5, L5, by rw [List.length_map, List.length_map]; omega, fun c hc => ?_⟩
    have sc := Z01 (o := .lst ((t0 :: T1').map V.str ++ T2.map V.str)) hc
    refine ⟨d, l, c, ns, n5, (t0 :: T1') ++ T2, rfl, F5.same sc, by omega, by rw [Z00, List.map_append], by rw [List.length_append]; omega, fun t ht => ?_, fun t n6 H6 ht _ hw hn6 F6 b6 => ?_⟩
    ·rcases List.mem_append.mp ht with z | z
     ·exact (hall1 t z).1
     ·exact (hall2 t z).1
    ·have L6 := (F5.same sc).lst b6 (sc _ _ L5)
     have M6 := (F5.same sc).lst b6 (sc _ _ M5)
     refine ⟨lt, T2.map V.str, .str t, rfl, rfl, L6, by rw [List.length_map]; omega, ?_⟩
     refine ⟨T2 ++ [t], n6, _, rfl, by rw [Z00, List.map_append]; rfl, by rw [List.length_append, hT2]; rfl, fun u hu => ?_, ?_, by omega, ?_, ?_⟩
     ·rcases List.mem_append.mp hu with z | z
      ·exact hall2 u z
      ·rw [List.mem_singleton] at z; subst z; exact ⟨ht, hw⟩
     ·rw [Z0a (nolt L4).symm]; exact M6
     ·obtain ⟨⟨z, sb, hd⟩, hls, hz⟩ := id F6
      exact ⟨⟨z, sb, by rw [Z0a (Z4r L6 hd (by intro q; cases q)).symm]; exact hd⟩, by rw [Z0a (nolt F4.ls).symm]; exact hls, hz⟩
     ·intro b ob e hb
      rw [Z0a (Z0h e hltH)]
      exact b6 b ob (sc _ _ (b5 b ob e hb)) hb
   ·rintro σ H5 ⟨T2, n5, o, rfl, L5, hT2, hall2, M5, hn5, F5, b5⟩
    refine ⟨_, rfl, Nat.zero_le _, fun c hc => ?_⟩
    have sc := Z01 (o := .lst []) hc
    refine ⟨d, l, c, ns, n5, [], rfl, F5.same sc, by omega, Z00, by decide, (fun t ht => by cases ht), fun x n6 H6 hx _ hxw hn6 F6 b6 => ?_⟩
    have L6 := (F5.same sc).lst b6 (sc _ _ L5)
    have M6 := (F5.same sc).lst b6 (sc _ _ M5)
    refine ⟨_, rfl, _, rfl, d, l, nm, ns, n6, (t0 :: T1').map V.str, rfl, F6, by omega, M6, by rw [List.length_map, List.length_cons]; omega, by rw [List.length_map]; omega, fun v n7 H7 hv hn7 F7 b7 => ⟨(by show 2 <= sizeLine; decide), fun cl hcl => ?_⟩⟩
    obtain ⟨y, hy, rfl⟩ := List.mem_map.mp hv
    have L7 := F6.lst b7 L6
    have M7 := F6.lst b7 M6
    have sl2 := Z01 (o := .lst [.str x, .str y]) hcl
    intro wd hwd
    have sw := Z01 (o := .dK []) hwd
    refine ⟨_, rfl, _, rfl, _, rfl, _, rfl, ?_⟩
    refine ⟨Z00, Z0s nm lt cl r, rfl, by show 4 <= 15; decide, ?_⟩
    have em : Z2k [] (Z0s nm lt cl r) = Z0s nm lt cl r := by with_unfolding_all rfl
    rw [em]
    have sE : Same (upd H7 cl (.lst [.str x, .str y])) (upd (upd (upd H7 cl (.lst [.str x, .str y])) wd (.dK [])) wd (.dK (Z0s nm lt cl r))) := fun b ob e => by
     rw [Z0a (Z0h e hwd), Z0a (Z0h e hwd)]
     exact e
    refine k wd nm lt cl (t0 :: T1') T2 [x, y] n7 _ Z00 ⟨sE _ _ (sl2 _ _ M7), sE _ _ (sl2 _ _ L7), sE _ _ Z00, by rw [List.length_cons]; omega, by omega, by omega, by show 1 <= 2; decide, by show 2 <= 10; decide, hall1, hall2, fun t ht => ?_⟩ (by omega) ((F7.same sl2).same sE) (((b5.trans (But.of sc)).trans (b6.trans b7)).trans ((But.of sl2).trans (But.of sE)))
    simp only [List.mem_cons, List.not_mem_nil, or_false] at ht
    rcases ht with rfl | rfl
    ·exact ⟨hx, hxw⟩
    ·exact hall1 _ hy
end
def Ze9 (N : Nat) : Sp := fun vs H Q _ => ∃ (v : V) (t : Th), vs = [v] /\ IsTh H v t /\ Th.sz t <= 100000 /\ L2.dp t <= N /\ ∀ H', Same H H' -> Q (.bl true) H'
section
variable {P : Program} {w : World} {K : PySem.W.Frag} {mg : Str -> Option Value} {base : Heap}
theorem scRight : FnScope ["_law_thing", "_law_found"] ["_law_thing"] (Z03 Z8s) := ⟨rfl, rfl, rfl, by decide +kernel, rfl, by decide +kernel, by decide +kernel⟩
theorem Zgn {f fE fI : Addr} {fd dE dI : FuncData} (F : Fun K "_law_right" "_law_right" Z8s f fd) (T : TxtT mg) (N : Nat) (hN : N <= 900) (GE : FnOk P w K mg base CX0 5 fE dE ["thing"] (Z9s N)) (FE : Fun K "is_expression" "is_expression" Z54 fE dE) (bE : Binds K dE ["thing"] []) (mE : mg "is_expression" = some (.ref fE))
  (GI : FnOk P w K mg base CX0 (N + 1 + 3) fI dI ["_law_thing", "_law_bound"] (Zl9 (N + 1))) (FI : Fun K "_law_is" "_law_is" Z62 fI dI) (bI : Binds K dI ["_law_thing", "_law_bound"] []) (mI : mg "_law_is" = some (.ref fI)) : FnOk P w K mg base CX0 (N + 7) f fd ["_law_thing"] (Ze9 N) := by
 refine F.ok scRight (fun vs H Q E h => ?_) (fun cdv A outer s H vs Q E hr h => ?_)
 ·obtain ⟨v, t, rfl, _⟩ := h
  rfl
 ·obtain ⟨v, t, rfl, ht, hz, hd, k⟩ := h
  have hr5 : Room 5 _ := hr.mono (by omega)
  have hrN : Room (N + 1 + 3) _ := hr.mono (by omega)
  refine' ⟨?tt, ?body, ?fin⟩
  case body =>
   refine' Z04 ?s1 (Z06 ?s2)
   case s1 => exact Z0c (i := 1) scRight.nd rfl (Or.inl rfl) (Z07 GE hr5 (by rfl) mE FE.kp bE .nil Z0f (Z0j (pv 0) Z02))
   case s2 =>
    refine' Z0d (Z2r ?a (Z39 (Z2n Z1p (pv 1) ?b (Z0k _))))
    case a => exact Z0i Z0t (by rfl) T.isi (by decide +kernel) (Z0j (pv 1) (Z0j (Z1i (v := .ty "bool") (by rfl) T.bl (by decide +kernel) rfl) Z02))
    case b => exact Z07 GI hrN (by rfl) mI FI.kp bI .nil Z0f (Z0j (pv 0) (Z08 (Z0y Z02) Z02))
  case fin =>
   refine ⟨_, rfl, v, t, rfl, ht, hz, hd, fun H1 s1 => ?_⟩
   refine ⟨_, rfl, _, _, .type "bool", true, rfl, .bl _, Z7q _ _, _, rfl, Z34 ⟨_, rfl, _, rfl, Nat.zero_le _, fun e he => ?_⟩⟩
   have s2 := Z01 (o := .lst []) he
   refine ⟨v, e, t, [], rfl, IsTh.kp (Kp.of (s1.trans s2)) ht, by omega, hz, Z00, Nat.zero_le _, (fun x hx => by cases hx), by show N + 1 + 0 <= 1000; omega, fun H3 s3 => ⟨rfl, ?_⟩⟩
   rw [decide_eq_true rfl]
   exact k _ ((s1.trans s2).trans s3)
end
theorem Zgo {X : Cx} {K : PySem.W.Frag} {x y : Str} {px py pos : Pos} {k i j : Nat} (hK : X.K = K) (hc : X.calm = true) (hN : X.N.Nodup) (hi : X.N[i]? = some x) (hx : Loc X.env.scope x) (hj : X.N[j]? = some y) (hy : Loc X.env.scope y)
  (hf : X.fn x = true ∨ X.env.scope.names.lookup x = some .local) (hg : X.fn y = true ∨ X.env.scope.names.lookup y = some .local) :
  PG X (.Tuple [.Name x px, .Name y py] k pos) (Znm K 2 (Zi4 (Z83 i) (Zi4 (Z83 j) gNil))) := by
 subst hK
 exact Z6o hc (Z1e (Z0o hN hi hx hf) (Z1e (Z0o hN hj hy hg) Z4t))
mutual
theorem Zht : ∀ t : Th, cnt t <= Th.sz t
 | .tup xs => by rw [cnt, Th.sz]; have := Za3 xs; omega
 | .at _ => by simp [cnt]
 | .lst _ => by simp [cnt]
theorem Za3 : ∀ ts : List Th, Z60 ts <= szs ts
 | [] => by simp [Z60]
 | x :: xs => by rw [Z60, szs]; have := Zht x; have := Za3 xs; omega
end
def Z3y : Th -> List Nat -> Option Th
 | t, [] => some t
 | t, i :: p => match t with
  | .tup xs => ((Z0r xs)[i]?).bind fun k => Z3y k p
  | _ => none
theorem Zbh : ∀ (ks : List Th) (j : Nat), ∀ q ∈ Z71 j ks, ∃ (i : Nat) (p : List Nat) (k : Th), q.1 = (j + i) :: p /\ ks[i]? = some k /\ (p, q.2) ∈ Z6i k := by
 intro ks
 induction ks with
 | nil => intro j q hq; cases hq
 | cons k ks ih =>
  intro j q hq
  rw [Z71] at hq
  rcases List.mem_append.mp hq with z | z
  ·obtain ⟨r, hr, rfl⟩ := List.mem_map.mp z
   exact ⟨0, r.1, k, rfl, rfl, hr⟩
  ·obtain ⟨i, p, k', e1, e2, e3⟩ := ih (j + 1) q z
   refine ⟨i + 1, p, k', ?_, by simpa using e2, e3⟩
   rw [e1]
   congr 1
   omega
theorem Zll : ∀ (n : Nat) (t : Th), OkT n t -> ∀ q ∈ Z6i t, Z3y t q.1 = some q.2 := by
 intro n
 induction n with
 | zero => intro t h; exact h.elim
 | succ n ih =>
  intro t h q hq
  obtain ⟨w, ts, rfl, _, hk⟩ := h
  rw [Z6i, Z52] at hq
  rcases List.mem_cons.mp hq with z | z
  ·subst z; rw [Z3y]
  ·obtain ⟨i, p, k, e1, e2, e3⟩ := Zbh _ 0 q z
   rw [e1, Nat.zero_add, Z3y, e2]
   have hm := List.mem_of_getElem? e2
   have := ih k (Zhc hk hm) (p, q.2) e3
   exact this
theorem Zhu : ∀ (n : Nat) (t : Th), OkT n t -> ∀ q ∈ Z6i t, OkT n q.2 /\ Th.sz q.2 <= Th.sz t /\ q.1.length <= n := by
 intro n
 induction n with
 | zero => intro t h; exact h.elim
 | succ n ih =>
  intro t h q hq
  obtain ⟨w, ts, rfl, hl, hk⟩ := h
  rw [Z6i, Z52] at hq
  rcases List.mem_cons.mp hq with z | z
  ·subst z; exact ⟨⟨w, ts, rfl, hl, hk⟩, Nat.le_refl _, Nat.zero_le _⟩
  ·obtain ⟨i, p, k, e1, e2, e3⟩ := Zbh _ 0 q z
   have hm := List.mem_of_getElem? e2
   have h1 := ih k (Zhc hk hm) (p, q.2) e3
   have h2 : k ∈ (Th.at (.str w) :: ts) := (List.mem_filter.mp hm).1
   have h3 := Z6z _ k h2
   refine ⟨h1.1.up, ?_, by rw [e1, List.length_cons]; have := h1.2.2; simp only [] at this; omega⟩
   rw [Th.sz]
   have := h1.2.1
   simp only [] at this
   omega
def spLawParts : Sp := fun vs H Q _ => ∃ (H0 : Hp) (v : V) (w0 : Str) (ts : List Th), vs = [v] /\ Same H0 H /\ IsTh H0 v (.tup (.at (.str w0) :: ts)) /\ ts.length <= 1000000 ∧
 ∀ (p : Addr) (ws : List V) H', Same H H' -> H p = none -> H' p = some (.lst ws) -> IsThs H0 ws (Z0r ts) -> Q (.ref p) H'
def pw (q : List Nat × Th) : Th := .tup [Zkv q.1, q.2]
abbrev pws (l : List (List Nat × Th)) : List Th := l.map pw
def Z79 (N : Nat) : Sp := fun vs H Q _ => ∃ (v : V) (t : Th), vs = [v] /\ IsTh H v t /\ OkT N t /\ N <= 1000 /\ Th.sz t <= 100000 ∧
 ∀ (p : Addr) (ws : List V) H', Same H H' -> H' p = some (.lst ws) -> IsThs H' ws (pws (Z6i t)) -> Q (.ref p) H'
section
variable {P : Program} {w : World} {K : PySem.W.Frag} {mg : Str -> Option Value} {base : Heap}
theorem Zc9 : FnScope ["_law_e"] ["_law_e"] (Z03 Z2g) := ⟨rfl, rfl, rfl, by decide +kernel, rfl, by decide +kernel, by decide +kernel⟩
theorem Z6d {f : Addr} {fd : FuncData} (F : Fun K "_law_parts" "_law_parts" Z2g f fd) (T : TxtT mg) (KI : Kits K) : FnOk P w K mg base CX0 1 f fd ["_law_e"] spLawParts := by
 refine F.ok Zc9 (fun vs H Q E h => ?_) (fun cdv A outer s H vs Q E hr h => ?_)
 ·obtain ⟨H0, v, w0, ts, rfl, _⟩ := h
  rfl
 ·obtain ⟨H0, v, w0, ts, rfl, sh, hv, hz, k⟩ := h
  refine ⟨_, Z06 (Z0d (Z21 (N' := ["_law_one_here"]) (src := [none]) rfl (Z0m (Z03 Z2g) rfl ["_law_e"] rfl (by decide +kernel)) (Z84 (Z16 Z5v (pv 0) (Z1q Z05) Z1u))
   (fun cl C ex s0 H0 => ⟨Z0o (i := 0) (nd1 _) rfl (Or.inl rfl), Z4y (Z2c (Z0i (id := "isinstance") (Z2l (K := K) rfl) (by rfl) T.isi (by decide +kernel) (Z0j (pv 0) (Z0j (Z1i (v := .ty "tuple") (by rfl) T.tup (by decide +kernel) rfl) Z02)))), pv 0⟩))), ?_⟩
  obtain ⟨a, vs, rfl, a1, a2⟩ := Z1v hv
  cases a2 with
  | @cons x xs _ _ c1 c2 =>
   refine ⟨_, rfl, _, rfl, a, x :: xs, rfl, sh _ _ a1, fun p H1 s1 hp => ?_⟩
   rw [Zmx] at hp
   have hl := IsThs.len _ c2
   refine ⟨p, rfl, ⟨_, SqT.of hp⟩, Z4a (K := K) (a := p) (xs := xs) (fun i ys σc H' => ∃ o, σc = [o] /\ IsThs H0 ys ((ts.take i).filter isTup) /\ ys.length <= i /\ H' = H1) ⟨none, rfl, by rw [List.take_zero]; exact .nil, Nat.le_refl _, rfl⟩ (fun i ys σc H' ⟨_, _, _, _, e⟩ => by rw [e]; exact SqT.of hp) ?_ ?_⟩
   ·rintro i x ys σc H' hx hi ⟨o, rfl, hys, hyl, rfl⟩
    obtain ⟨t, ht, h1⟩ := Z22 _ c2 hx
    have hnext : (ts.take (i + 1)).filter isTup = (ts.take i).filter isTup ++ (if isTup t = true then [t] else []) := Z50 _ ht
    refine ⟨by have : sizeLine = 16777216 := sizeLine_eq; omega, ?_⟩
    refine ⟨_, rfl, _, _, _, _, rfl, Z35 (IsTh.kp (Kp.of (sh.trans s1)) h1), KI.tup h1, _, rfl, Z14 (fun g => ?_) (fun g => ?_)⟩
    ·refine ⟨_, rfl, nx hi ⟨_, rfl, ?_, by rw [List.length_append]; show ys.length + 1 <= i + 1; omega, rfl⟩⟩
     rw [hnext, if_pos g]
     exact IsThs.app _ hys (.cons h1 .nil)
    ·refine nx hi ⟨_, rfl, ?_, by omega, rfl⟩
     rw [hnext, if_neg g, List.append_nil]
     exact hys
   ·rintro ys σc H' ⟨o, rfl, hys, hyl, rfl⟩ q hq
    rw [List.take_of_length_le (by omega)] at hys
    have sA := s1.trans (Z01 (o := .lst ys) hq)
    exact k q ys _ sA (Z5x s1 hq) Z00 hys
end
theorem Zlm : (["_law_k", "_law_path", "_law_other"] : List Str).Nodup := by decide +kernel
theorem Zjh : ∀ (ks : List Th) (k : Th), k ∈ ks -> cnt k <= Z60 ks := by
 intro ks
 induction ks with
 | nil => intro k h; cases h
 | cons q ks ih =>
  intro k h
  rw [Z60]
  rcases List.mem_cons.mp h with z | z
  ·subst z; omega
  ·have := ih k z; omega
theorem Zgp : ∀ (ks : List Th) (i : Nat), (Z71 i ks).length = Z60 ks := by
 intro ks
 induction ks with
 | nil => intro i; simp [Z71, Z60]
 | cons k ks ih => intro i; rw [Z71, List.length_append, List.length_map, Z61, ih, Z60]
theorem Zea : ∀ (ks : List Th) (i : Nat), Z60 (ks.take i) <= Z60 ks := by
 intro ks
 induction ks with
 | nil => intro i; simp
 | cons k ks ih =>
  intro i
  cases i with
  | zero => simp [Z60]
  | succ i => rw [List.take_succ_cons, Z60, Z60]; have := ih i; omega
section
variable {P : Program} {w : World} {K : PySem.W.Frag} {mg : Str -> Option Value} {base : Heap}
theorem scAllPaths : FnScope ["_law_e", "_law_found", "_law_k", "_law_one_here"] ["_law_e"] (Z03 Z2w) := ⟨rfl, rfl, rfl, by decide +kernel, rfl, by decide +kernel, by decide +kernel⟩
theorem Za4 {f fP : Addr} {fd dP : FuncData} (F : Fun K "_law_all_paths" "_law_all_paths" Z2w f fd) (b : Binds K fd ["_law_e"] []) (m : mg "_law_all_paths" = some (.ref f)) (T : TxtT mg) (KI : Kits K) (henum : mg "enumerate" = none)
  (FP : Fun K "_law_parts" "_law_parts" Z2g fP dP) (bP : Binds K dP ["_law_e"] []) (mP : mg "_law_parts" = some (.ref fP)) : ∀ N, FnOk P w K mg base CX0 (N + 2) f fd ["_law_e"] (Z79 N) := by
 have GP : FnOk P w K mg base CX0 1 fP dP ["_law_e"] spLawParts := Z6d FP T KI
 intro N
 induction N with
 | zero =>
  refine F.ok scAllPaths (fun vs H Q E h => ?_) (fun cdv A outer s H vs Q E hr h => ?_)
  ·obtain ⟨v, t, rfl, _⟩ := h
   rfl
  ·obtain ⟨v, t, rfl, _, h, _⟩ := h
   exact h.elim
 | succ N ih =>
  refine F.ok scAllPaths (fun vs H Q E h => ?_) (fun cdv A outer s H vs Q E hr h => ?_)
  ·obtain ⟨v, t, rfl, _⟩ := h
   rfl
  ·obtain ⟨v, t, rfl, hv, hok, hN, hz, k⟩ := h
   have hsz : sizeLine = 16777216 := sizeLine_eq
   have hr1 : Room 1 _ := hr.mono (by omega)
   refine' ⟨?tt, ?body, ?fin⟩
   case body =>
    refine' Z04 ?s1 (Z04 ?s2 (Z06 ?s3))
    case s1 => exact Z0c (i := 1) scAllPaths.nd rfl (Or.inl rfl) (Z0y (Zev (Z12 (Zev (Z12 Z02) (Z0j (pv 0) Z02))) Z02))
    case s2 =>
     refine' Z44 PassesOwn.never rfl (Zil (by rfl) henum (Z6h (Z07 GP hr1 (by rfl) mP FP.kp bP .nil Z0f (Z0j (pv 0) Z02)) Z02)) ?g (Z06 ?b1)
     case g => exact Z6o rfl (Z1e (Z0o (i := 2) scAllPaths.nd rfl (Or.inr rfl)) (Z1e (Z0o (i := 3) scAllPaths.nd rfl (Or.inl rfl)) Z4t))
     case b1 =>
      refine' Z0c (i := 1) scAllPaths.nd rfl (Or.inl rfl) (Z0l Z2e (pv 1) ?c)
      case c =>
       refine' Z21 (N' := ["_law_k", "_law_path", "_law_other"]) (src := [some 2, none, none]) ?k1 ?k5 ?k6 ?k7
       case k1 => rfl
       case k5 => exact Z0m (Z03 Z2w) rfl ["_law_e", "_law_found", "_law_k", "_law_one_here"] rfl (by decide +kernel)
       case k6 => exact Z4u (Z07 ih hr (by rfl) m F.kp b .nil Z0f (Z0j (pv 3) Z02))
       case k7 =>
        intro cl C ex s0 H0
        refine' ⟨?g1, ?g2, ?g3⟩
        case g1 => exact Zgo (K := K) (i := 1) (j := 2) rfl rfl Zlm rfl (Or.inl rfl) rfl (Or.inl rfl) (Or.inr rfl) (Or.inr rfl)
        case g2 => exact Z2o
        case g3 => exact Z12 (Z08 (Z0l Z5w (Z12 (Z0j (pv 0) Z02)) (pv 1)) (Z0j (pv 2) Z02))
    case s3 => exact Z0d (pv 1)
   case fin =>
    obtain ⟨w0, ts, rfl, hlet, hkid⟩ := hok
    have hxs : Th.sz (.tup (.at (.str w0) :: ts)) = 1 + (1 + szs ts) := by simp only [Th.sz, szs]
    have hxl := Z1b ts
    have hkl : (Z0r ts).length <= 100000 := by
     have h1 := List.length_filter_le isTup ts
     show (ts.filter isTup).length <= _
     omega
    have hcn : Z60 (Z0r ts) <= 100000 := by
     have h1 := Zda ts
     have h2 := Za3 ts
     omega
    have eall : Z6i (.tup (.at (.str w0) :: ts)) = ([], .tup (.at (.str w0) :: ts)) :: Z71 0 (Z0r ts) := by rw [Z6i, Z52, Z1c]
    refine ⟨Nat.zero_le _, fun e0 he0 => ⟨_, rfl, (by show 2 <= sizeLine; decide), fun p0 hp0 => ⟨(by show 1 <= sizeLine; decide), fun f0 hf0 => ?_⟩⟩⟩
    have sa := Z01 (o := .tup []) he0
    have sb := Z01 (o := .tup [.ref e0, v]) hp0
    have sc := Z01 (o := .lst [.ref p0]) hf0
    have sI := (sa.trans sb).trans sc
    have hv1 := IsTh.kp (Kp.of sI) hv
    have E1 := sc _ _ (sb _ _ (Z00 (H := H) (a := e0) (o := .tup [])))
    have P1 := sc _ _ (Z00 (H := upd H e0 (.tup [])) (a := p0) (o := .tup [.ref e0, v]))
    have F1 : upd (upd (upd H e0 (.tup [])) p0 (.tup [.ref e0, v])) f0 (.lst [.ref p0]) f0 = some (.lst [.ref p0]) := Z00
    generalize upd (upd (upd H e0 (.tup [])) p0 (.tup [.ref e0, v])) f0 (.lst [.ref p0]) = H1 at sI hv1 E1 P1 F1 ⊢
    refine ⟨_, rfl, _, v, w0, ts, rfl, Same.refl _, hv1, by omega, fun p ws H2 s2 hp2n hp2 hws => ?_⟩
    have hl := IsThs.len _ hws
    refine ⟨p, rfl, .inl ⟨⟨_, SqL.of hp2⟩, Zdb (K := K) (a := p) (xs := ws) (fun i σ H' => ∃ (fl : Addr) (fs : List V) (o2 o3 : Option V), σ = [some v, some (.ref fl), o2, o3] /\ Same H2 H' /\ H' fl = some (.lst fs) /\ i <= ws.length /\ IsThs H' fs (pws (([], .tup (.at (.str w0) :: ts)) :: Z71 0 ((Z0r ts).take i))))
     ⟨f0, [.ref p0], none, none, rfl, Same.refl _, s2 _ _ F1, Nat.zero_le _, ?_⟩ (fun i σ H' _ ⟨_, _, _, _, _, e, _⟩ => SqL.of (e _ _ hp2)) ?_ ?_⟩⟩
    ·rw [List.take_zero]
     exact .cons (.tup (s2 _ _ P1) (.cons (.tup (s2 _ _ E1) .nil) (.cons (IsTh.kp (Kp.of s2) hv1) .nil))) .nil
    ·rintro i x σ H3 Tt hx ⟨fl, fs, o2, o3, rfl, s3, L3, hi, hfs⟩ hT
     obtain ⟨kd, hk, h1⟩ := Z22 _ hws hx
     have hkm := List.mem_of_getElem? hk
     have hkm' : kd ∈ ts /\ isTup kd = true := List.mem_filter.mp hkm
     have hks := Z6z ts kd hkm'.1
     have hck := Zjh _ kd hkm
     have sT := Z01 (o := .tup [.int (i : Nat), x]) hT
     have hil : i < (Z0r ts).length := (List.getElem?_eq_some_iff.mp hk).1
     refine ⟨Tt, [.int (i : Nat), x], rfl, SqT.of Z00, rfl, _, _, rfl, _, _, rfl, rfl, ?_⟩
     refine ⟨_, rfl, _, rfl, x, kd, rfl, IsTh.kp (Kp.of ((s2.trans s3).trans sT)) h1, hkid kd hkm'.1 hkm'.2, by omega, by omega, fun p4 ws4 H4 s4 hp4 hws4 => ?_⟩
     have hl4 := IsThs.len _ hws4
     rw [List.length_map, Z61] at hl4
     refine ⟨p4, rfl, ⟨_, SqL.of hp4⟩, Z4b (K := K) (a := p4) (xs := ws4) (fun j ys σc H' => ∃ o o', σc = [some (.int (i : Nat)), o, o'] /\ Same H4 H' /\ ys.length = j /\ IsThs H' ys (pws (((Z6i kd).take j).map fun q => (i :: q.1, q.2))))
      ⟨none, none, rfl, Same.refl _, rfl, by rw [List.take_zero]; exact .nil⟩ (fun j ys σc H' ⟨_, _, _, e, _⟩ => SqL.of (e _ _ hp4)) ?_ ?_⟩
     ·rintro j y ys σc H' hy hj ⟨o, o', rfl, s5, hyl, hys⟩
      obtain ⟨u, hu, h5⟩ := Z22 _ hws4 hy
      rw [List.getElem?_map] at hu
      obtain ⟨q, hq, rfl⟩ : ∃ q, (Z6i kd)[j]? = some q /\ pw q = u := by
       cases e : (Z6i kd)[j]? with
       | none => rw [e] at hu; cases hu
       | some q => rw [e] at hu; exact ⟨q, rfl, by simpa using hu⟩
      have hqo := Zhu N kd (hkid kd hkm'.1 hkm'.2) q (List.mem_of_getElem? hq)
      obtain ⟨ay, vy, rfl, hay, hvy⟩ := Z1v (IsTh.kp (Kp.of s5) h5)
      cases hvy with
      | @cons v1 _ _ _ c1 c2 =>
       cases c2 with
       | @cons v2 _ _ _ c3 c4 =>
        cases c4
        obtain ⟨ap, pvs, rfl, hap, hpv⟩ := Z1v c1
        have hpvl := IsThs.len _ hpv
        rw [List.length_map] at hpvl
        refine ⟨by omega, ay, _, rfl, SqT.of hay, rfl, _, _, rfl, _, _, rfl, rfl, ?_⟩
        refine ⟨_, rfl, (by show 1 <= sizeLine; decide), fun q1 hq1 => ?_⟩
        have sq1 := Z01 (o := .tup [.int (i : Nat)]) hq1
        refine ⟨_, rfl, q1, ap, [.int (i : Nat)], pvs, rfl, rfl, Z00, sq1 _ _ hap, by simp only [List.length_singleton]; omega, fun p2 H9 s9 hp2' => ?_⟩
        refine ⟨_, rfl, (by show 2 <= sizeLine; decide), fun q3 hq3 => ?_⟩
        have sq3 := Z01 (o := .tup [.ref p2, v2]) hq3
        have sA := (sq1.trans s9).trans sq3
        refine nx hj ⟨_, _, rfl, s5.trans sA, by rw [List.length_append, hyl]; rfl, ?_⟩
        have e1 : ((Z6i kd).take (j + 1)) = (Z6i kd).take j ++ [q] := by rw [List.take_add_one, hq]; rfl
        unfold pws
        rw [e1, List.map_append, List.map_append]
        refine IsThs.app _ (IsThs.kp (Kp.of sA) hys) (.cons (.tup Z00 (.cons (.tup (sq3 _ _ hp2') ?_) (.cons (IsTh.kp (Kp.of sA) c3) .nil))) .nil)
        exact .cons (.at rfl) (IsThs.kp (Kp.of sA) hpv)
     ·rintro ys σc H' ⟨o, o', rfl, s5, hyl, hys⟩ l hl'
      rw [List.take_of_length_le (by rw [Z61]; omega)] at hys
      have sl := Z01 (o := .lst ys) hl'
      have sA := ((sT.trans s4).trans s5).trans sl
      have hfl := IsThs.len _ hfs
      rw [List.length_map, List.length_cons, Zgp] at hfl
      have hct := Zea (Z0r ts) i
      refine ⟨fl, l, fs, ys, rfl, rfl, sA _ _ L3, Z00, by omega, fun r hr' => ?_⟩
      have sr := Z01 (o := .lst (fs ++ ys)) hr'
      refine ⟨r, fs ++ ys, _, _, rfl, (s3.trans sA).trans sr, Z00, by omega, ?_⟩
      have e1 : ((Z0r ts).take (i + 1)) = (Z0r ts).take i ++ [kd] := by rw [List.take_add_one, hk]; rfl
      have e2 : ((Z0r ts).take i).length = i := by rw [List.length_take]; omega
      rw [e1, Zfh, e2, Nat.zero_add]
      have e3 : Z71 i [kd] = (Z6i kd).map fun q => (i :: q.1, q.2) := by rw [Z71, Z71, List.append_nil]
      rw [e3, <- List.cons_append]
      unfold pws
      rw [List.map_append]
      exact IsThs.app _ (IsThs.kp (Kp.of (sA.trans sr)) hfs) (IsThs.kp (Kp.of (sl.trans sr)) hys)
    ·rintro σ H3 ⟨fl, fs, o2, o3, rfl, s3, L3, _, hfs⟩
     rw [List.take_of_length_le (by omega), <- eall] at hfs
     exact ⟨_, rfl, k fl fs H3 ((sI.trans s2).trans s3) L3 hfs⟩
end
end K02
namespace L2
open PySem PySem.Spec PyProof.Rows
section
variable {M : Model} {A : Around} {E : Value -> Shared -> Prop} {env : Env} {nm q : Str} {C N : Addr} {bs bm : List Value} {hdct : Bool} {sn : List Str} {sub : List Value} {ab : Bool} {col : Option Bool} {dd : Option Addr} {k0 k1 k2 k3 k5 : Option Value} {newId : String} {s : Shared}
end
section
variable {M : Model} {A : Around} {E : Value -> Shared -> Prop} {s : Shared} {base : Heap} {env : Env} {outer : List Env} {L e d C : Addr}
end
section
variable {P : Program} {w : World} {S : Addr -> Prop} {fs fs' : List Addr} {H H' : Hp} {h h1 h2 : Heap}
end
section
variable {X : Cx} {pins : List (Addr × Obj)} {σ : St} {H : Hp} {s : Shared} {C a d T : Addr} {E : XK}
end
section
variable {X : Cx} {pins : List (Addr × Obj)} {σ : St} {H : Hp} {s : Shared}
end
section
variable {prog : Program} {w : World} {A : Around} {E : Value -> Shared -> Prop} {env : Env} {nm q : Str} {C N : Addr} {bs bm : List Value} {hdct : Bool} {sn : List Str} {sub : List Value} {ab : Bool} {col : Option Bool} {dd : Option Addr} {k0 k1 k2 k3 k5 : Option Value} {newId : String} {s : Shared}
end
section
variable {P : Program} {w : World} {fs : List Addr} {H H' : Hp} {h h2 : Heap} {C a d T : Addr}
end
section
variable {X : Cx} {pins : List (Addr × Obj)} {σ : St} {H : Hp} {s : Shared}
end
section
variable {X : Cx} {nm q : Str} {C N : Addr} {bs bm : List Value} {hdct : Bool} {sn : List Str} {sub : List Value} {ab : Bool} {col : Option Bool} {dd : Option Addr} {k0 k1 k2 k3 k5 : Option Value} {newId : String}
end
section
variable {X : Cx} {C e fI : Addr}
end
section
variable {X : Cx} {C fI : Addr}
end
section
variable {X : Cx} {pins : List (Addr × Obj)} {σ : St} {H : Hp} {s : Shared} {C fI a d : Addr}
end
end L2
namespace L2
open PySem PySem.Spec PyProof.Rows
open Sem (wp)
open AutoSeq1 (wpAny_loadPart')
section
variable {P : Program} {w : World} {A : Around} {E : Value -> Shared -> Prop} {s : Shared}
end
section
variable {X : Cx}
end
end L2
namespace L2
open PySem PySem.Spec PyProof.Rows PySem.Builtin PySem.AutoSeq1
section
variable {prog : Program} {w : World} {A : Around} {E : Value -> Shared -> Prop} {s : Shared}
end
section
variable {prog : Program} {w : World} {A : Around} {E : Value -> Shared -> Prop} {s : Shared}
end
end L2
namespace L2
open PySem PySem.Spec PyProof.Rows
section
variable {X : Cx}
end
section
variable {K : PySem.W.Frag} {a b : Addr} {xs ys : List V} {σ0 : St} {H : Hp} {g : TG} {tt : TT} {te : TE} {Q : List V -> Hp -> Prop}
end
end L2
namespace L2
open PySem PySem.Spec PyProof.Rows PySem.Builtin PySem.AutoSeq1
section
variable {prog : Program} {w : World} {A : Around} {E : Value -> Shared -> Prop} {s : Shared}
end
section
variable {prog : Program} {w : World} {A : Around} {E : Value -> Shared -> Prop} {s : Shared}
end
section
variable {X : Cx}
end
section
variable {prog : Program} {w : World} {A : Around} {E : Value -> Shared -> Prop} {s : Shared}
end
section
variable {X : Cx} {pins : List (Addr × Obj)} {σ : St}
end
section
variable {X : Cx}
end
end L2
namespace L2
open PySem PySem.Spec PyProof.Rows
section
variable {A : Around} {E : Value -> Shared -> Prop} {nm q : Str} {C N : Addr} {bs bm : List Value} {hdct : Bool} {sn : List Str} {sub : List Value} {ab : Bool} {col : Option Bool} {dd : Option Addr} {k0 k1 k2 k3 k5 : Option Value} {newId : String} {s : Shared}
end
section
variable {X : Cx} {C fI : Addr}
end
section
variable {M : Model} {A : Around} {E : Value -> Shared -> Prop} {nm q nm' q' : Str} {C N B N' : Addr} {bs bm bs' bm' : List Value} {hdct hdct' : Bool} {sn sn' : List Str} {sub sub' : List Value} {ab ab' : Bool} {col col' : Option Bool} {dd dd' : Option Addr} {k0 k1 k2 k3 k5 k0' k1' k2' k3' k5' : Option Value} {newId newId' : String}
end
section
variable {prog : Program} {w : World} {A : Around} {E : Value -> Shared -> Prop} {env : Env} {nm q nm' q' : Str} {C N B N' : Addr} {bs bm bs' bm' : List Value} {hdct hdct' : Bool} {sn sn' : List Str} {sub sub' : List Value} {ab ab' : Bool} {col col' : Option Bool} {dd dd' : Option Addr} {k0 k1 k2 k3 k5 k0' k1' k2' k3' k5' : Option Value} {newId newId' : String} {s : Shared}
end
section
variable {X : Cx} {C : Addr}
end
section
variable {X : Cx} {nm q nm' q' : Str} {C N B N' : Addr} {bs bm bs' bm' : List Value} {hdct hdct' : Bool} {sn sn' : List Str} {sub sub' : List Value} {ab ab' : Bool} {col col' : Option Bool} {dd dd' : Option Addr} {k0 k1 k2 k3 k5 k0' k1' k2' k3' k5' : Option Value} {newId newId' : String}
end
theorem Zca {xs : List V} {z : Int} (h0 : 0 <= z) (h1 : z.toNat <= xs.length) : Z3s xs (some z) none = xs.drop z.toNat := by
 have e : HT.sIx xs.length 0 (some z) = z.toNat := by
  show (if z < 0 then (z + (xs.length : Int)).toNat else min z.toNat xs.length) = _
  rw [if_neg (by omega)]
  omega
 unfold Z3s
 rw [e]
 show (xs.drop z.toNat).take (xs.length - z.toNat) = _
 rw [List.take_of_length_le (by rw [List.length_drop]; omega)]
theorem Zbi {H : Hp} : ∀ (n : Nat) {vs : List V} {ts : List Th}, IsThs H vs ts -> IsThs H (vs.take n) (ts.take n)
 | 0, _, _, _ => by simp only [List.take_zero]; exact .nil
 | _ + 1, _, _, .nil => .nil
 | n + 1, _, _, .cons h r => .cons h (Zbi n r)
theorem Zbj {H : Hp} : ∀ (n : Nat) {vs : List V} {ts : List Th}, IsThs H vs ts -> IsThs H (vs.drop n) (ts.drop n)
 | 0, _, _, h => h
 | _ + 1, _, _, .nil => .nil
 | n + 1, _, _, .cons h r => Zbj n r
end L2
namespace K02
open PySem L2
def Z5f (t : Th) : Bool := !isTup t
def Z7w (ts : List Th) : List Th := ts.filter Z5f
def swT : Th -> List Nat -> Th -> Th
 | _, [], u => u
 | t, i :: p, u => match t with
  | .tup xs => .tup (Z7w xs ++ (Z0r xs).set i (match (Z0r xs)[i]? with
   | some k => swT k p u
   | none => u))
  | _ => u
theorem Zeb {xs : List Th} {i : Nat} {p : List Nat} {u k : Th} (h : (Z0r xs)[i]? = some k) : swT (.tup xs) (i :: p) u = .tup (Z7w xs ++ (Z0r xs).set i (swT k p u)) := by
 rw [swT, h]
theorem szs_app : ∀ (a b : List Th), szs (a ++ b) = szs a + szs b := by
 intro a
 induction a with
 | nil => intro b; simp [szs]
 | cons x a ih => intro b; rw [List.cons_append, szs, szs, ih]; omega
theorem Z2p : ∀ (a b : List Th), dps (a ++ b) = max (dps a) (dps b) := by
 intro a
 induction a with
 | nil => intro b; simp [dps]
 | cons x a ih => intro b; rw [List.cons_append, dps, dps, ih]; omega
theorem Zec : ∀ (xs : List Th), szs (Z7w xs) + szs (Z0r xs) = szs xs := by
 intro xs
 induction xs with
 | nil => simp [Z7w, Z0r, szs]
 | cons x xs ih =>
  unfold Z7w Z0r at ih ⊢
  rw [List.filter_cons, List.filter_cons, szs]
  have e : Z5f x = !L2.isTup x := rfl
  cases hx : L2.isTup x with
  | true =>
   rw [e, hx]
   simp only [Bool.not_true, Bool.false_eq_true, if_false, if_true, szs]
   omega
  | false =>
   rw [e, hx]
   simp only [Bool.not_false, Bool.false_eq_true, if_false, if_true, szs]
   omega
theorem Zed : ∀ (xs : List Th), dps (Z7w xs) <= dps xs /\ dps (Z0r xs) <= dps xs := by
 intro xs
 induction xs with
 | nil => simp [Z7w, Z0r, dps]
 | cons x xs ih =>
  unfold Z7w Z0r at ih ⊢
  rw [List.filter_cons, List.filter_cons, dps]
  constructor
  ·split
   ·rw [dps]; omega
   ·omega
  ·split
   ·rw [dps]; omega
   ·omega
theorem Zji : ∀ (ks : List Th) (i : Nat) (k u : Th), ks[i]? = some k -> szs (ks.set i u) + Th.sz k = szs ks + Th.sz u := by
 intro ks
 induction ks with
 | nil => intro i k u h; cases h
 | cons x ks ih =>
  intro i k u h
  cases i with
  | zero => cases h; rw [List.set_cons_zero, szs, szs]; omega
  | succ i => rw [List.set_cons_succ, szs, szs]; have := ih i k u h; omega
theorem Zjj : ∀ (ks : List Th) (i : Nat) (u : Th), dps (ks.set i u) <= max (dps ks) (dp u) := by
 intro ks
 induction ks with
 | nil => intro i u; rw [List.set_nil]; omega
 | cons x ks ih =>
  intro i u
  cases i with
  | zero => rw [List.set_cons_zero, dps, dps]; omega
  | succ i => rw [List.set_cons_succ, dps, dps]; have := ih i u; omega
theorem Zee : ∀ (ks : List Th) (k : Th), k ∈ ks -> dp k <= dps ks := by
 intro ks
 induction ks with
 | nil => intro k h; cases h
 | cons q ks ih =>
  intro k h
  rw [dps]
  rcases List.mem_cons.mp h with z | z
  ·subst z; omega
  ·have := ih k z; omega
theorem Znf : ∀ (p : List Nat) (t s u : Th), Z3y t p = some s -> Th.sz (swT t p u) <= Th.sz t + Th.sz u /\ dp (swT t p u) <= dp t + dp u := by
 intro p
 induction p with
 | nil => intro t s u _; rw [swT]; omega
 | cons i p ih =>
  intro t s u h
  cases t with
  | «at» _ => simp [Z3y] at h
  | lst _ => simp [Z3y] at h
  | tup xs =>
   rw [Z3y] at h
   cases e : (Z0r xs)[i]? with
   | none => rw [e] at h; cases h
   | some k =>
    rw [e] at h
    obtain ⟨a, b⟩ := ih k s u h
    rw [Zeb e, Th.sz, Th.sz, dp, dp, szs_app, Z2p]
    have h1 := Zec xs
    have h2 := Zed xs
    have h3 := Zji _ i k (swT k p u) e
    have h4 := Zjj (Z0r xs) i (swT k p u)
    have h5 := Zee _ k (List.mem_of_getElem? e)
    omega
theorem Zjk {H : Hp} : ∀ (vs : List V) {us : List Th} (i : Nat) {v : V} {t : Th}, IsThs H vs us -> IsTh H v t -> IsThs H (vs.set i v) (us.set i t) := by
 intro vs
 induction vs with
 | nil => intro us i v t h _; cases h; exact .nil
 | cons w vs ih =>
  intro us i v t h hv
  cases h with
  | cons a b =>
   cases i with
   | zero => exact .cons hv b
   | succ i => exact .cons a (ih i b hv)
def KpT (H H' : Hp) : Prop := ∀ (a : Addr) (xs : List V), H a = some (.tup xs) -> H' a = some (.tup xs)
theorem KpT.refl (H : Hp) : KpT H H := fun _ _ h => h
theorem KpT.trans {A B C : Hp} (a : KpT A B) (b : KpT B C) : KpT A C := fun x xs h => b x xs (a x xs h)
theorem KpT.of {A B : Hp} (a : Same A B) : KpT A B := fun x xs h => a x _ h
theorem Zln {n i : Nat} (h : i < n) : ixN n (i : Int) = some i := by
 unfold ixN
 rw [if_pos (by omega), if_pos (by omega)]
 rfl
def spWith : Sp := fun vs H Q _ => ∃ (H0 : Hp) (v : V) (la : Addr) (ts : List Th) (ws : List V), vs = [v, .ref la] /\ Same H0 H /\ IsTh H0 v (.tup ts) /\ ts.length <= 100000 /\ H la = some (.lst ws) /\ ws.length <= 100000 ∧
 ∀ (p : Addr) (ys : List V) H', Same H H' -> H' p = some (.tup (ys ++ ws)) -> IsThs H0 ys (Z7w ts) -> Q (.ref p) H'
def Z96 (N : Nat) : Sp := fun vs H Q _ => ∃ (H0 : Hp) (v : V) (ap : Addr) (ov : V) (t s u : Th) (p : List Nat), vs = [v, .ref ap, ov] /\ Same H0 H /\ IsTh H0 v t /\ OkT N t /\ Th.sz t <= 100000 /\ IsTh H (.ref ap) (Zkv p) /\ p.length <= 1000 /\ Z3y t p = some s /\ IsTh H0 ov u ∧
 ∀ (v' : V) H', Same H H' -> (∀ H'', Same H0 H'' -> KpT H' H'' -> IsTh H'' v' (swT t p u)) -> Q v' H'
section
variable {P : Program} {w : World} {K : PySem.W.Frag} {mg : Str -> Option Value} {base : Heap}
theorem Zef : FnScope ["_law_e", "_law_some"] ["_law_e", "_law_some"] (Z03 Z3o) := ⟨rfl, rfl, rfl, by decide +kernel, rfl, by decide +kernel, by decide +kernel⟩
theorem Zjl {f : Addr} {fd : FuncData} (F : Fun K "_law_with" "_law_with" Z3o f fd) (T : TxtT mg) (KI : Kits K) : FnOk P w K mg base CX0 1 f fd ["_law_e", "_law_some"] spWith := by
 refine F.ok Zef (fun vs H Q E h => ?_) (fun cdv A outer s H vs Q E hr h => ?_)
 ·obtain ⟨H0, v, la, ts, ws, rfl, _⟩ := h
  rfl
 ·obtain ⟨H0, v, la, ts, ws, rfl, s0, hv, hz, hla, hkz, k⟩ := h
  have hsz : sizeLine = 16777216 := sizeLine_eq
  refine' ⟨?tt, ?body, ?fin⟩
  case body =>
   refine' Z06 ?s1
   case s1 =>
    refine' Z0d ?r
    case r =>
     refine' Z1a Z1f (by rfl) T.tup (by decide +kernel) ?a
     case a =>
      refine' Z08 ?c Z02
      case c =>
       refine' Z0l Z2e ?x (pv 1)
       case x =>
        refine' Z21 (N' := ["_law_one_here"]) (src := [none]) ?k1 ?k5 ?k6 ?k7
        case k1 => rfl
        case k5 => exact Z0m (Z03 Z3o) rfl ["_law_e", "_law_some"] rfl (by decide +kernel)
        case k6 => exact Z84 (pv 0)
        case k7 => exact fun cl C ex s0 H0 => ⟨Z0o (i := 0) (nd1 _) rfl (Or.inl rfl), Z4y (Z2q (Z2c (Z0i (id := "isinstance") (Z2l (K := K) rfl) (by rfl) T.isi (by decide +kernel) (Z0j (pv 0) (Z0j (Z1i (v := .ty "tuple") (by rfl) T.tup (by decide +kernel) rfl) Z02))))), pv 0⟩
  case fin =>
   obtain ⟨a, xs, rfl, ha0, hts⟩ := Z1v hv
   have ha := s0 _ _ ha0
   have hl := IsThs.len _ hts
   refine ⟨_, rfl, a, rfl, ⟨_, SqT.of ha⟩, Z4a (K := K) (a := a) (xs := xs) (fun i ys σc H' => ∃ o, σc = [o] /\ IsThs H0 ys ((ts.take i).filter Z5f) /\ ys.length <= i /\ H' = H) ⟨none, rfl, by rw [List.take_zero]; exact .nil, Nat.le_refl _, rfl⟩ (fun i ys σc H' ⟨_, _, _, _, e⟩ => by rw [e]; exact SqT.of ha) ?_ ?_⟩
   ·rintro i x ys σc H' hx hi ⟨o, rfl, hys, hyl, rfl⟩
    obtain ⟨t, ht, h1⟩ := Z22 _ hts hx
    have hnext : (ts.take (i + 1)).filter Z5f = (ts.take i).filter Z5f ++ (if Z5f t = true then [t] else []) := Z50 _ ht
    refine ⟨by omega, ?_⟩
    refine ⟨_, rfl, _, _, _, _, rfl, Z35 (IsTh.kp (Kp.of s0) h1), KI.tup h1, _, rfl, Z14 (fun g => ?_) (fun g => ?_)⟩
    ·refine ⟨_, rfl, nx hi ⟨_, rfl, ?_, by rw [List.length_append]; show ys.length + 1 <= i + 1; omega, rfl⟩⟩
     rw [hnext, if_pos (show Z5f t = true from g)]
     exact IsThs.app _ hys (.cons h1 .nil)
    ·refine nx hi ⟨_, rfl, ?_, by omega, rfl⟩
     rw [hnext, if_neg (show ¬ Z5f t = true from g), List.append_nil]
     exact hys
   ·rintro ys σc H' ⟨o, rfl, hys, hyl, rfl⟩ l hl'
    rw [List.take_of_length_le (by omega)] at hys
    have s1 := Z01 (o := .lst ys) hl'
    refine ⟨_, rfl, l, la, ys, ws, rfl, rfl, Z00, s1 _ _ hla, by omega, fun l2 hl2 => ?_⟩
    have s2 := Z01 (o := .lst (ys ++ ws)) hl2
    refine ⟨l2, _, rfl, .inl ⟨SqL.of Z00, fun p hp => ?_⟩⟩
    have s3 := Z01 (o := .tup (ys ++ ws)) hp
    exact k p ys _ ((s1.trans s2).trans s3) Z00 hys
theorem scSwapped : FnScope ["_law_e", "_law_path", "_law_other", "_law_some"] ["_law_e", "_law_path", "_law_other"] (Z03 Z3p) := ⟨rfl, rfl, rfl, by decide +kernel, rfl, by decide +kernel, by decide +kernel⟩
theorem Zcb {f fP fW : Addr} {fd dP dW : FuncData} (F : Fun K "_law_swapped" "_law_swapped" Z3p f fd) (b : Binds K fd ["_law_e", "_law_path", "_law_other"] []) (m : mg "_law_swapped" = some (.ref f)) (T : TxtT mg) (KI : Kits K)
  (FP : Fun K "_law_parts" "_law_parts" Z2g fP dP) (bP : Binds K dP ["_law_e"] []) (mP : mg "_law_parts" = some (.ref fP)) (FW : Fun K "_law_with" "_law_with" Z3o fW dW) (bW : Binds K dW ["_law_e", "_law_some"] []) (mW : mg "_law_with" = some (.ref fW)) :
  ∀ N, FnOk P w K mg base CX0 (N + 2) f fd ["_law_e", "_law_path", "_law_other"] (Z96 N) := by
 have GP : FnOk P w K mg base CX0 1 fP dP ["_law_e"] spLawParts := Z6d FP T KI
 have GW : FnOk P w K mg base CX0 1 fW dW ["_law_e", "_law_some"] spWith := Zjl FW T KI
 intro N
 induction N with
 | zero =>
  refine F.ok scSwapped (fun vs H Q E h => ?_) (fun cdv A outer s H vs Q E hr h => ?_)
  ·obtain ⟨H0, v, ap, ov, t, s', u, p, rfl, _⟩ := h
   rfl
  ·obtain ⟨H0, v, ap, ov, t, s', u, p, rfl, _, _, hok, _⟩ := h
   exact hok.elim
 | succ N ih =>
  refine F.ok scSwapped (fun vs H Q E h => ?_) (fun cdv A outer s H vs Q E hr h => ?_)
  ·obtain ⟨H0, v, ap, ov, t, s', u, p, rfl, _⟩ := h
   rfl
  ·obtain ⟨H0, v, ap, ov, t, s', u, q, rfl, sH, hv, hok, hz, hp, hql, hgo, hov, k⟩ := h
   have hsz : sizeLine = 16777216 := sizeLine_eq
   have hr1 : Room 1 _ := hr.mono (by omega)
   have hu : (A.deeper (PyProof.Rows.envOfC "_law_swapped" (Z03 Z3p) s.heap.objs.size f cdv)).units < cLine := by have := hr.un; omega
   refine' ⟨?tt, ?body, ?fin⟩
   case body =>
    refine' Z04 ?s1 ?r1
    case s1 => exact Z10 (Z0b (Z76 hu) (pv 1) (Z12 Z02) (Z0k _)) (Z06 (Z0d (pv 2))) Z0g
    case r1 =>
     refine' Z04 ?s2 ?r2
     case s2 => exact Z0c (i := 3) scSwapped.nd rfl (Or.inl rfl) (Z07 GP hr1 (by rfl) mP FP.kp bP .nil Z0f (Z0j (pv 0) Z02))
     case r2 =>
      refine' Z04 ?s3 (Z06 ?s4)
      case s3 =>
       refine' Zaa (Z07 ih hr (by rfl) m F.kp b .nil Z0f ?args) (Zk8 (pv 3) (Z18 Z1s (pv 1) Z05 (fun _ _ => rfl)) Zf5)
       case args =>
        refine' Z08 ?g1 (Z08 ?g2 (Z0j (pv 2) Z02))
        case g1 => exact Z18 Z20 (pv 3) (Z18 Z1s (pv 1) Z05 (fun _ _ => rfl)) (fun _ _ => rfl)
        case g2 => exact Z16 Z5v (pv 1) (Z1q Z05) Z1u
      case s4 => exact Z0d (Z07 GW hr1 (by rfl) mW FW.kp bW .nil Z0f (Z0j (pv 0) (Z0j (pv 3) Z02)))
   case fin =>
    obtain ⟨ap', pvs, e1, hap, hpv⟩ := Z1v hp
    cases e1
    refine ⟨_, rfl, Nat.zero_le _, fun e0 he0 => ?_⟩
    have s0 := Z01 (o := .tup []) he0
    refine ⟨ap, e0, pvs, rfl, rfl, SqT.of (s0 _ _ hap), SqT.of Z00, _, rfl, ?_⟩
    cases q with
    | nil =>
     cases hpv
     refine Z34 ⟨_, rfl, k ov _ s0 fun H'' a b => ?_⟩
     rw [swT]
     exact IsTh.kp (Kp.of a) hov
    | cons i q =>
     obtain ⟨w0, ts, e2, hlet, hkid⟩ := hok
     subst e2
     rw [Z3y] at hgo
     cases hk : (Z0r (.at (.str w0) :: ts))[i]? with
     | none => rw [hk] at hgo; cases hgo
     | some kd =>
      rw [hk] at hgo
      have hk0 := hk
      rw [Z1c] at hk
      have hkm := (List.mem_filter.mp (List.mem_of_getElem? hk) : kd ∈ ts /\ L2.isTup kd = true)
      have hkz := Z6z ts kd hkm.1
      have htl := Z1b ts
      have hts : Th.sz (.tup (.at (.str w0) :: ts)) = 1 + (1 + szs ts) := by simp only [Th.sz, szs]
      have hlt := (List.getElem?_eq_some_iff.mp hk).1
      have hkl : (Z0r ts).length <= ts.length := List.length_filter_le L2.isTup ts
      cases hpv with
      | @cons x1 pr _ _ c1 c2 =>
       obtain ⟨rfl, _⟩ := Z40 c1
       refine Z4w ?_
       refine ⟨_, rfl, H0, v, w0, ts, rfl, sH.trans s0, hv, by omega, fun p ws H1 s1 hpn hp1 hws => ?_⟩
       have s01 := s0.trans s1
       have hwl := IsThs.len _ hws
       obtain ⟨vk, hvk, hvkt⟩ := Zku _ hws hk
       have hap1 := s01 _ _ hap
       refine ⟨_, rfl, _, rfl, ap, _, 0, .int (i : Nat), rfl, rfl, SqT.of hap1, Z1w _ _, p, ws, (i : Nat), vk, rfl, rfl, SqL.of hp1, Z32 hvk, _, rfl, 1, rfl, ap, _, rfl, hap1, fun p2 H2 s2 hp2 => ?_⟩
       rw [Zca (by decide) (by show 1 <= _ + 1; omega)] at hp2
       have s12 := s01.trans s2
       have sH2 : Same H0 H2 := (sH.trans s12)
       refine ⟨_, rfl, H0, vk, p2, ov, kd, s', u, q, rfl, sH2, hvkt, hkid kd hkm.1 hkm.2, by omega, .tup hp2 (IsThs.kp (Kp.of s12) c2), by rw [List.length_cons] at hql; omega, hgo, hov, fun v' H3 s3 hv' => ?_⟩
       have s13 := s12.trans s3
       have hp3 := s3 _ _ (s2 _ _ hp1)
       refine ⟨_, rfl, _, rfl, ap, _, 0, .int (i : Nat), rfl, rfl, SqT.of (s13 _ _ hap), Z1w _ _, p, ws, (i : Nat), i, rfl, rfl, hp3, Zln (by omega), ?_⟩
       have sm : Same H (upd H3 p (.lst (ws.set i v'))) := fun c o e => by
        rw [Z0a (fun z => by subst z; rw [s0 _ _ e] at hpn; cases hpn)]
        exact s13 _ _ e
       have kt : KpT H3 (upd H3 p (.lst (ws.set i v'))) := fun c o e => by
        rw [Z0a (fun z => by subst z; rw [hp3] at e; cases e)]
        exact e
       refine ⟨_, rfl, _, rfl, H0, v, p, _, ws.set i v', rfl, sH.trans sm, hv, by rw [List.length_cons]; omega, Z00, by rw [List.length_set]; omega, fun r ys H4 s4 hr4 hys => ?_⟩
       refine k _ _ (sm.trans s4) fun H'' a b => ?_
       rw [Zeb hk0]
       refine .tup (b _ _ hr4) (IsThs.app _ (IsThs.kp (Kp.of a) hys) ?_)
       rw [Z1c]
       exact Zjk _ i (IsThs.kp (Kp.of a) hws) (hv' H'' a ((kt.trans (KpT.of s4)).trans b))
end
end K02
namespace L2
open PySem PySem.Spec PyProof.Rows
section
variable {X : Cx}
theorem Z7x {α : Type} (a : Array α) : ∀ (n : Nat) (b : Array α), ((List.replicate n a).foldl (· ++ ·) b).size = b.size + a.size * n := by
 intro n
 induction n with
 | zero => intro b; simp
 | succ n ih => intro b; rw [List.replicate_succ, List.foldl_cons, ih, Array.size_append, Nat.mul_succ]; omega
theorem Zjm : OpR X (binaryOp .Mult) (fun x y H Q => ∃ (i : Str) (n : Int), x = .str i /\ y = .int n /\ 2 <= n /\ n <= 1000 /\ 1 <= i.length /\ i.length <= 1000 /\ ∀ r : Str, r.length = i.length * n.toNat -> Q (.str r) H) := by
 intro pins s σ H x y v u Q I rx ry h
 obtain ⟨i, n, rfl, rfl, h1, h2, h3, h4, q⟩ := h
 obtain ⟨t, rfl⟩ := rx
 obtain ⟨t', rfl⟩ := ry
 have hm : (i.length : Int) * n <= 1000 * 1000 := Int.mul_le_mul (by omega) h2 (by omega) (by decide)
 have hN : i.length * n.toNat <= 1000 * 1000 := Nat.mul_le_mul h4 (by omega)
 have hsz : sizeLine = 16777216 := sizeLine_eq
 have e1 : ¬ n < 1 := by omega
 have e2 : ¬ (n == 1 || i.length == 0) = true := by
  rw [Bool.or_eq_true, beq_iff_eq, beq_iff_eq]; omega
 refine PySem.P.mul_str ?_ ?_ ?_ ?_
 ·rw [decide_eq_false (by omega), decide_eq_false (by omega)]; rfl
 ·intro _ _
  have : 1000 <= (2 ^ 63 - 1) / n := by
   rw [Int.le_ediv_iff_mul_le (by omega)]
   omega
  omega
 ·intro _ _
  exact decide_eq_false (by omega)
 ·rw [if_neg e1, if_neg e2]
  have hl : (⟨(List.replicate n.toNat i.cps).foldl (· ++ ·) #[]⟩ : Str).length = i.length * n.toNat := by
   show ((List.replicate n.toNat i.cps).foldl (· ++ ·) #[]).size = _
   rw [Z7x]
   show 0 + i.length * n.toNat = _
   omega
  exact ⟨by rw [hl]; omega, ⟨.str _, H, I.tok _, ⟨_, rfl⟩, q _ hl⟩⟩
end
end L2
namespace K02
open PySem L2
inductive Sh
 | any
 | str
 | tup (m : Nat)
 | lst (m : Nat)
structure Bd where
 sh : Sh
 z : Nat
 d : Nat
def Fit (b : Bd) (t : Th) : Prop := match b.sh with
 | .any => Th.sz t <= b.z /\ dp t <= b.d
 | .str => ∃ x : Str, t = .at (.str x) /\ x.length <= 1000
 | .tup m => ∃ ts, t = .tup ts /\ m <= ts.length /\ szs ts <= b.z /\ dps ts <= b.d
 | .lst m => ∃ ts, t = .lst ts /\ m <= ts.length /\ szs ts <= b.z /\ dps ts <= b.d
def bz (b : Bd) : Nat := match b.sh with
 | .any => b.z
 | .str => 1
 | _ => b.z + 1
def bd (b : Bd) : Nat := match b.sh with
 | .any => b.d
 | .tup _ => b.d + 1
 | _ => 0
theorem Fit.le {b : Bd} {t : Th} (h : Fit b t) : Th.sz t <= bz b /\ dp t <= bd b := by
 obtain ⟨sh, z, d⟩ := b
 cases sh with
 | any => exact h
 | str => obtain ⟨x, rfl, _⟩ := h; rw [Th.sz, dp]; exact ⟨Nat.le_refl _, Nat.le_refl _⟩
 | tup m =>
  obtain ⟨ts, rfl, _, h1, h2⟩ := h
  rw [Th.sz, dp]
  show _ <= z + 1 /\ _ <= d + 1
  simp only at h1 h2
  omega
 | lst m =>
  obtain ⟨ts, rfl, _, h1, h2⟩ := h
  rw [Th.sz, dp]
  show _ <= z + 1 /\ _ <= 0
  simp only at h1 h2
  omega
def Den (b : Bd) (H : Hp) (v : V) : Prop := ∃ t, IsTh H v t /\ Fit b t
theorem Den.kp {b : Bd} {H H' : Hp} {v : V} (h : Den b H v) (k : Kp H H') : Den b H' v := let ⟨t, a, q⟩ := h; ⟨t, IsTh.kp k a, q⟩
structure Bs where
 n : Nat
 z : Nat
 d : Nat
def Zop (b : Bs) (H : Hp) (vs : List V) : Prop := ∃ ts, IsThs H vs ts /\ ts.length = b.n /\ szs ts <= b.z /\ dps ts <= b.d
abbrev Gam := List (Str × Nat × Bd)
def Z6l : Str := "_law_feed_here"
def look (G : Gam) (x : Str) : Option (Nat × Bd) := (G.find? fun p => decide (p.1 = x)).map (·.2)
theorem Zgq {G : Gam} {x : Str} {i : Nat} {k : Bd} (h : look G x = some (i, k)) : (x, i, k) ∈ G := by
 unfold look at h
 cases e : G.find? fun p => decide (p.1 = x) with
 | none => rw [e] at h; cases h
 | some p =>
  rw [e] at h
  have h1 := Option.some.inj h
  have h2 := List.mem_of_find?_eq_some e
  have h3 := List.find?_some e
  have h4 : p.1 = x := of_decide_eq_true h3
  obtain ⟨p1, p2⟩ := p
  simp only at h1 h4
  subst h1 h4
  exact h2
structure EnvOk (fi : Nat) (d : Addr) (G : Gam) (σ : St) (H : Hp) : Prop where
 fd : σ[fi]? = some (some (.ref d))
 vs : ∀ p ∈ G, ∃ v, σ[p.2.1]? = some (some v) /\ Den p.2.2 H v
theorem EnvOk.but {fi : Nat} {d l : Addr} {ns : List Int} {n : Nat} {G : Gam} {σ : St} {H H' : Hp} (E : EnvOk fi d G σ H) (F : Feed H d l ns n) (b : But d H H') : EnvOk fi d G σ H' :=
 ⟨E.fd, fun p hp => let ⟨v, e, q⟩ := E.vs p hp; ⟨v, e, q.kp (b.kp F)⟩⟩
theorem env0 {fi : Nat} {d : Addr} {σ : St} {H : Hp} (h : σ[fi]? = some (some (.ref d))) : EnvOk fi d [] σ H := ⟨h, fun p hp => by cases hp⟩
theorem Z1o {fi : Nat} {d : Addr} {G : Gam} {σ : St} {H : Hp} {x : Str} {i : Nat} {k : Bd} {v : V} (E : EnvOk fi d G σ H) (e : σ[i]? = some (some v)) (dv : Den k H v) : EnvOk fi d ((x, i, k) :: G) σ H :=
 ⟨E.fd, fun p hp => by
  rcases List.mem_cons.mp hp with z | z
  ·subst z; exact ⟨v, e, dv⟩
  ·exact E.vs p z⟩
def lim : Nat := 700000000000
def TMk (fi : Nat) (d l : Addr) (ns : List Int) (G : Gam) (k : Bd) (c : Nat) : TE := fun σ H Q => ∃ n, EnvOk fi d G σ H /\ Feed H d l ns n /\ n + c <= lim ∧
 ∀ v H' n', n' <= n + c -> Feed H' d l ns n' -> But d H H' -> Den k H' v -> Q v H'
def Zk1 (fi : Nat) (d l : Addr) (ns : List Int) (G : Gam) (k : Bs) (c : Nat) : TA := fun σ H Q => ∃ n, EnvOk fi d G σ H /\ Feed H d l ns n /\ n + c <= lim ∧
 ∀ vs H' n', n' <= n + c -> Feed H' d l ns n' -> But d H H' -> Zop k H' vs -> Q vs H'
structure Has where
 wd : Bool
 od : Bool
 ls : Bool
def spOdd : Sp := fun vs H Q _ => ∃ (d l : Addr) (ns : List Int) (n : Nat) (x : Str), vs = [.ref d, .str x] /\ Feed H d l ns n /\ n + 1 <= lim /\ x.length <= 1000 ∧
 ∀ (v : V) n' H', Den ⟨.any, 100, 1⟩ H' v -> n' <= n + 1 -> Feed H' d l ns n' -> But d H H' -> Q v H'
def Z7y (X : Cx) (x : Str) (ps : List Str) (sp : Sp) : Prop := ∃ f fd k, FnOk X.prog X.w X.K X.mg X.base CX0 k f fd ps sp /\ Room k X.A /\ Gl X x /\ X.mg x = some (.ref f) /\ PySem.W.keepIn X.K (.ref f) = true /\ Binds X.K fd ps []
def Z7a (X : Cx) : Gam -> Prop
 | [] => True
 | p :: G => (X.N[p.2.1]? = some p.1 /\ Vis X.env.scope p.1 /\ (p.1 == ("__debug__" : Str)) = false /\ (p.1 == ("__classdict__" : Str)) = false) /\ Z7a X G
theorem Zeg {X : Cx} : ∀ {G : Gam}, Z7a X G -> ∀ p ∈ G, X.N[p.2.1]? = some p.1 /\ Vis X.env.scope p.1 /\ (p.1 == ("__debug__" : Str)) = false /\ (p.1 == ("__classdict__" : Str)) = false
 | [], _, p, hp => by cases hp
 | q :: G, h, p, hp => by
  rcases List.mem_cons.mp hp with z | z
  ·subst z; exact h.1
  ·exact Zeg h.2 p z
structure MadeCx (X : Cx) (fi : Nat) (G : Gam) (fs : Has) : Prop where
 one : Z7y X "_law_one" ["_law_feed_here", "_law_some"] spOne
 wds : fs.wd = true -> Z7y X "_law_words" [] spWords
 odd : fs.od = true -> Z7y X "_law_odd" ["_law_feed_here", "_law_name_here"] spOdd
 lst : fs.ls = true -> Gl X "list" /\ X.mg "list" = none
 feed : X.N[fi]? = some Z6l /\ Vis X.env.scope Z6l
 vars : Z7a X G
def Zeh : Const -> Option Bd
 | .str x => if x.length <= 1000 then some ⟨.str, 0, 0⟩ else none
 | .int _ => some ⟨.any, 1, 0⟩
 | .bool _ => some ⟨.any, 1, 0⟩
 | .none => some ⟨.any, 1, 0⟩
 | _ => none
def Zcc : Option Expr -> Bool
 | none => true
 | some (.Constant (.int _) _ _) => true
 | some (.UnaryOp .USub (.Constant (.int _) _ _) _) => true
 | _ => false
def Zlo (f : Expr -> Option (Bd × Nat)) : List Expr -> Option (Bs × Nat)
 | [] => some (⟨0, 0, 0⟩, 0)
 | e :: es => match f e, Zlo f es with
  | some (k, c), some (b, c') => some (⟨b.n + 1, bz k + b.z, max (bd k) b.d⟩, c + c')
  | _, _ => none
def Zm8 (a b : Bd) : Option Bd := match a.sh, b.sh with
 | .tup m, .tup n => if a.z + b.z <= 100000 then some ⟨.tup (m + n), a.z + b.z, max a.d b.d⟩ else none
 | .lst m, .lst n => if a.z + b.z <= 100000 then some ⟨.lst (m + n), a.z + b.z, max a.d b.d⟩ else none
 | _, _ => none
def slK (a : Bd) : Option Bd := match a.sh with
 | .tup _ => some ⟨.tup 0, a.z, a.d⟩
 | .str => some ⟨.str, 0, 0⟩
 | _ => none
def Zgr (a : Bd) : Option Bd := match a.sh with
 | .tup (_ + 1) => some ⟨.any, a.z, a.d⟩
 | _ => none
def Zjn (a : Bd) : Option Bd := match a.sh with
 | .tup m => some ⟨.lst m, a.z, a.d⟩
 | _ => none
def Zm9 (a : Bd) : Option Bd := match a.sh with
 | .lst (_ + 1) => if a.z <= 1000000 then some ⟨.any, a.z, a.d⟩ else none
 | _ => none
def Zjo (a : Bd) : Bool := match a.sh with
 | .str => true
 | _ => false
def Zng (f : Expr -> Option (Bd × Nat)) : Expr -> Operator -> Expr -> Option (Bd × Nat)
 | .Constant (.int i) _ _, .Pow, .Constant (.int j) _ _ => if 0 <= j /\ j <= 1000 /\ i.natAbs < 18446744073709551616 then some (⟨.any, 1, 0⟩, 0) else none
 | .Constant (.str x) _ _, .Mult, .Constant (.int j) _ _ => if 2 <= j /\ j <= 30 /\ 1 <= x.length /\ x.length <= 30 then some (⟨.str, 0, 0⟩, 0) else none
 | a, .Add, b => match f a, f b with
  | some (k1, c1), some (k2, c2) => (Zm8 k1 k2).map fun k => (k, c1 + c2)
  | _, _ => none
 | _, _, _ => none
def Zjp (fs : Has) (f : Expr -> Option (Bd × Nat)) (g : Str) : List Expr -> Option (Bd × Nat)
 | [] => if g = "_law_words" /\ fs.wd = true then some (⟨.lst 13, 13, 0⟩, 0) else none
 | [e] => if g = "list" /\ fs.ls = true then (match f e with
  | some (k, c) => (Zjn k).map fun k => (k, c)
  | none => none) else none
 | [.Name x _, e] => if x = Z6l then (if g = "_law_one" then (match f e with
  | some (k, c) => (Zm9 k).map fun k => (k, c + 1)
  | none => none) else if g = "_law_odd" /\ fs.od = true then (match f e with
  | some (k, c) => if Zjo k = true then some (⟨.any, 100, 1⟩, c + 1) else none
  | none => none) else none) else none
 | _ => none
def chk (fs : Has) (G : Gam) : Nat -> Expr -> Option (Bd × Nat)
 | 0, _ => none
 | n + 1, e => match e with
  | .Constant c _ _ => (Zeh c).map fun k => (k, 0)
  | .Name x _ => (look G x).map fun p => (p.2, 0)
  | .Tuple es _ _ => (match Zlo (chk fs G n) es with
   | some (b, c) => if b.n <= 1000 then some (⟨.tup b.n, b.z, b.d⟩, c) else none
   | none => none)
  | .List es _ => (match Zlo (chk fs G n) es with
   | some (b, c) => if b.n <= 1000 then some (⟨.lst b.n, b.z, b.d⟩, c) else none
   | none => none)
  | .UnaryOp .USub (.Constant (.int _) _ _) _ => some (⟨.any, 1, 0⟩, 0)
  | .BinOp a op b _ => Zng (chk fs G n) a op b
  | .Call (.Name f _) args [] _ => Zjp fs (chk fs G n) f args
  | .Subscript a (.Slice lo hi none _) _ => if Zcc lo = true /\ Zcc hi = true then (match chk fs G n a with
   | some (k, c) => (slK k).map fun k => (k, c)
   | none => none) else none
  | .Subscript a (.Constant (.int 0) _ _) _ => (match chk fs G n a with
   | some (k, c) => (Zgr k).map fun k => (k, c)
   | none => none)
  | _ => none
theorem Zgs {fs : Has} {G : Gam} {n : Nat} {e : Expr} {r : Bd × Nat} (h : chk fs G n e = some r) (env : Env) (es : List Expr) : starEach (e :: es) env = (false, eval e env) :: starEach es env := by
 cases n with
 | zero => cases h
 | succ n =>
  cases e with
  | Constant _ _ _ => rfl
  | Name _ _ => rfl
  | Tuple _ _ _ => rfl
  | List _ _ => rfl
  | UnaryOp _ _ _ => rfl
  | BinOp _ _ _ _ => rfl
  | Call _ _ _ _ => rfl
  | Subscript _ _ _ => rfl
  | _ => cases h
section
variable {X : Cx} {fi : Nat} {d l : Addr} {ns : List Int} {G : Gam} {fs : Has}
theorem Zei (C : MadeCx X fi G fs) {p : Pos} : PE X (.Name Z6l p) (Zk6 fi) := Z81 C.feed.1 C.feed.2 (by decide +kernel) (by decide +kernel)
theorem Z7b {e : Expr} {v : V} {k : Bd} {t : TE} (h : PE X e t) (i : ∀ σ H Q, Q v H -> t σ H Q) (hd : ∀ H, Den k H v) : PE X e (TMk fi d l ns G k 0) :=
 Z0z h fun σ H Q ⟨n, E, F, hn, q⟩ => i σ H Q (q v H n (Nat.le_refl _) F (But.refl d H) (hd H))
theorem Z97 {v : V} (h : Z3e v = true) (H : Hp) : Den ⟨.any, 1, 0⟩ H v := ⟨.at v, .at h, by show Th.sz (.at v) <= 1 /\ dp (.at v) <= 0; rw [Th.sz, dp]; exact ⟨Nat.le_refl _, Nat.le_refl _⟩⟩
theorem Z43 {x : Str} (h : x.length <= 1000) (H : Hp) : Den ⟨.str, 0, 0⟩ H (.str x) := ⟨.at (.str x), .at (decide_eq_true h), x, rfl, h⟩
theorem Zhv {b : Bd} {v : V} {H : Hp} (h : Den b H v) (hs : Zjo b = true) : ∃ x : Str, v = .str x /\ x.length <= 1000 := by
 obtain ⟨sh, z, d⟩ := b
 cases sh with
 | str =>
  obtain ⟨t, a, x, rfl, hx⟩ := h
  obtain ⟨rfl, _⟩ := Z40 a
  exact ⟨x, rfl, hx⟩
 | _ => cases hs
theorem Z98 {m z e : Nat} {v : V} {H : Hp} (h : Den ⟨.tup m, z, e⟩ H v) : ∃ (a : Addr) (vs : List V) (ts : List Th), v = .ref a /\ H a = some (.tup vs) /\ IsThs H vs ts /\ m <= ts.length /\ szs ts <= z /\ dps ts <= e := by
 obtain ⟨t, a, ts, rfl, h1, h2, h3⟩ := h
 obtain ⟨p, vs, rfl, a1, a2⟩ := Z1v a
 exact ⟨p, vs, ts, rfl, a1, a2, h1, h2, h3⟩
theorem Z99 {m z e : Nat} {v : V} {H : Hp} (h : Den ⟨.lst m, z, e⟩ H v) : ∃ (a : Addr) (vs : List V) (ts : List Th), v = .ref a /\ H a = some (.lst vs) /\ IsThs H vs ts /\ m <= ts.length /\ szs ts <= z /\ dps ts <= e := by
 obtain ⟨t, a, ts, rfl, h1, h2, h3⟩ := h
 obtain ⟨p, vs, rfl, a1, a2⟩ := Zat a
 exact ⟨p, vs, ts, rfl, a1, a2, h1, h2, h3⟩
theorem Zej {e : Option Expr} {t t' : TO} (h : PO X e t) (i : ∀ σ H Q, t' σ H Q -> t σ H Q) : PO X e t' := fun pins s σ H Q I q => h pins s σ H Q I (i σ H Q q)
theorem Zek {e : Option Expr} (h : Zcc e = true) : ∃ o, PO X e (fun _ H Q => Q o H) := by
 unfold Zcc at h
 split at h
 ·exact ⟨none, Zej Z1u fun σ H Q q => q⟩
 ·exact ⟨some _, Zej (Z1q Z05) fun σ H Q q => ⟨_, rfl, q⟩⟩
 ·exact ⟨some _, Zej (Z1q (Zf2 Zac Z05)) fun σ H Q q => ⟨_, rfl, _, rfl, q⟩⟩
 ·cases h
theorem Zgt {c : Const} {j : Nat} {p : Pos} {k : Bd} (h : Zeh c = some k) : PE X (.Constant c j p) (TMk fi d l ns G k 0) := by
 cases c with
 | int i => cases h; exact Z7b Z05 (fun σ H Q q => q) (Z97 rfl)
 | str x =>
  have h : (if x.length <= 1000 then some (Bd.mk .str 0 0) else none) = some k := h
  by_cases hx : x.length <= 1000
  ·rw [if_pos hx] at h
   cases h
   exact Z7b Z09 (fun σ H Q q => q) (Z43 hx)
  ·rw [if_neg hx] at h; cases h
 | bool b => cases h; exact Z7b Z28 (fun σ H Q q => q) (Z97 rfl)
 | none => cases h; exact Z7b Za9 (fun σ H Q q => q) (Z97 rfl)
 | _ => cases h
theorem Zlp (C : MadeCx X fi G fs) {x : Str} {p : Pos} {i : Nat} {k : Bd} (h : look G x = some (i, k)) : PE X (.Name x p) (TMk fi d l ns G k 0) := by
 have hm := Zgq h
 obtain ⟨h1, h2, h3, h4⟩ := Zeg C.vars _ hm
 refine Z0z (Z81 h1 h2 h3 h4) fun σ H Q ⟨n, E, F, hn, q⟩ => ?_
 obtain ⟨v, e, dv⟩ := E.vs _ hm
 exact ⟨v, e, q v H n (Nat.le_refl _) F (But.refl d H) dv⟩
theorem Zlq : PA X [] (Zk1 fi d l ns G ⟨0, 0, 0⟩ 0) := Zas Z02 fun σ H Q ⟨n, E, F, hn, q⟩ => q [] H n (Nat.le_refl _) F (But.refl d H) ⟨[], .nil, rfl, by rw [szs]; exact Nat.le_refl _, by rw [dps]; exact Nat.le_refl _⟩
theorem Zjq {e : Expr} {es : List Expr} {k : Bd} {b : Bs} {c1 c2 : Nat} (he : PE X e (TMk fi d l ns G k c1)) (hr : PA X es (Zk1 fi d l ns G b c2)) (hs : starEach (e :: es) X.env = (false, eval e X.env) :: starEach es X.env) :
  PA X (e :: es) (Zk1 fi d l ns G ⟨b.n + 1, bz k + b.z, max (bd k) b.d⟩ (c1 + c2)) := by
 refine Zas (Z08 he hr hs) fun σ H Q ⟨n, E, F, hn, q⟩ => ⟨n, E, F, by omega, fun x H1 n1 hn1 F1 b1 d1 => ⟨n1, E.but F b1, F1, by omega, fun xs H2 n2 hn2 F2 b2 d2 => ?_⟩⟩
 refine q (x :: xs) H2 n2 (by omega) F2 (b1.trans b2) ?_
 obtain ⟨t, a1, a2⟩ := d1.kp (b2.kp F1)
 obtain ⟨ts, g1, g2, g3, g4⟩ := d2
 have := a2.le
 exact ⟨t :: ts, .cons a1 g1, by rw [List.length_cons, g2], by rw [szs]; show _ <= bz k + b.z; omega, by rw [dps]; show _ <= max (bd k) b.d; omega⟩
theorem Zel {f : Expr -> Option (Bd × Nat)} : ∀ (es : List Expr) {b : Bs} {c : Nat}, (∀ e k c, f e = some (k, c) -> PE X e (TMk fi d l ns G k c)) -> (∀ e r es, f e = some r -> starEach (e :: es) X.env = (false, eval e X.env) :: starEach es X.env) →
  Zlo f es = some (b, c) -> PA X es (Zk1 fi d l ns G b c) := by
 intro es
 induction es with
 | nil => intro b c _ _ h; cases h; exact Zlq
 | cons e es ih =>
  intro b c hf hs h
  unfold Zlo at h
  split at h
  ·rename_i k1 c1 ks2 c2 h1 h2
   cases h
   exact Zjq (hf e k1 c1 h1) (ih hf hs h2) (hs e _ es h1)
  ·cases h
theorem Z6e {n : Nat} (h : n <= 1000000) : n <= sizeLine := Nat.le_trans h (by decide)
theorem Zlr {es : List Expr} {j : Nat} {pos : Pos} {b : Bs} {c : Nat} (h : PA X es (Zk1 fi d l ns G b c)) (hl : b.n <= 1000) : PE X (.Tuple es j pos) (TMk fi d l ns G ⟨.tup b.n, b.z, b.d⟩ c) := by
 refine Z0z (Z12 h) fun σ H Q ⟨n, E, F, hn, q⟩ => ⟨n, E, F, hn, fun xs H1 n1 hn1 F1 b1 d1 => ?_⟩
 obtain ⟨ts, g1, g2, g3, g4⟩ := d1
 have := IsThs.len _ g1
 refine ⟨Z6e (by omega), fun p hp => ?_⟩
 have s := Z01 (o := .tup xs) hp
 exact q _ _ n1 hn1 (F1.same s) (b1.trans (But.of s)) ⟨.tup ts, .tup Z00 (IsThs.kp (Kp.of s) g1), ts, rfl, by omega, g3, g4⟩
theorem Zls {es : List Expr} {pos : Pos} {b : Bs} {c : Nat} (h : PA X es (Zk1 fi d l ns G b c)) (hl : b.n <= 1000) : PE X (.List es pos) (TMk fi d l ns G ⟨.lst b.n, b.z, b.d⟩ c) := by
 refine Z0z (Z0y h) fun σ H Q ⟨n, E, F, hn, q⟩ => ⟨n, E, F, hn, fun xs H1 n1 hn1 F1 b1 d1 => ?_⟩
 obtain ⟨ts, g1, g2, g3, g4⟩ := d1
 have := IsThs.len _ g1
 refine ⟨Z6e (by omega), fun p hp => ?_⟩
 have s := Z01 (o := .lst xs) hp
 exact q _ _ n1 hn1 (F1.same s) (b1.trans (But.of s)) ⟨.lst ts, .lst Z00 (IsThs.kp (Kp.of s) g1), ts, rfl, by omega, g3, g4⟩
theorem Zhw {k1 k2 : Bd} {c1 c2 n : Nat} {σ : St} {H : Hp} {R : V -> V -> Hp -> Prop} (E : EnvOk fi d G σ H) (F : Feed H d l ns n) (hn : n + (c1 + c2) <= lim)
  (h : ∀ x y H2 n2, n2 <= n + (c1 + c2) -> Feed H2 d l ns n2 -> But d H H2 -> Den k1 H2 x -> Den k2 H2 y -> R x y H2) :
  TMk fi d l ns G k1 c1 σ H (fun x H1 => TMk fi d l ns G k2 c2 σ H1 (fun y H2 => R x y H2)) :=
 ⟨n, E, F, by omega, fun x H1 n1 hn1 F1 b1 d1 => ⟨n1, E.but F b1, F1, by omega, fun y H2 n2 hn2 F2 b2 d2 => h x y H2 n2 (by omega) F2 (b1.trans b2) (d1.kp (b2.kp F1)) d2⟩⟩
theorem Zem {a b : Expr} {pos : Pos} {k1 k2 k : Bd} {c1 c2 : Nat} (ha : PE X a (TMk fi d l ns G k1 c1)) (hb : PE X b (TMk fi d l ns G k2 c2)) (h : Zm8 k1 k2 = some k) : PE X (.BinOp a .Add b pos) (TMk fi d l ns G k (c1 + c2)) := by
 obtain ⟨sh1, z1, e1⟩ := k1
 obtain ⟨sh2, z2, e2⟩ := k2
 unfold Zm8 at h
 split at h
 ·rename_i m1 m2 q1 q2
  simp only at q1 q2 h
  subst q1 q2
  split at h
  ·rename_i hz
   cases h
   refine Z0z (Z0l Z5w ha hb) fun σ H Q ⟨n, E, F, hn, q⟩ => Zhw E F hn fun x y H2 n2 hn2 F2 b2 d1 d2 => ?_
   obtain ⟨a1, vs1, ts1, rfl, g1, g2, g3, g4, g5⟩ := Z98 d1
   obtain ⟨a2, vs2, ts2, rfl, i1, i2, i3, i4, i5⟩ := Z98 d2
   have l1 := IsThs.len _ g2
   have l2 := IsThs.len _ i2
   have u1 := Z1b ts1
   have u2 := Z1b ts2
   refine ⟨a1, a2, vs1, vs2, rfl, rfl, g1, i1, Z6e (by omega), fun p H' s hp => q _ H' n2 hn2 (F2.same s) (b2.trans (But.of s)) ⟨_, .tup hp (IsThs.app _ (IsThs.kp (Kp.of s) g2) (IsThs.kp (Kp.of s) i2)), _, rfl, ?_⟩⟩
   rw [List.length_append, szs_app, Z2p]
   show _ + _ <= _ /\ _ <= z1 + z2 /\ _ <= max e1 e2
   omega
  ·cases h
 ·rename_i m1 m2 q1 q2
  simp only at q1 q2 h
  subst q1 q2
  split at h
  ·rename_i hz
   cases h
   refine Z0z (Z0l Z2e ha hb) fun σ H Q ⟨n, E, F, hn, q⟩ => Zhw E F hn fun x y H2 n2 hn2 F2 b2 d1 d2 => ?_
   obtain ⟨a1, vs1, ts1, rfl, g1, g2, g3, g4, g5⟩ := Z99 d1
   obtain ⟨a2, vs2, ts2, rfl, i1, i2, i3, i4, i5⟩ := Z99 d2
   have l1 := IsThs.len _ g2
   have l2 := IsThs.len _ i2
   have u1 := Z1b ts1
   have u2 := Z1b ts2
   refine ⟨a1, a2, vs1, vs2, rfl, rfl, g1, i1, Z6e (by omega), fun p hp => ?_⟩
   have s := Z01 (o := .lst (vs1 ++ vs2)) hp
   refine q _ _ n2 hn2 (F2.same s) (b2.trans (But.of s)) ⟨_, .lst Z00 (IsThs.app _ (IsThs.kp (Kp.of s) g2) (IsThs.kp (Kp.of s) i2)), _, rfl, ?_⟩
   rw [List.length_append, szs_app, Z2p]
   show _ + _ <= _ /\ _ <= z1 + z2 /\ _ <= max e1 e2
   omega
  ·cases h
 ·cases h
theorem Zlt {f : Expr -> Option (Bd × Nat)} (hf : ∀ e k c, f e = some (k, c) -> PE X e (TMk fi d l ns G k c)) {a b : Expr} {op : Operator} {pos : Pos} {k : Bd} {c : Nat} (h : Zng f a op b = some (k, c)) : PE X (.BinOp a op b pos) (TMk fi d l ns G k c) := by
 unfold Zng at h
 split at h
 ·split at h
  ·rename_i hm
   cases h
   exact Z7b (Z0l Zcl Z05 Z05) (fun σ H Q q => ⟨_, _, rfl, rfl, ⟨hm.1, by omega, hm.2.2⟩, q⟩) (Z97 rfl)
  ·cases h
 ·split at h
  ·rename_i x _ _ j _ _ hm
   cases h
   refine Z0z (Z0l Zjm Z09 Z05) fun σ H Q ⟨n, E, F, hn, q⟩ => ⟨_, _, rfl, rfl, hm.1, by omega, hm.2.2.1, by omega, fun r hr => q _ H n (Nat.le_refl _) F (But.refl d H) (Z43 ?_ H)⟩
   have : x.length * j.toNat <= 30 * 30 := Nat.mul_le_mul hm.2.2.2 (by omega)
   omega
  ·cases h
 ·split at h
  ·rename_i k1 c1 k2 c2 h1 h2
   cases h3 : Zm8 k1 k2 with
   | none => rw [h3] at h; cases h
   | some k3 => rw [h3] at h; cases h; exact Zem (hf _ _ _ h1) (hf _ _ _ h2) h3
  ·cases h
 ·cases h
theorem Z3q {H : Hp} {vs : List V} {ts : List Th} (h : IsThs H vs ts) (lo hi : Option Int) : ∃ us, IsThs H (Z3s vs lo hi) us /\ szs us <= szs ts /\ dps us <= dps ts := by
 unfold Z3s
 have hz : ∀ (xs : List Th) (n : Nat), (szs (xs.take n) <= szs xs /\ dps (xs.take n) <= dps xs) /\ (szs (xs.drop n) <= szs xs /\ dps (xs.drop n) <= dps xs) := fun xs n => by
  have e := List.take_append_drop n xs
  have h1 := szs_app (xs.take n) (xs.drop n)
  have h2 := Z2p (xs.take n) (xs.drop n)
  rw [e] at h1 h2
  omega
 refine ⟨_, Zbi _ (Zbj _ h), ?_⟩
 have h1 := (hz (ts.drop (HT.sIx vs.length 0 lo)) (HT.sIx vs.length vs.length hi - HT.sIx vs.length 0 lo)).1
 have h2 := (hz ts (HT.sIx vs.length 0 lo)).2
 omega
theorem Znh {a : Expr} {lo hi : Option Expr} {p2 pos : Pos} {k1 k : Bd} {c : Nat} (ha : PE X a (TMk fi d l ns G k1 c)) (hl : Zcc lo = true) (hh : Zcc hi = true) (h : slK k1 = some k) : PE X (.Subscript a (.Slice lo hi none p2) pos) (TMk fi d l ns G k c) := by
 obtain ⟨o1, p1⟩ := Zek (X := X) hl
 obtain ⟨o2, p2'⟩ := Zek (X := X) hh
 obtain ⟨sh, z, e⟩ := k1
 cases sh with
 | tup m =>
  cases h
  refine Z0z (Z16 Z5v ha p1 p2') fun σ H Q ⟨n, E, F, hn, k'⟩ => ⟨n, E, F, hn, fun x H1 n1 hn1 F1 b1 d1 => ?_⟩
  obtain ⟨a1, vs1, ts1, rfl, g1, g2, g3, g4, g5⟩ := Z98 d1
  refine ⟨a1, vs1, rfl, g1, fun p H' s hp => k' _ H' n1 hn1 (F1.same s) (b1.trans (But.of s)) ?_⟩
  obtain ⟨us, i1, i2, i3⟩ := Z3q g2 o1 o2
  exact ⟨.tup us, .tup hp (IsThs.kp (Kp.of s) i1), us, rfl, Nat.zero_le _, by show _ <= z; omega, by show _ <= e; omega⟩
 | str =>
  cases h
  refine Z0z (Z16 Zan ha p1 p2') fun σ H Q ⟨n, E, F, hn, k'⟩ => ⟨n, E, F, hn, fun x H1 n1 hn1 F1 b1 d1 => ?_⟩
  obtain ⟨x, rfl, hx⟩ := Zhv d1 rfl
  exact ⟨x, rfl, Z6e (by omega), k' _ H1 n1 hn1 F1 b1 (Z43 (Nat.le_trans (Txt.slice_le x _ _) hx) _)⟩
 | _ => cases h
theorem Zjr {a : Expr} {pos p : Pos} {j : Nat} {k1 k : Bd} {c : Nat} (ha : PE X a (TMk fi d l ns G k1 c)) (h : Zgr k1 = some k) : PE X (.Subscript a (.Constant (.int 0) j p) pos) (TMk fi d l ns G k c) := by
 obtain ⟨sh, z, e⟩ := k1
 unfold Zgr at h
 split at h
 ·rename_i m q1
  simp only at q1
  subst q1
  cases h
  refine Z0z (Z18 Z1s ha Z05 (fun _ _ => rfl)) fun σ H Q ⟨n, E, F, hn, q⟩ => ⟨n, E, F, hn, fun x H1 n1 hn1 F1 b1 d1 => ?_⟩
  obtain ⟨a1, vs1, ts1, rfl, g1, g2, g3, g4, g5⟩ := Z98 d1
  cases g2 with
  | nil => simp at g3
  | @cons v1 vr t1 tr c1 c2 =>
   rw [szs] at g4
   rw [dps] at g5
   exact ⟨a1, _, 0, v1, rfl, rfl, SqT.of g1, Z1w _ _, q v1 H1 n1 hn1 F1 b1 ⟨t1, c1, by show _ <= z /\ _ <= e; omega⟩⟩
 ·cases h
theorem Zjs (C : MadeCx X fi G fs) (hf : fs.ls = true) {p pos : Pos} {e : Expr} {k1 k : Bd} {c : Nat} (he : PE X e (TMk fi d l ns G k1 c)) (hs : starEach [e] X.env = [(false, eval e X.env)]) (h : Zjn k1 = some k) :
  PE X (.Call (.Name "list" p) [e] [] pos) (TMk fi d l ns G k c) := by
 obtain ⟨hg, hmg⟩ := C.lst hf
 obtain ⟨sh, z, e1⟩ := k1
 cases sh with
 | tup m =>
  cases h
  refine Z0z (Z1a Z2j hg hmg (by rfl) (Z08 he Z02 hs) (by decide +kernel) (by decide +kernel) hs rfl) fun σ H Q ⟨n, E, F, hn, kq⟩ => ⟨n, E, F, hn, fun x H1 n1 hn1 F1 b1 d1 => ?_⟩
  obtain ⟨a1, vs1, ts1, rfl, g1, g2, g3, g4, g5⟩ := Z98 d1
  refine ⟨a1, vs1, rfl, .inr (SqT.of g1), fun p hp => ?_⟩
  have s := Z01 (o := .lst vs1) hp
  exact kq _ _ n1 hn1 (F1.same s) (b1.trans (But.of s)) ⟨.lst ts1, .lst Z00 (IsThs.kp (Kp.of s) g2), ts1, rfl, g3, g4, g5⟩
 | _ => cases h
theorem Zlu {e : Expr} {pos : Pos} {env : Env} (h : starEach [e] env = [(false, eval e env)]) : (backTo pos (starEach [e] env)).any (·.1) = false := by rw [h]; rfl
theorem Zlv (C : MadeCx X fi G fs) {p q pos : Pos} {e : Expr} {k1 k : Bd} {c : Nat} (he : PE X e (TMk fi d l ns G k1 c)) (hs : starEach [e] X.env = [(false, eval e X.env)]) (h : Zm9 k1 = some k) :
  PE X (.Call (.Name "_law_one" p) [.Name Z6l q, e] [] pos) (TMk fi d l ns G k (c + 1)) := by
 obtain ⟨f, fd, kk, hF, hr, hg, hm, hkp, hb⟩ := C.one
 obtain ⟨sh, z, e1⟩ := k1
 unfold Zm9 at h
 split at h
 ·rename_i m q1
  simp only at q1
  subst q1
  split at h
  ·rename_i hz
   cases h
   refine Z0z (Z07 hF hr hg hm hkp hb .nil Z0f (Z08 (Zei C) (Z08 he Z02 hs) rfl) (by decide +kernel) rfl (Zlu hs)) fun σ H Q ⟨n, E, F, hn, kq⟩ => ?_
   refine ⟨_, E.fd, n, E, F, by omega, fun x H1 n1 hn1 F1 b1 d1 => ?_⟩
   obtain ⟨a1, vs1, ts1, rfl, g1, g2, g3, g4, g5⟩ := Z99 d1
   have l1 := IsThs.len _ g2
   have u1 := Z1b ts1
   unfold lim at hn
   refine ⟨d, l, a1, ns, n1, vs1, rfl, F1, by omega, g1, by omega, by simp only at hz; omega, fun v n' H' hv hn' F' B' => kq v H' n' (by omega) F' (b1.trans B') ?_⟩
   obtain ⟨i, hi⟩ := List.getElem?_of_mem hv
   obtain ⟨t, ht, h1⟩ := Z22 _ g2 hi
   have hm := List.mem_of_getElem? ht
   have := Z6z ts1 t hm
   have := Zee ts1 t hm
   exact ⟨t, IsTh.kp (B'.kp F1) h1, by show _ <= z /\ _ <= e1; omega⟩
  ·cases h
 ·cases h
theorem Zlw (C : MadeCx X fi G fs) (hf : fs.od = true) {p q pos : Pos} {e : Expr} {k1 : Bd} {c : Nat} (he : PE X e (TMk fi d l ns G k1 c)) (hs : starEach [e] X.env = [(false, eval e X.env)]) (h : Zjo k1 = true) :
  PE X (.Call (.Name "_law_odd" p) [.Name Z6l q, e] [] pos) (TMk fi d l ns G ⟨.any, 100, 1⟩ (c + 1)) := by
 obtain ⟨f, fd, kk, hF, hr, hg, hm, hkp, hb⟩ := C.odd hf
 refine Z0z (Z07 hF hr hg hm hkp hb .nil Z0f (Z08 (Zei C) (Z08 he Z02 hs) rfl) (by decide +kernel) rfl (Zlu hs)) fun σ H Q ⟨n, E, F, hn, kq⟩ => ?_
 refine ⟨_, E.fd, n, E, F, by omega, fun x H1 n1 hn1 F1 b1 d1 => ?_⟩
 obtain ⟨x, rfl, hx⟩ := Zhv d1 h
 exact ⟨d, l, ns, n1, x, rfl, F1, by omega, hx, fun v n' H' dv hn' F' B' => kq v H' n' (by omega) F' (b1.trans B') dv⟩
theorem Zen {H : Hp} {p : Addr} (h : H p = some (.lst (wordsT.map V.str))) : Den ⟨.lst 13, 13, 0⟩ H (.ref p) := by
 exact ⟨.lst ((wordsT.map V.str).map Th.at), .lst h (Za1 (by decide +kernel)), _, rfl, by decide +kernel, by decide +kernel, by decide +kernel⟩
theorem Zgu (C : MadeCx X fi G fs) (hf : fs.wd = true) {p pos : Pos} : PE X (.Call (.Name "_law_words" p) [] [] pos) (TMk fi d l ns G ⟨.lst 13, 13, 0⟩ 0) := by
 obtain ⟨f, fd, kk, hF, hr, hg, hm, hkp, hb⟩ := C.wds hf
 refine Z0z (Z7g hF hr hg hm hkp hb .nil Z0f) fun σ H Q ⟨n, E, F, hn, kq⟩ => ?_
 refine ⟨rfl, fun p hp => ?_⟩
 have s := Z01 (o := .lst (wordsT.map V.str)) hp
 exact kq _ _ n (Nat.le_refl _) (F.same s) (But.of s) (Zen Z00)
theorem Zjt (C : MadeCx X fi G fs) {f : Expr -> Option (Bd × Nat)} (hf : ∀ e k c, f e = some (k, c) -> PE X e (TMk fi d l ns G k c)) (hs : ∀ e r es, f e = some r -> starEach (e :: es) X.env = (false, eval e X.env) :: starEach es X.env)
  {g : Str} {args : List Expr} {p pos : Pos} {k : Bd} {c : Nat} (h : Zjp fs f g args = some (k, c)) : PE X (.Call (.Name g p) args [] pos) (TMk fi d l ns G k c) := by
 unfold Zjp at h
 split at h
 ·split at h
  ·rename_i hm
   obtain ⟨rfl, hw⟩ := hm
   cases h
   exact Zgu C hw
  ·cases h
 ·split at h
  ·rename_i hm
   obtain ⟨rfl, hw⟩ := hm
   split at h
   ·rename_i k1 c1 h1
    cases h3 : Zjn k1 with
    | none => rw [h3] at h; cases h
    | some k3 => rw [h3] at h; cases h; exact Zjs C hw (hf _ _ _ h1) (hs _ _ [] h1) h3
   ·cases h
  ·cases h
 ·split at h
  ·rename_i hx
   subst hx
   split at h
   ·rename_i hg
    subst hg
    split at h
    ·rename_i k1 c1 h1
     cases h3 : Zm9 k1 with
     | none => rw [h3] at h; cases h
     | some k3 => rw [h3] at h; cases h; exact Zlv C (hf _ _ _ h1) (hs _ _ [] h1) h3
    ·cases h
   ·split at h
    ·rename_i hm
     obtain ⟨rfl, hw⟩ := hm
     split at h
     ·rename_i k1 c1 h1
      split at h
      ·rename_i hi
       cases h
       exact Zlw C hw (hf _ _ _ h1) (hs _ _ [] h1) hi
      ·cases h
     ·cases h
    ·cases h
  ·cases h
 ·cases h
theorem Zhx (C : MadeCx X fi G fs) : ∀ (n : Nat) (e : Expr) (k : Bd) (c : Nat), chk fs G n e = some (k, c) -> PE X e (TMk fi d l ns G k c) := by
 intro n
 induction n with
 | zero => intro e k c h; cases h
 | succ n ih =>
  intro e k c h
  have hs : ∀ (e : Expr) (r : Bd × Nat) (es : List Expr), chk fs G n e = some r -> starEach (e :: es) X.env = (false, eval e X.env) :: starEach es X.env := fun e r es h => Zgs h X.env es
  unfold chk at h
  split at h
  ·rename_i cc j p
   cases h1 : Zeh cc with
   | none => rw [h1] at h; cases h
   | some k1 => rw [h1] at h; cases h; exact Zgt h1
  ·rename_i x p
   cases h1 : look G x with
   | none => rw [h1] at h; cases h
   | some r =>
    obtain ⟨i, k1⟩ := r
    rw [h1] at h; cases h
    exact Zlp C h1
  ·split at h
   ·rename_i h1
    split at h
    ·rename_i hl
     cases h
     exact Zlr (Zel _ ih hs h1) hl
    ·cases h
   ·cases h
  ·split at h
   ·rename_i h1
    split at h
    ·rename_i hl
     cases h
     exact Zls (Zel _ ih hs h1) hl
    ·cases h
   ·cases h
  ·cases h
   exact Z7b (Zf2 Zac Z05) (fun σ H Q q => ⟨_, rfl, q⟩) (Z97 rfl)
  ·exact Zlt ih h
  ·exact Zjt C ih hs h
  ·split at h
   ·rename_i hp
    split at h
    ·rename_i k1 c1 h1
     cases h3 : slK k1 with
     | none => rw [h3] at h; cases h
     | some k3 => rw [h3] at h; cases h; exact Znh (ih _ _ _ h1) hp.1 hp.2 h3
    ·cases h
   ·cases h
  ·split at h
   ·rename_i k1 c1 h1
    cases h3 : Zgr k1 with
    | none => rw [h3] at h; cases h
    | some k3 => rw [h3] at h; cases h; exact Zjr (ih _ _ _ h1) h3
   ·cases h
  ·cases h
theorem Zju {e : Expr} {k : Bd} {c c' : Nat} (h : PE X e (TMk fi d l ns G k c')) (hc : c' <= c) : PE X e (TMk fi d l ns G k c) :=
 Z0z h fun σ H Q ⟨n, E, F, hn, q⟩ => ⟨n, E, F, by omega, fun v H' n' hn' => q v H' n' (by omega)⟩
def Zma (fs : Has) (G : Gam) (e : Expr) (z d c : Nat) : Bool := match chk fs G 12 e with
 | some (k', c') => decide (bz k' <= z) && (decide (bd k' <= d) && decide (c' <= c))
 | none => false
theorem Zeo (C : MadeCx X fi G fs) {e : Expr} {z m c : Nat} (h : Zma fs G e z m c = true) : PE X e (TMk fi d l ns G ⟨.any, z, m⟩ c) := by
 unfold Zma at h
 split at h
 ·rename_i k' c' h1
  rw [Bool.and_eq_true, Bool.and_eq_true, decide_eq_true_iff, decide_eq_true_iff, decide_eq_true_iff] at h
  refine Z0z (Zju (Zhx C 12 e _ c' h1) h.2.2) fun σ H Q ⟨n, E, F, hn, q⟩ => ⟨n, E, F, hn, fun v H' n' hn' F' B' ⟨t, a, b⟩ => q v H' n' hn' F' B' ⟨t, a, ?_⟩⟩
  have := b.le
  show _ <= z /\ _ <= m
  omega
 ·cases h
end
def Zni (fs : Has) (G : Gam) (e : Expr) (m z d c : Nat) : Bool := match chk fs G 12 e with
 | some (⟨.lst n, z', d'⟩, c') => decide (m <= n) && (decide (z' <= z) && (decide (d' <= d) && decide (c' <= c)))
 | _ => false
section
variable {X : Cx} {fi : Nat} {d l : Addr} {ns : List Int} {G : Gam} {fs : Has}
theorem Zep (C : MadeCx X fi G fs) {e : Expr} {m z m' c : Nat} (h : Zni fs G e m z m' c = true) : PE X e (TMk fi d l ns G ⟨.lst m, z, m'⟩ c) := by
 unfold Zni at h
 split at h
 ·rename_i n z1 d1 c' h1
  rw [Bool.and_eq_true, Bool.and_eq_true, Bool.and_eq_true, decide_eq_true_iff, decide_eq_true_iff, decide_eq_true_iff, decide_eq_true_iff] at h
  refine Z0z (Zju (Zhx C 12 e _ c' h1) h.2.2.2) fun σ H Q ⟨n, E, F, hn, q⟩ => ⟨n, E, F, hn, fun v H' n' hn' F' B' dv => q v H' n' hn' F' B' ?_⟩
  obtain ⟨t, a, ts, rfl, g1, g2, g3⟩ := dv
  simp only at g2 g3
  exact ⟨_, a, ts, rfl, by omega, by show _ <= z; omega, by show _ <= m'; omega⟩
 ·cases h
end
theorem Zgv : ∀ (n : Nat) {t : Th}, OkT n t -> dp t <= n := by
 intro n
 induction n with
 | zero => intro t h; exact h.elim
 | succ n ih =>
  intro t h
  obtain ⟨w, ts, rfl, _, hk⟩ := h
  have hd : ∀ us : List Th, (∀ x ∈ us, isTup x = true -> OkT n x) -> dps us <= n := by
   intro us
   induction us with
   | nil => intro _; simp [dps]
   | cons x us ihu =>
    intro hu
    rw [dps]
    have h1 := ihu fun y hy => hu y (List.mem_cons_of_mem _ hy)
    have h2 : dp x <= n := by
     cases x with
     | «at» _ => simp [dp]
     | lst _ => simp [dp]
     | tup xs => exact ih (hu _ (List.mem_cons_self ..) rfl)
    omega
  rw [dp, dps, dp]
  have := hd ts hk
  omega
theorem Zgw {H : Hp} {v : V} {t : Th} (h : IsTh H v t) (hl : Zgf t) : Den ⟨.tup 1, 2, 0⟩ H v := by
 have h1 := Zgv 1 hl.1
 have h2 := hl.2.2
 obtain ⟨w, ts, rfl, _⟩ := hl.1
 rw [dp] at h1
 rw [Th.sz] at h2
 exact ⟨_, h, _, rfl, by rw [List.length_cons]; omega, by show _ <= 2; omega, by show _ <= 0; omega⟩
abbrev Zoq : Has := ⟨false, false, false⟩
abbrev has1 : Has := ⟨true, true, true⟩
abbrev GO0 : Gam := [("_law_name_here", 1, ⟨.str, 0, 0⟩)]
abbrev GO1 : Gam := [("_law_name_here", 1, ⟨.str, 0, 0⟩), ("_law_some", 2, ⟨.lst 17, 17, 0⟩)]
section
variable {X : Cx} {G : Gam}
theorem Zgx {f : Addr} {fd : FuncData} {k : Nat} (GO : FnOk X.prog X.w X.K X.mg X.base CX0 k f fd ["_law_feed_here", "_law_some"] spOne) (hr : Room k X.A) (hg : Gl X "_law_one") (hm : X.mg "_law_one" = some (.ref f)) (hk : PySem.W.keepIn X.K (.ref f) = true) (hb : Binds X.K fd ["_law_feed_here", "_law_some"] [])
  (hfd : X.N[0]? = some Z6l /\ Vis X.env.scope Z6l) (hv : Z7a X G) : MadeCx X 0 G Zoq where
 one := ⟨f, fd, k, GO, hr, hg, hm, hk, hb⟩
 wds := fun h => by cases h
 odd := fun h => by cases h
 lst := fun h => by cases h
 feed := hfd
 vars := hv
end
section
variable {P : Program} {w : World} {K : PySem.W.Frag} {mg : Str -> Option Value} {base : Heap}
theorem scOdd : FnScope ["_law_feed_here", "_law_name_here", "_law_some"] ["_law_feed_here", "_law_name_here"] (Z03 Zkx) := ⟨rfl, rfl, rfl, by decide +kernel, rfl, by decide +kernel, by decide +kernel⟩
theorem Zlx {f fD fS fO fW : Addr} {fd dD dS dO dW : FuncData} (F : Fun K "_law_odd" "_law_odd" Zkx f fd) (U : Dr K mg fD fS fO fW dD dS dO dW) : FnOk P w K mg base CX0 3 f fd ["_law_feed_here", "_law_name_here"] spOdd := by
 have GO : FnOk P w K mg base CX0 2 fO dO ["_law_feed_here", "_law_some"] spOne := Z4n U.O U
 refine F.ok scOdd (fun vs H Q E h => ?_) (fun cdv A outer s H vs Q E hr h => ?_)
 ·obtain ⟨d, l, ns, n, x, rfl, _⟩ := h
  rfl
 ·obtain ⟨d, l, ns, n, x, rfl, F0, hn, hx, k⟩ := h
  refine' ⟨?tt, ?body, ?fin⟩
  case body =>
   refine' Z04 ?s1 (Z06 ?s2)
   case s1 => exact Z0c (i := 2) scOdd.nd rfl (Or.inl rfl) (Zep (d := d) (l := l) (ns := ns) (m := 17) (z := 17) (m' := 0) (c := 0) (Zgx (G := GO0) GO hr (by rfl) U.mO U.O.kp U.bO ⟨rfl, Or.inl rfl⟩ ⟨⟨rfl, Or.inl rfl, by decide +kernel, by decide +kernel⟩, trivial⟩) (by decide +kernel))
   case s2 => exact Z0d (Zeo (d := d) (l := l) (ns := ns) (z := 100) (m := 1) (c := 1) (Zgx (G := GO1) GO hr (by rfl) U.mO U.O.kp U.bO ⟨rfl, Or.inl rfl⟩ ⟨⟨rfl, Or.inl rfl, by decide +kernel, by decide +kernel⟩, ⟨rfl, Or.inl rfl, by decide +kernel, by decide +kernel⟩, trivial⟩) (by decide +kernel))
  case fin =>
   refine ⟨n, Z1o (env0 rfl) rfl (Z43 hx _), F0, by omega, fun v1 H1 n1 hn1 F1 b1 d1 => ?_⟩
   exact ⟨n1, Z1o (Z1o (env0 rfl) rfl d1) rfl (Z43 hx _), F1, by omega, fun v2 H2 n2 hn2 F2 b2 d2 => k v2 n2 H2 d2 (by omega) F2 (b1.trans b2)⟩
end
abbrev eBd : Bd := ⟨.tup 1, 600, 40⟩
abbrev Znw : Bd := ⟨.any, 20000, 45⟩
def spBent : Sp := fun vs H Q _ => ∃ (d l wd nm lt cl : Addr) (ns : List Int) (n : Nat) (r : Int) (T1 T2 T3 : List Str) (v : V), vs = [.ref d, .ref wd, v] /\ Feed H d l ns n /\ n <= 600000000000 /\ H wd = some (.dK (Z0s nm lt cl r)) /\ Nms H nm lt cl T1 T2 T3 /\ Den eBd H v ∧
 ∀ (v' : V) n' H', Den Znw H' v' -> n' <= n + 20 -> Feed H' d l ns n' -> But d H H' -> Q v' H'
def TRt (d l : Addr) (ns : List Int) (G : Gam) (wi : Nat) : TS := fun D σ H => ∃ n w, EnvOk 0 d G σ H /\ σ[wi]? = some (some (.int w)) /\ 7 <= σ.length /\ Feed H d l ns n /\ n + 10 <= lim ∧
 ∀ v H' n', n' <= n + 10 -> Feed H' d l ns n' -> But d H H' -> Den Znw H' v -> D.rt v H'
section
variable {X : Cx} {d l : Addr} {ns : List Int} {G : Gam} {fs : Has} {wi : Nat}
theorem Zeq {e : Expr} {z m c : Nat} {pos : Pos} (h : PE X e (TMk 0 d l ns G ⟨.any, z, m⟩ c)) (hz : z <= 20000) (hm : m <= 45) (hc : c <= 10) : PSs X [.Return (some e) pos] (TRt d l ns G wi) := by
 intro pins s σ H D I ⟨n, w, E, hw, hl, F, hn, q⟩
 refine Z06 (Z0d (Zju h hc)) pins s σ H D I ⟨n, E, F, hn, fun v H' n' hn' F' B' ⟨t, a, b⟩ => q v H' n' hn' F' B' ⟨t, a, ?_⟩⟩
 have b : _ <= z /\ _ <= m := b
 show _ <= 20000 /\ _ <= 45
 omega
theorem Z3j (C : MadeCx X 0 G fs) {e : Expr} {pos : Pos} (h : Zma fs G e 20000 45 10 = true) : PSs X [.Return (some e) pos] (TRt d l ns G wi) :=
 Zeq (Zeo C h) (Nat.le_refl _) (Nat.le_refl _) (Nat.le_refl _)
theorem Z4q {wn : Str} {body rest : List Stmt} {i : Int} {j : Nat} {p q r pos : Pos} (h1 : X.N[wi]? = some wn) (h2 : Vis X.env.scope wn) (h3 : (wn == ("__debug__" : Str)) = false) (h4 : (wn == ("__classdict__" : Str)) = false)
  (hb : PSs X body (TRt d l ns G wi)) (hr : PSs X rest (TRt d l ns G wi)) : PSs X (.If (.Compare (.Name wn p) [.Eq] [.Constant (.int i) j q] r) body [] pos :: rest) (TRt d l ns G wi) := by
 intro pins s σ H D I hT
 refine Z04 (Z10 (Z0b Z1p (Z81 h1 h2 h3 h4) Z05 (Z0k _)) hb Z0g) hr pins s σ H D I ?_
 have hT' := hT
 obtain ⟨n, w, _, e, _⟩ := hT
 exact ⟨_, e, rfl, _, rfl, Z14 (fun g => hT') (fun g => hT')⟩
theorem Zjv {σ : St} {H : Hp} {i : Nat} {o : Option V} (E : EnvOk 0 d G σ H) (h0 : i ≠ 0) (hG : (G.all fun p => decide (p.2.1 ≠ i)) = true) : EnvOk 0 d G (σ.set i o) H := by
 refine ⟨by rw [List.getElem?_set_ne h0]; exact E.fd, fun p hp => ?_⟩
 have := of_decide_eq_true (List.all_eq_true.mp hG p hp)
 rw [List.getElem?_set_ne (Ne.symm this)]
 exact E.vs p hp
theorem Zjw {st : Stmt} {rest : List Stmt} {x : Str} {i m z m' : Nat} (h1 : PS X st (Zk9 (TMk 0 d l ns G ⟨.lst m, z, m'⟩ 0) (Z83 i))) (h2 : PSs X rest (TRt d l ns ((x, i, ⟨.lst m, z, m'⟩) :: G) wi))
  (h0 : i ≠ 0) (hi : i < 7) (hw : i ≠ wi) (hG : (G.all fun p => decide (p.2.1 ≠ i)) = true) : PSs X (st :: rest) (TRt d l ns G wi) := by
 intro pins s σ H D I ⟨n, w, E, hwi, hl, F, hn, q⟩
 refine Z04 h1 h2 pins s σ H D I ⟨n, E, F, by omega, fun v H' n' hn' F' B' dv => ?_⟩
 refine ⟨n', w, Z1o (Zjv (E.but F B') h0 hG) (by rw [List.getElem?_set_self (by omega)]) dv, by rw [List.getElem?_set_ne hw]; exact hwi, by rw [List.length_set]; exact hl, F', by omega, fun v2 H2 n2 hn2 F2 B2 d2 => q v2 H2 n2 (by omega) F2 (B'.trans B2) d2⟩
end
abbrev GB : Gam := [("_law_e", 2, eBd), ("_law_leaf_here", 4, ⟨.tup 1, 2, 0⟩), ("_law_name_here", 5, ⟨.str, 0, 0⟩)]
abbrev GB3 : Gam := ("_law_some", 6, ⟨.lst 10, 700, 42⟩) :: GB
abbrev NB : List Str := ["_law_feed_here", "_law_world_here", "_law_e", "_law_way", "_law_leaf_here", "_law_name_here", "_law_some"]
theorem Zly : (["_law_leaf_here", "_law_k"] : List Str).Nodup := by decide +kernel
section
variable {X : Cx} {d l : Addr} {ns : List Int} {G : Gam} {fs : Has}
theorem Zhy {e : Expr} {k : Bd} {c z m : Nat} (h : PE X e (TMk 0 d l ns G k c)) (hz : bz k <= z) (hm : bd k <= m) : PE X e (TMk 0 d l ns G ⟨.any, z, m⟩ c) := by
 refine Z0z h fun σ H Q ⟨n, E, F, hn, q⟩ => ⟨n, E, F, hn, fun v H' n' hn' F' B' ⟨t, a, b⟩ => q v H' n' hn' F' B' ⟨t, a, ?_⟩⟩
 have := b.le
 show _ <= z /\ _ <= m
 omega
theorem Z7c {p pos : Pos} {e : Expr} {m z e1 c : Nat} (hg : Gl X "tuple") (hm : X.mg "tuple" = none) (he : PE X e (TMk 0 d l ns G ⟨.lst m, z, e1⟩ c)) (hs : starEach [e] X.env = [(false, eval e X.env)]) :
  PE X (.Call (.Name "tuple" p) [e] [] pos) (TMk 0 d l ns G ⟨.tup m, z, e1⟩ c) := by
 refine Z0z (Z1a Z1f hg hm (by rfl) (Z08 he Z02 hs) (by decide +kernel) (by decide +kernel) hs rfl) fun σ H Q ⟨n, E, F, hn, kq⟩ => ⟨n, E, F, hn, fun x H1 n1 hn1 F1 b1 d1 => ?_⟩
 obtain ⟨a1, vs1, ts1, rfl, g1, g2, g3, g4, g5⟩ := Z99 d1
 refine ⟨a1, vs1, rfl, .inl ⟨SqL.of g1, fun p hp => ?_⟩⟩
 have s := Z01 (o := .tup vs1) hp
 exact kq _ _ n1 hn1 (F1.same s) (b1.trans (But.of s)) ⟨.tup ts1, .tup Z00 (IsThs.kp (Kp.of s) g2), ts1, rfl, g3, g4, g5⟩
theorem Zlz {fO fW fA : Addr} {dO dW dA : FuncData} {kW : Nat} (GO : FnOk X.prog X.w X.K X.mg X.base CX0 2 fO dO ["_law_feed_here", "_law_some"] spOne) (GW : FnOk X.prog X.w X.K X.mg X.base CX0 kW fW dW [] spWords) (GA : FnOk X.prog X.w X.K X.mg X.base CX0 3 fA dA ["_law_feed_here", "_law_name_here"] spOdd)
  (hr : Room 3 X.A) (hkW : kW <= 3) (hg : Gl X "_law_one" /\ Gl X "_law_words" /\ Gl X "_law_odd" /\ Gl X "list") (hmO : X.mg "_law_one" = some (.ref fO)) (hmW : X.mg "_law_words" = some (.ref fW)) (hmA : X.mg "_law_odd" = some (.ref fA)) (hml : X.mg "list" = none)
  (kO : PySem.W.keepIn X.K (.ref fO) = true) (kWk : PySem.W.keepIn X.K (.ref fW) = true) (kA' : PySem.W.keepIn X.K (.ref fA) = true) (bO : Binds X.K dO ["_law_feed_here", "_law_some"] []) (bW : Binds X.K dW [] []) (bA : Binds X.K dA ["_law_feed_here", "_law_name_here"] [])
  (hfd : X.N[0]? = some Z6l /\ Vis X.env.scope Z6l) (hv : Z7a X G) : MadeCx X 0 G has1 where
 one := ⟨fO, dO, 2, GO, hr.mono (by omega), hg.1, hmO, kO, bO⟩
 wds := fun _ => ⟨fW, dW, kW, GW, hr.mono hkW, hg.2.1, hmW, kWk, bW⟩
 odd := fun _ => ⟨fA, dA, 3, GA, hr, hg.2.2.1, hmA, kA', bA⟩
 lst := fun _ => ⟨hg.2.2.2, hml⟩
 feed := hfd
 vars := hv
theorem Z7d {E' : XK} (σ : St) (H : Hp) (Q : VK) (h : TMk 0 d l ns GB ⟨.lst 0, 24, 1⟩ 1 σ H Q) :
  Zie [some 4, none] (Zka (Z7f (Zi9 spDraw [] E' (Z7f (Zk6 0) (Z7f (tC (.int 9)) tNil))) tNil)) (Z83 1) tNoTest (Zk6 0) σ H Q := by
 have hsz : sizeLine = 16777216 := sizeLine_eq
 obtain ⟨n, E, F, hn, q⟩ := h
 obtain ⟨lv, e4, dl⟩ := E.vs ("_law_leaf_here", 4, ⟨.tup 1, 2, 0⟩) (by simp [GB])
 unfold lim at hn
 refine ⟨_, E.fd, d, l, ns, n, 9, rfl, F, by omega, by decide, by decide, fun m n2 H2 q0 q1 hn2 F2 b2 => ⟨m, rfl, by omega, by omega, ?_⟩⟩
 have e4 : σ[4]? = some (some lv) := e4
 have hl : Zd1 [some 4, none] σ = [some lv, none] := by
  show [(σ[4]?).getD none, none] = _
  rw [e4]
  rfl
 rw [hl]
 obtain ⟨tl, hth, hfit⟩ := dl.kp (b2.kp F)
 have hle := hfit.le
 have hle : Th.sz tl <= 3 /\ dp tl <= 1 := hle
 refine Z3m (lo := 0) (n := m.toNat) (fun j ys σc H' => ∃ (o : Option V) (ts : List Th), σc = [some lv, o] /\ H' = H2 /\ IsThs H' ys ts /\ ts.length = j /\ szs ts <= 3 * j /\ dps ts <= 1) ⟨none, [], rfl, rfl, .nil, rfl, by rw [szs]; omega, by rw [dps]; omega⟩ ?_ ?_
 ·rintro j ys σc H' hj ⟨o, ts, rfl, rfl, hts, hlen, hz, hd⟩
  have := IsThs.len _ hts
  refine ⟨by omega, _, rfl, nx hj ⟨_, ts ++ [tl], rfl, rfl, IsThs.app _ hts (.cons hth .nil), by rw [List.length_append, hlen]; rfl, ?_, ?_⟩⟩
  ·rw [szs_app, szs, szs]; omega
  ·rw [Z2p, dps, dps]; omega
 ·rintro ys σc H' ⟨o, ts, rfl, rfl, hts, hlen, hz, hd⟩ p hp
  have s := Z01 (o := .lst ys) hp
  exact q _ _ n2 (by omega) (F2.same s) (b2.trans (But.of s)) ⟨.lst ts, .lst Z00 (IsThs.kp (Kp.of s) hts), ts, rfl, Nat.zero_le _, by show _ <= 24; omega, by show _ <= 1; omega⟩
end
section
variable {P : Program} {w : World} {K : PySem.W.Frag} {mg : Str -> Option Value} {base : Heap}
theorem scBent : FnScope NB ["_law_feed_here", "_law_world_here", "_law_e"] (Z03 Z6k) := ⟨rfl, rfl, rfl, by decide +kernel, rfl, by decide +kernel, by decide +kernel⟩
theorem Zjx {f fA fL fV fD fS fO fW : Addr} {fd dA dL dV dD dS dO dW : FuncData} (F : Fun K "_law_bent" "_law_bent" Z6k f fd) (U : Dr K mg fD fS fO fW dD dS dO dW) (htup : mg "tuple" = none) (hlist : mg "list" = none)
  (FA : Fun K "_law_odd" "_law_odd" Zkx fA dA) (bA : Binds K dA ["_law_feed_here", "_law_name_here"] []) (mA : mg "_law_odd" = some (.ref fA))
  (FV : Fun K "_law_value" "_law_value" Z27 fV dV) (bV : Binds K dV ["_law_feed_here"] []) (mV : mg "_law_value" = some (.ref fV)) (FL : Fun K "_law_leaf" "_law_leaf" Z9n fL dL) (bL : Binds K dL ["_law_feed_here", "_law_world_here", "_law_bound"] []) (mL : mg "_law_leaf" = some (.ref fL)) :
  FnOk P w K mg base CX0 4 f fd ["_law_feed_here", "_law_world_here", "_law_e"] spBent := by
 have GD : FnOk P w K mg base CX0 1 fD dD ["_law_feed_here", "_law_many"] spDraw := Z37 U.D U.T
 have GO : FnOk P w K mg base CX0 2 fO dO ["_law_feed_here", "_law_some"] spOne := Z4n U.O U
 have GL : FnOk P w K mg base CX0 3 fL dL ["_law_feed_here", "_law_world_here", "_law_bound"] spLeaf := Z9z FL U FV bV mV
 have GW : FnOk P w K mg base CX0 1 fW dW [] spWords := Zbe U.W
 have GA : FnOk P w K mg base CX0 3 fA dA ["_law_feed_here", "_law_name_here"] spOdd := Zlx FA U
 refine F.ok scBent (fun vs H Q E h => ?_) (fun cdv A outer s H vs Q E hr h => ?_)
 ·obtain ⟨d, l, wd, nm, lt, cl, ns, n, r, T1, T2, T3, v, rfl, _⟩ := h
  rfl
 ·obtain ⟨d, l, wd, nm, lt, cl, ns, n, r, T1, T2, T3, v, rfl, F0, hn, W0, N0, D0, k⟩ := h
  have hsz : sizeLine = 16777216 := sizeLine_eq
  have hu := Z9j hr
  have hr1 : Room 1 _ := hr.mono (by omega)
  have hr2 : Room 2 _ := hr.mono (by omega)
  have hr3 : Room 3 _ := hr.mono (by omega)
  have hv2 : Z7a ((Z9e CX0 P w K mg base NB "_law_bent" (Z03 Z6k) f cdv A outer s H E).nox) GB := ⟨⟨rfl, Or.inl rfl, by decide +kernel, by decide +kernel⟩, ⟨rfl, Or.inr (Or.inl rfl), by decide +kernel, by decide +kernel⟩, ⟨rfl, Or.inl rfl, by decide +kernel, by decide +kernel⟩, trivial⟩
  have C : MadeCx ((Z9e CX0 P w K mg base NB "_law_bent" (Z03 Z6k) f cdv A outer s H E).nox) 0 GB has1 := Zlz GO GW GA hr3 (by omega) ⟨by rfl, by rfl, by rfl, by rfl⟩ U.mO U.mW mA hlist U.O.kp U.W.kp FA.kp U.bO U.bW bA ⟨rfl, Or.inl rfl⟩ hv2
  have C3 : MadeCx ((Z9e CX0 P w K mg base NB "_law_bent" (Z03 Z6k) f cdv A outer s H E).nox) 0 GB3 has1 := Zlz GO GW GA hr3 (by omega) ⟨by rfl, by rfl, by rfl, by rfl⟩ U.mO U.mW mA hlist U.O.kp U.W.kp FA.kp U.bO U.bW bA ⟨rfl, Or.inl rfl⟩ ⟨⟨rfl, Or.inl rfl, by decide +kernel, by decide +kernel⟩, hv2⟩
  refine' ⟨?tt, ?body, ?fin⟩
  case body =>
   refine' Z04 ?s1 ?r1
   case s1 => exact Z0c (i := 3) scBent.nd rfl (Or.inl rfl) (Z07 GD hr1 (by rfl) U.mD U.D.kp U.bD .nil Z0f (Z0j (pv 0) (Z1y Z05 Z02)))
   case r1 =>
    refine' Z04 ?s2 ?r2
    case s2 => exact Z0c (i := 4) scBent.nd rfl (Or.inr rfl) (Z07 GL hr3 (by rfl) mL FL.kp bL .nil Z0f (Z0j (pv 0) (Z0j (pv 1) (Zkn (Z0y Z02) Z02))))
    case r2 =>
     refine' Z04 ?s3 ?r3
     case s3 => exact Z0c (i := 5) scBent.nd rfl (Or.inl rfl) (Z07 GO hr2 (by rfl) U.mO U.O.kp U.bO .nil Z0f (Z0j (pv 0) (Z08 (Z0l Z2e (Z17 hu (pv 1) Z09 (fun _ _ => rfl)) (Z17 hu (pv 1) Z09 (fun _ _ => rfl))) Z02)))
     case r3 =>
      refine' Z4q (d := d) (l := l) (ns := ns) (G := GB) (wi := 3) rfl (Or.inl rfl) (by decide +kernel) (by decide +kernel) ?w0 ?q0
      case w0 => exact Z3j C (by decide +kernel)
      case q0 =>
       refine' Z4q rfl (Or.inl rfl) (by decide +kernel) (by decide +kernel) ?w1 ?q1
       case w1 => exact Z3j C (by decide +kernel)
       case q1 =>
        refine' Z4q rfl (Or.inl rfl) (by decide +kernel) (by decide +kernel) ?w2 ?q2
        case w2 => exact Z3j C (by decide +kernel)
        case q2 =>
         refine' Z4q rfl (Or.inl rfl) (by decide +kernel) (by decide +kernel) ?w3 ?q3
         case w3 =>
          refine' @Zjw _ d l ns GB 3 _ _ "_law_some" 6 10 700 42 ?a1 ?a2 ?h0 ?h1 ?h2 ?h3
          case h0 => decide
          case h1 => decide
          case h2 => decide
          case h3 => decide +kernel
          case a2 => exact Z3j C3 (by decide +kernel)
          case a1 =>
           refine' Z0c (i := 6) ?ha ?hb ?hc ?hd ?he ?hf
           case ha => exact scBent.nd
           case hb => exact rfl
           case hc => exact (Or.inl rfl)
           case he => exact rfl
           case hf => exact (.inr rfl)
           case hd =>
            refine' @Zep _ 0 d l ns GB has1 C _ 10 700 42 0 ?hh
            case hh => decide +kernel
         case q3 =>
          refine' Z4q rfl (Or.inl rfl) (by decide +kernel) (by decide +kernel) ?w4 ?q4
          case w4 =>
           refine' Zeq (Zhy (z := 27) (m := 2) (Z7c (by rfl) htup (Zem (k2 := ⟨.lst 0, 24, 1⟩) (k := ⟨.lst 1, 26, 1⟩) (c2 := 1) (Zep (m := 1) (z := 2) (m' := 0) (c := 0) C (by decide +kernel)) ?cc rfl) rfl) ?z1 ?z2) ?z3 ?z4 ?z5
           case cc =>
            refine' Z0z ?pc ?pr
            case pc =>
             refine' Z21 (N' := ["_law_leaf_here", "_law_k"]) (src := [some 4, none]) ?k1 ?k5 ?k6 ?k7
             case k1 => rfl
             case k5 => exact Z0m (Z03 Z6k) rfl NB rfl (by decide +kernel)
             case k6 => exact Z19 (by rfl) U.T.range (Z6h (Z07 GD hr1 (by rfl) U.mD U.D.kp U.bD .nil Z0f (Z0j (pv 0) (Z1y Z05 Z02))) Z02)
             case k7 => exact fun cl C ex s0 H0 => ⟨Z0o (i := 1) Zly rfl (Or.inl rfl), Z2o, pv 0⟩
            case pr => exact Z7d
           case z1 => exact Nat.le_refl _
           case z2 => exact Nat.le_refl _
           case z3 => decide
           case z4 => decide
           case z5 => decide
          case q4 =>
           refine' Z4q rfl (Or.inl rfl) (by decide +kernel) (by decide +kernel) ?w5 ?q5
           case w5 =>
            refine' Zeq (Zhy (z := 27) (m := 2) (Z7c (by rfl) htup (Zem (k2 := ⟨.lst 0, 24, 1⟩) (k := ⟨.lst 1, 26, 1⟩) (c2 := 1) (Zep (m := 1) (z := 2) (m' := 0) (c := 0) C (by decide +kernel)) ?cc rfl) rfl) ?z1 ?z2) ?z3 ?z4 ?z5
            case cc =>
             refine' Z0z ?pc ?pr
             case pc =>
              refine' Z21 (N' := ["_law_leaf_here", "_law_k"]) (src := [some 4, none]) ?k1 ?k5 ?k6 ?k7
              case k1 => rfl
              case k5 => exact Z0m (Z03 Z6k) rfl NB rfl (by decide +kernel)
              case k6 => exact Z19 (by rfl) U.T.range (Z6h (Z07 GD hr1 (by rfl) U.mD U.D.kp U.bD .nil Z0f (Z0j (pv 0) (Z1y Z05 Z02))) Z02)
              case k7 => exact fun cl C ex s0 H0 => ⟨Z0o (i := 1) Zly rfl (Or.inl rfl), Z2o, pv 0⟩
             case pr => exact Z7d
            case z1 => exact Nat.le_refl _
            case z2 => exact Nat.le_refl _
            case z3 => decide
            case z4 => decide
            case z5 => decide
           case q5 =>
            refine' Z4q rfl (Or.inl rfl) (by decide +kernel) (by decide +kernel) ?w6 ?q6
            case w6 => exact Z3j C (by decide +kernel)
            case q6 =>
             refine' Z4q rfl (Or.inl rfl) (by decide +kernel) (by decide +kernel) ?w7 ?q7
             case w7 => exact Z3j C (by decide +kernel)
             case q7 =>
              refine' Z4q rfl (Or.inl rfl) (by decide +kernel) (by decide +kernel) ?w8 ?q8
              case w8 => exact Z3j C (by decide +kernel)
              case q8 => exact Z3j C (by decide +kernel)
  case fin =>
   refine ⟨_, rfl, d, l, ns, n, _, rfl, F0, by omega, by decide, by decide, fun wy n1 H1 _ _ hn1 F1 b1 => ?_⟩
   have W1 := b1 wd _ W0 (Z26 F0 W0)
   have N1 := N0.kp (b1.kp F0)
   have D1 := D0.kp (b1.kp F0)
   refine ⟨_, rfl, _, rfl, Nat.zero_le _, fun c hc => ?_⟩
   have sc := Z01 (o := .lst []) hc
   refine ⟨d, l, wd, nm, lt, cl, c, ns, n1, r, T1, T2, T3, [], rfl, F1.same sc, by omega, sc _ _ W1, N1.kp (Kp.of sc), Z00, by decide, (fun t ht => by cases ht), fun lv tl n2 H2 hlv hlt hn2 F2 b2' => ?_⟩
   have b2 := (But.of (d := d) sc).trans b2'
   have W2 := b2 wd _ W1 (Z26 F1 W1)
   have N2 := N1.kp (b2.kp F1)
   have D2 := D1.kp (b2.kp F1)
   have L2 := Zgw hlv hlt
   have ha1 := N2.a1
   have ha2 := N2.a2
   have hb2 := N2.b2
   refine ⟨_, rfl, _, rfl, wd, .ref nm, rfl, Z30 W2, _, rfl, wd, .ref lt, rfl, Z93 W2, nm, lt, T1.map V.str, T2.map V.str, rfl, rfl, N2.a, N2.b, by rw [List.length_map, List.length_map]; omega, fun c2 hc2 => ?_⟩
   have sc2 := Z01 (o := .lst (T1.map V.str ++ T2.map V.str)) hc2
   have F2' := F2.same sc2
   refine ⟨d, l, c2, ns, n2, _, rfl, F2', by omega, Z00, by rw [List.length_append, List.length_map]; omega, by rw [List.length_append, List.length_map, List.length_map]; omega, fun v3 n3 H3 hv hn3 F3 b3' => ?_⟩
   have b3 := (But.of (d := d) sc2).trans b3'
   obtain ⟨x, rfl, hx⟩ : ∃ x, v3 = .str x /\ NmW x := by
    rcases List.mem_append.mp hv with z | z
    ·obtain ⟨x, hx, rfl⟩ := List.mem_map.mp z; exact ⟨x, rfl, N2.an x hx⟩
    ·obtain ⟨x, hx, rfl⟩ := List.mem_map.mp z; exact ⟨x, rfl, N2.bn x hx⟩
   have hxl : x.length <= 1000 := by have := hx.1.1.2; omega
   have bA' := (b1.trans b2).trans b3
   refine ⟨n3, wy, Z1o (Z1o (Z1o (env0 rfl) rfl (Z43 hxl _)) rfl (L2.kp (b3.kp F2))) rfl (D2.kp (b3.kp F2)), rfl, (by show 7 <= 7; omega), F3, by unfold lim; omega, fun v4 H4 n4 hn4 F4 b4 d4 => k v4 n4 H4 d4 (by omega) F4 (bA'.trans b4)⟩
end
def spWithin : Sp := fun vs H Q _ => ∃ (d l : Addr) (ns : List Int) (n : Nat) (v : V) (t : Th), vs = [.ref d, v] /\ Feed H d l ns n /\ n <= 600000000000 /\ IsTh H v t /\ OkT 8 t /\ exB [] t = true /\ Th.sz t <= 450 ∧
 ∀ (v' : V) (t' : Th) n' H', IsTh H' v' t' -> OkT 34 t' -> exB [] t' = true -> Th.sz t' <= 550 -> n' <= n + 60 -> Feed H' d l ns n' -> But d H H' -> Q v' H'
theorem Zer {N lo hi : Nat} {w : Str} {k : Wd} {t : Th} (hk : kindOf w = some k) (hr : rule nameB signB k = (none, lo, hi)) (h1 : lo <= 1) (h2 : 1 <= hi) (hl : w ≠ "let") (hs : w ≠ "set") (o : OkT N t) (f : exB [] t = true) :
  OkT (N + 1) (.tup [.at (.str w), t]) /\ exB [] (.tup [.at (.str w), t]) = true := by
 have ht : ∀ x ∈ [t], isTup x = true := fun x hx => by rw [List.mem_singleton] at hx; subst hx; exact Z5e o
 exact ⟨Za0 (own := []) (ks := [t]) hl fun x hx => by rw [List.mem_singleton] at hx; subst hx; exact o,
  Z42 (hd := []) (ks := [t]) (Z6b hk hr h1 h2 ht) hl (Z3x hs) ht fun x hx => by rw [List.mem_singleton] at hx; subst hx; exact f⟩
theorem Zcd {N : Nat} {q : Int} {t : Th} (q0 : 0 <= q) (q1 : q < 6) (o : OkT N t) (f : exB [] t = true) :
  OkT (N + 1) (.tup [.at (.str "again"), .at (.int q), t]) /\ exB [] (.tup [.at (.str "again"), .at (.int q), t]) = true := by
 have ht : ∀ x ∈ [t], isTup x = true := fun x hx => by rw [List.mem_singleton] at hx; subst hx; exact Z5e o
 exact ⟨Za0 (own := [.int q]) (ks := [t]) (by decide +kernel) fun x hx => by rw [List.mem_singleton] at hx; subst hx; exact o,
  Z42 (hd := [.int q]) (ks := [t]) (Z38 (k := .again) (by decide +kernel) rfl (by show (decide (0 <= q) && decide (q <= 5)) = true; rw [decide_eq_true q0, decide_eq_true (by omega)]; rfl) (Nat.le_refl _) (Nat.le_refl _) ht) (by decide +kernel) (Z3x (by decide +kernel)) ht fun x hx => by rw [List.mem_singleton] at hx; subst hx; exact f⟩
section
variable {P : Program} {w : World} {K : PySem.W.Frag} {mg : Str -> Option Value} {base : Heap}
theorem scWithin : FnScope ["_law_feed_here", "_law_e", "_law_k"] ["_law_feed_here", "_law_e"] (Z03 Z63) := ⟨rfl, rfl, rfl, by decide +kernel, rfl, by decide +kernel, by decide +kernel⟩
theorem Zes {f fD fS fO fW : Addr} {fd dD dS dO dW : FuncData} (F : Fun K "_law_within" "_law_within" Z63 f fd) (U : Dr K mg fD fS fO fW dD dS dO dW) : FnOk P w K mg base CX0 3 f fd ["_law_feed_here", "_law_e"] spWithin := by
 have GD : FnOk P w K mg base CX0 1 fD dD ["_law_feed_here", "_law_many"] spDraw := Z37 U.D U.T
 have GO : FnOk P w K mg base CX0 2 fO dO ["_law_feed_here", "_law_some"] spOne := Z4n U.O U
 refine F.ok scWithin (fun vs H Q E h => ?_) (fun cdv A outer s H vs Q E hr h => ?_)
 ·obtain ⟨d, l, ns, n, v, t, rfl, _⟩ := h
  rfl
 ·obtain ⟨d, l, ns, n, v, t, rfl, F0, hn, T0, o0, f0, z0, k⟩ := h
  have hr1 : Room 1 _ := hr.mono (by omega)
  have hr2 : Room 2 _ := hr.mono (by omega)
  refine' ⟨?tt, ?body, ?fin⟩
  case body =>
   refine' Z04 ?s1 (Z06 ?s2)
   case s1 =>
    refine' Z44 ?hp ?hc ?it ?hg ?hb ?hs
    case hp => exact PassesOwn.never
    case hc => rfl
    case it => exact Z19 (by rfl) U.T.range (Z08 (Z0l Z1z Z05 (Z07 GD hr1 (by rfl) U.mD U.D.kp U.bD .nil Z0f (Z0j (pv 0) (Z1y Z05 Z02)))) Z02)
    case hg => exact Z0o (i := 2) scWithin.nd rfl (Or.inl rfl)
    case hs => intro _; rfl
    case hb =>
     refine' Z06 ?b
     case b =>
      refine' Z0c (i := 1) scWithin.nd rfl (Or.inl rfl) ?e
      case e =>
       refine' Z07 GO hr2 (by rfl) U.mO U.O.kp U.bO .nil Z0f ?a
       case a =>
        refine' Z0j (pv 0) (Zkn (Z0y ?l) Z02)
        case l =>
         refine' Zev (Z12 ?t1) ?m1
         case t1 => exact Z1y Z09 (Z0j (pv 1) Z02)
         case m1 =>
          refine' Zev (Z12 ?t2) ?m2
          case t2 => exact Z1y Z09 (Z0j (pv 1) Z02)
          case m2 =>
           refine' Zev (Z12 ?t3) Z02
           case t3 => exact Z1y Z09 (Z6h (Z07 GD hr1 (by rfl) U.mD U.D.kp U.bD .nil Z0f (Z0j (pv 0) (Z1y Z05 Z02))) (Z0j (pv 1) Z02))
   case s2 => exact Z0d (pv 1)
  case fin =>
   refine ⟨_, rfl, d, l, ns, n, _, rfl, F0, by omega, by decide, by decide, fun q n1 H1 q0 q1 hn1 F1 b1 => ⟨_, _, rfl, rfl, 13 + q, rfl, by omega, by have : sizeLine = 16777216 := sizeLine_eq; omega, Z2s (lo := 0) (n := (13 + q).toNat) (fun j σ H' => ∃ (v' : V) (t' : Th) (n' : Nat) (o : Option V), σ = [some (.ref d), some v', o] /\ IsTh H' v' t' /\ OkT (8 + j) t' /\ exB [] t' = true /\ Th.sz t' <= Th.sz t + 3 * j /\ n' <= n1 + 2 * j /\ Feed H' d l ns n' /\ But d H H')
    ⟨v, t, n1, none, rfl, IsTh.kp (b1.kp F0) T0, o0, f0, by omega, by omega, F1, b1⟩ ?_ ?_⟩⟩
   ·rintro j σ H' hj ⟨v', t', n', o, rfl, T', o', f', z', hn', F', b'⟩
    refine ⟨_, rfl, _, rfl, (by show 2 <= sizeLine; decide), fun p1 hp1 => ?_⟩
    have s1 := Z01 (o := .tup [.str "say", v']) hp1
    have A1 : IsTh (upd H' p1 (.tup [.str "say", v'])) (.ref p1) (.tup [.at (.str "say"), t']) := .tup Z00 (.cons (.at (by decide +kernel)) (.cons (IsTh.kp (Kp.of s1) T') .nil))
    refine ⟨_, rfl, (by show 2 <= sizeLine; decide), fun p2 hp2 => ?_⟩
    have s2 := Z01 (o := .tup [.str "do", v']) hp2
    have A2 : IsTh (upd (upd H' p1 (.tup [.str "say", v'])) p2 (.tup [.str "do", v'])) (.ref p2) (.tup [.at (.str "do"), t']) := .tup Z00 (.cons (.at (by decide +kernel)) (.cons (IsTh.kp (Kp.of (s1.trans s2)) T') .nil))
    have s12 := s1.trans s2
    have A1' := IsTh.kp (Kp.of s2) A1
    have F2 := F'.same s12
    generalize upd (upd H' p1 (.tup [.str "say", v'])) p2 (.tup [.str "do", v']) = H2 at s12 A2 A1' F2 ⊢
    refine ⟨_, rfl, d, l, ns, n', _, rfl, F2, by omega, by decide, by decide, fun q' n3 H3 q0' q1' hn3 F3 b3 => ?_⟩
    have T3 := IsTh.kp (b3.kp F2) (IsTh.kp (Kp.of s12) T')
    have A1 := IsTh.kp (b3.kp F2) A1'
    have A2 := IsTh.kp (b3.kp F2) A2
    refine ⟨_, rfl, (by show 3 <= sizeLine; decide), fun p3 hp3 => ?_⟩
    have s3 := Z01 (o := .tup [.str "again", .int q', v']) hp3
    have A3 : IsTh (upd H3 p3 (.tup [.str "again", .int q', v'])) (.ref p3) (.tup [.at (.str "again"), .at (.int q'), t']) := .tup Z00 (.cons (.at (by decide +kernel)) (.cons (.at rfl) (.cons (IsTh.kp (Kp.of s3) T3) .nil)))
    refine ⟨(by show 3 <= sizeLine; decide), fun c hc => ?_⟩
    have sc := Z01 (o := .lst [.ref p1, .ref p2, .ref p3]) hc
    have F4 := F3.same (s3.trans sc)
    have A1 := IsTh.kp (Kp.of (s3.trans sc)) A1
    have A2 := IsTh.kp (Kp.of (s3.trans sc)) A2
    have A3 := IsTh.kp (Kp.of sc) A3
    have b4 := ((b'.trans (But.of s12)).trans b3).trans (But.of (s3.trans sc))
    refine ⟨d, l, c, ns, n3, _, rfl, F4, by omega, Z00, (by show 0 < 3; decide), (by show 3 <= 1000000; decide), fun v5 n5 H5 hv hn5 F5 b5 => ?_⟩
    obtain ⟨t5, A5, h5, z5⟩ : ∃ t5, IsTh (upd (upd H3 p3 (.tup [.str "again", .int q', v'])) c (.lst [.ref p1, .ref p2, .ref p3])) v5 t5 /\ (OkT (8 + j + 1) t5 /\ exB [] t5 = true) /\ Th.sz t5 <= Th.sz t' + 3 := by
     simp only [List.mem_cons, List.not_mem_nil, or_false] at hv
     rcases hv with rfl | rfl | rfl
     ·exact ⟨_, A1, Zer (k := .say) (by decide +kernel) rfl (Nat.le_refl _) (Nat.le_refl _) (by decide +kernel) (by decide +kernel) o' f', by simp only [Th.sz, szs]; omega⟩
     ·exact ⟨_, A2, Zer (k := .dow) (by decide +kernel) rfl (Nat.le_refl _) (by decide) (by decide +kernel) (by decide +kernel) o' f', by simp only [Th.sz, szs]; omega⟩
     ·exact ⟨_, A3, Zcd q0' q1' o' f', by simp only [Th.sz, szs]; omega⟩
    exact ⟨v5, t5, n5, _, rfl, IsTh.kp (b5.kp F4) A5, h5.1, h5.2, by omega, by omega, F5, b4.trans b5⟩
   ·rintro σ H' ⟨v', t', n', o, rfl, T', o', f', z', hn', F', b'⟩
    exact ⟨_, rfl, k v' t' n' H' T' (o'.le (by omega)) f' (by omega) (by omega) F' b'⟩
end
def spWide : Sp := fun vs H Q _ => ∃ (d l wd nm lt cl : Addr) (ns : List Int) (n : Nat) (r : Int) (T1 T2 T3 : List Str), vs = [.ref d, .ref wd] /\ Feed H d l ns n /\ n <= 600000000000 /\ H wd = some (.dK (Z0s nm lt cl r)) /\ Nms H nm lt cl T1 T2 T3 ∧
 ∀ (v : V) n' H', Den ⟨.any, 3000, 5⟩ H' v -> n' <= n + 40 -> Feed H' d l ns n' -> But d H H' -> Q v H'
def zz : Nat -> Nat
 | 0 => 18
 | 1 => 228
 | _ => 2748
abbrev GW0 : Gam := [("_law_name_here", 2, ⟨.str, 0, 0⟩)]
abbrev GW1 : Gam := [("_law_bad", 5, ⟨.any, 7, 2⟩)]
abbrev NW : List Str := ["_law_feed_here", "_law_world_here", "_law_name_here", "_law_some", "_law_k", "_law_bad"]
theorem Zm0 : (["_law_feed_here", "_law_world_here", "_law_k"] : List Str).Nodup := by decide +kernel
theorem Znj : (["_law_some", "_law_j"] : List Str).Nodup := by decide +kernel
theorem Za5 : bootBuiltins "tuple" = some (.type "tuple") := by decide +kernel
theorem Zbk {X : Cx} {K : PySem.W.Frag} (h : X.K = K) : SlR X (Znr K) := by subst h; exact Z9f
theorem Z6m {X : Cx} {K : PySem.W.Frag} (h : X.K = K) : Z5o X (.type "tuple") (fun xs H Q => ∃ p ys, xs = [.ref p] /\ ((SqL K H p ys /\ ∀ l, H l = none -> Q (.ref l) (upd H l (.tup ys))) ∨ (SqT K H p ys /\ Q (.ref p) H))) := by subst h; exact Z1f
section
variable {P : Program} {w : World} {K : PySem.W.Frag} {mg : Str -> Option Value} {base : Heap}
theorem scWide : FnScope NW ["_law_feed_here", "_law_world_here"] (Z03 Z9o) := ⟨rfl, rfl, rfl, by decide +kernel, rfl, by decide +kernel, by decide +kernel⟩
theorem Zjy {f fL fV fD fS fO fW : Addr} {fd dL dV dD dS dO dW : FuncData} (F : Fun K "_law_wide" "_law_wide" Z9o f fd) (U : Dr K mg fD fS fO fW dD dS dO dW) (htup : mg "tuple" = none)
  (FV : Fun K "_law_value" "_law_value" Z27 fV dV) (bV : Binds K dV ["_law_feed_here"] []) (mV : mg "_law_value" = some (.ref fV)) (FL : Fun K "_law_leaf" "_law_leaf" Z9n fL dL) (bL : Binds K dL ["_law_feed_here", "_law_world_here", "_law_bound"] []) (mL : mg "_law_leaf" = some (.ref fL)) :
  FnOk P w K mg base CX0 4 f fd ["_law_feed_here", "_law_world_here"] spWide := by
 have GO : FnOk P w K mg base CX0 2 fO dO ["_law_feed_here", "_law_some"] spOne := Z4n U.O U
 have GL : FnOk P w K mg base CX0 3 fL dL ["_law_feed_here", "_law_world_here", "_law_bound"] spLeaf := Z9z FL U FV bV mV
 refine F.ok scWide (fun vs H Q E h => ?_) (fun cdv A outer s H vs Q E hr h => ?_)
 ·obtain ⟨d, l, wd, nm, lt, cl, ns, n, r, T1, T2, T3, rfl, _⟩ := h
  rfl
 ·obtain ⟨d, l, wd, nm, lt, cl, ns, n, r, T1, T2, T3, rfl, F0, hn, W0, N0, k⟩ := h
  have hsz : sizeLine = 16777216 := sizeLine_eq
  have hu := Z9j hr
  have hr2 : Room 2 _ := hr.mono (by omega)
  have hr3 : Room 3 _ := hr.mono (by omega)
  refine' ⟨?tt, ?body, ?fin⟩
  case body =>
   refine' Z04 ?s1 ?r1
   case s1 => exact Z0c (i := 2) scWide.nd rfl (Or.inl rfl) (Z18 Z20 (Z17 hu (pv 1) Z09 (fun _ _ => rfl)) Z05 (fun _ _ => rfl))
   case r1 =>
    refine' Z04 ?s2 ?r2
    case s2 =>
     refine' Z0c (i := 3) scWide.nd rfl (Or.inr rfl) ?x
     case x =>
      refine' Z21 (N' := ["_law_feed_here", "_law_world_here", "_law_k"]) (src := [some 0, some 1, none]) ?k1 ?k5 ?k6 ?k7
      case k1 => rfl
      case k5 => exact Z0m (Z03 Z9o) rfl NW rfl (by decide +kernel)
      case k6 => exact Z19 (by rfl) U.T.range (Z1y Z05 Z02)
      case k7 => exact fun cl C ex s0 H0 => ⟨Z0o (i := 2) Zm0 rfl (Or.inl rfl), Z2o, Z07 GL hr3 (by rfl) mL FL.kp bL .nil Z0f (Z0j (pv 0) (Z0j (pv 1) (Zkn (Z0y Z02) Z02)))⟩
    case r2 =>
     refine' Z04 ?s3 ?r3
     case s3 =>
      refine' Z44 ?hp ?hc ?it ?hg ?hb ?hs
      case hp => exact PassesOwn.never
      case hc => rfl
      case it => exact Z19 (by rfl) U.T.range (Z1y Z05 Z02)
      case hg => exact Z0o (i := 4) scWide.nd rfl (Or.inl rfl)
      case hs => intro _; rfl
      case hb =>
       refine' Z06 ?b
       case b =>
        refine' Z0c (i := 3) scWide.nd rfl (Or.inr rfl) ?x
        case x =>
         refine' Z21 (N' := ["_law_some", "_law_j"]) (src := [some 3, none]) ?k1 ?k5 ?k6 ?k7
         case k1 => rfl
         case k5 => exact Z0m (Z03 Z9o) rfl NW rfl (by decide +kernel)
         case k6 => exact Z19 (by rfl) U.T.range (Z1y Z05 Z02)
         case k7 => exact fun cl C ex s0 H0 => ⟨Z0o (i := 1) Znj rfl (Or.inl rfl), Z2o, Z0l Z5w (Z12 (Z1y Z09 Z02)) (Z1a (Z6m (K := K) rfl) (by rfl) htup Za5 (Z08 (Z0l Z2e (Z16 (Zbk (K := K) rfl) (pv 0) (Z1q (pv 1)) Z1u) (Z16 (Zbk (K := K) rfl) (pv 0) Z1u (Z1q (pv 1)))) Z02))⟩
     case r3 =>
      refine' Z04 ?s4 (Z06 ?s5)
      case s4 => exact Z0c (i := 5) scWide.nd rfl (Or.inl rfl) (Zeo (d := d) (l := l) (ns := ns) (z := 7) (m := 2) (c := 1) (Zgx (G := GW0) GO hr2 (by rfl) U.mO U.O.kp U.bO ⟨rfl, Or.inr (Or.inl rfl)⟩ ⟨⟨rfl, Or.inl rfl, by decide +kernel, by decide +kernel⟩, trivial⟩) (by decide +kernel))
      case s5 =>
       refine' Z0d ?e
       case e =>
        refine' Z12 (Z1y Z09 (Z0j (pv 2) (Z0j (pv 5) (Z08 ?x Z02))))
        case x =>
         refine' Z0l Z5w (Z12 (Z1y Z09 Z02)) ?y
         case y =>
          refine' Z1a Z1f (by rfl) htup (by decide +kernel) (Z08 ?z Z02)
          case z =>
           refine' Z0l Z2e (Z16 Z9f (pv 3) Z1u (Z1q Z05)) ?u
           case u =>
            refine' Z0y (Z6h ?v Z02)
            case v => exact Zeo (d := d) (l := l) (ns := ns) (z := 9) (m := 2) (c := 1) (Zgx (G := GW1) GO hr2 (by rfl) U.mO U.O.kp U.bO ⟨rfl, Or.inr (Or.inl rfl)⟩ ⟨⟨rfl, Or.inl rfl, by decide +kernel, by decide +kernel⟩, trivial⟩) (by decide +kernel)
  case fin =>
   obtain ⟨t0, T1', rfl⟩ : ∃ t0 T', T1 = t0 :: T' := by
    cases T1 with
    | nil => have := N0.a1; simp only [List.length_nil] at this; omega
    | cons t0 T' => exact ⟨t0, T', rfl⟩
   have h0 : t0.length <= 1000 := by have := (N0.an t0 (List.mem_cons_self ..)).1.1.2; omega
   refine ⟨_, rfl, wd, .ref nm, rfl, Z30 W0, nm, _, 0, .str t0, rfl, rfl, SqL.of N0.a, Z1w _ _, ?_⟩
   refine ⟨6, rfl, by decide, by decide, Z3m (lo := 0) (n := 6) (fun j ys σc H' => ∃ (n' : Nat) (o : Option V) (ts : List Th), σc = [some (.ref d), some (.ref wd), o] /\ Feed H' d l ns n' /\ n' <= n + 4 * j /\ But d H H' /\ IsThs H' ys ts /\ ts.length = j /\ szs ts <= 3 * j /\ dps ts <= 1)
    ⟨n, none, [], rfl, F0, by omega, But.refl d H, .nil, rfl, by rw [szs]; omega, by rw [dps]; omega⟩ ?_ ?_⟩
   ·rintro j ys σc H' hj ⟨n', o, ts, rfl, F', hn', b', hts, hlen, hz, hd⟩
    have := IsThs.len _ hts
    refine ⟨by omega, _, rfl, _, rfl, Nat.zero_le _, fun c hc => ?_⟩
    have sc := Z01 (o := .lst []) hc
    have W' := b' wd _ W0 (Z26 F0 W0)
    have N' := N0.kp (b'.kp F0)
    refine ⟨d, l, wd, nm, lt, cl, c, ns, n', r, t0 :: T1', T2, T3, [], rfl, F'.same sc, by omega, sc _ _ W', N'.kp (Kp.of sc), Z00, by decide, (fun t ht => by cases ht), fun lv tl n2 H2 hlv hlt hn2 F2 b2' => ?_⟩
    have b2 := (But.of (d := d) sc).trans b2'
    have h1 := Zgv 1 hlt.1
    have h2 := hlt.2.2
    refine nx hj ⟨n2, _, ts ++ [tl], rfl, F2, by omega, b'.trans b2, IsThs.app _ (IsThs.kp (b2.kp F') hts) (.cons hlv .nil), by rw [List.length_append, hlen]; rfl, ?_, ?_⟩
    ·rw [szs_app, szs, szs]; omega
    ·rw [Z2p, dps, dps]; omega
   rintro ys σc H' ⟨n', o, ts, rfl, F', hn', b', hts, hlen, hz, hd⟩ p hp
   have sp := Z01 (o := .lst ys) hp
   refine ⟨2, rfl, by decide, by decide, Z2s (lo := 0) (n := 2) (fun j σ' H' => ∃ (a : Addr) (vs : List V) (ts : List Th) (n' : Nat) (o : Option V), σ' = [some (.ref d), some (.ref wd), some (.str t0), some (.ref a), o, none] /\ H' a = some (.lst vs) /\ IsThs H' vs ts /\ szs ts <= zz j /\ dps ts <= j + 1 /\ Feed H' d l ns n' /\ n' <= n + 24 /\ But d H H')
    ⟨p, ys, ts, n', none, rfl, Z00, IsThs.kp (Kp.of sp) hts, hz, hd, F'.same sp, hn', b'.trans (But.of sp)⟩ ?_ ?_⟩
   ·clear sp hp hz hd hn' hts b' F' hlen
    rintro j σ' H' hj ⟨a, vs, ts, n', o, rfl, L', hts, hz, hd, F', hn', b'⟩
    have hlen := IsThs.len _ hts
    have hsl := Z1b ts
    have hzz : zz j <= 300 := by
     have : j = 0 ∨ j = 1 := by omega
     rcases this with rfl | rfl <;> decide
    have hz1 : 6 * (2 + 2 * zz j) <= zz (j + 1) := by
     have : j = 0 ∨ j = 1 := by omega
     rcases this with rfl | rfl <;> decide
    refine ⟨6, rfl, by decide, by decide, Z3m (lo := 0) (n := 6) (fun i ys σc H'' => ∃ (us : List Th) (o : Option V), σc = [some (.ref a), o] /\ Same H' H'' /\ IsThs H'' ys us /\ us.length = i /\ szs us <= i * (2 + 2 * zz j) /\ dps us <= j + 2)
     ⟨[], none, rfl, Same.refl _, .nil, rfl, by rw [szs]; omega, by rw [dps]; omega⟩ ?_ ?_⟩
    ·rintro i ys σc H'' hi ⟨us, o', rfl, s', hus, hul, huz, hud⟩
     have := IsThs.len _ hus
     have L'' := s' _ _ L'
     have hts' := IsThs.kp (Kp.of s') hts
     refine ⟨by omega, (by show 1 <= sizeLine; decide), fun p0 hp0 => ?_⟩
     have s0 := Z01 (o := .tup [.str "do"]) hp0
     refine ⟨_, rfl, _, rfl, _, rfl, a, vs, rfl, SqL.of (s0 _ _ L''), fun p1 hp1 => ?_⟩
     have s1 := Z01 (o := .lst (Z3s vs (some (0 + (i : Int))) none)) hp1
     refine ⟨_, rfl, _, rfl, _, rfl, a, vs, rfl, SqL.of (s1 _ _ (s0 _ _ L'')), fun p2 hp2 => ?_⟩
     have s2 := Z01 (o := .lst (Z3s vs none (some (0 + (i : Int))))) hp2
     obtain ⟨u1, c1, c2, c3⟩ := Z3q hts' (some (0 + (i : Int))) none
     obtain ⟨u2, e1, e2, e3⟩ := Z3q hts' none (some (0 + (i : Int)))
     have l1 := IsThs.len _ c1
     have l2 := IsThs.len _ e1
     have g1 := Z1b u1
     have g2 := Z1b u2
     refine ⟨p1, p2, _, _, rfl, rfl, s2 _ _ Z00, Z00, by omega, fun p3 hp3 => ?_⟩
     have s3 := Z01 (o := .lst (Z3s vs (some (0 + (i : Int))) none ++ Z3s vs none (some (0 + (i : Int))))) hp3
     refine ⟨p3, _, rfl, .inl ⟨SqL.of Z00, fun p4 hp4 => ?_⟩⟩
     have s4 := Z01 (o := .tup (Z3s vs (some (0 + (i : Int))) none ++ Z3s vs none (some (0 + (i : Int))))) hp4
     refine ⟨p0, p4, _, _, rfl, rfl, s4 _ _ (s3 _ _ (s2 _ _ (s1 _ _ Z00))), Z00, by rw [List.length_append, List.length_singleton]; omega, fun p5 H5 s5 hp5 => ?_⟩
     have sA := ((((s0.trans s1).trans s2).trans s3).trans s4).trans s5
     refine nx hi ⟨us ++ [.tup (.at (.str "do") :: (u1 ++ u2))], _, rfl, s'.trans sA, IsThs.app _ (IsThs.kp (Kp.of sA) hus) (.cons (.tup hp5 (IsThs.app _ (.cons (.at (by decide +kernel)) .nil) (IsThs.app _ (IsThs.kp (Kp.of sA) c1) (IsThs.kp (Kp.of sA) e1)))) .nil), by rw [List.length_append, hul]; rfl, ?_, ?_⟩
     ·rw [szs_app, Nat.succ_mul]
      simp only [szs, Th.sz, szs_app]
      omega
     ·rw [Z2p]
      simp only [dps, dp, Z2p]
      omega
    ·rintro ys σc H'' ⟨us, o', rfl, s', hus, hul, huz, hud⟩ q hq
     have sq := Z01 (o := .lst ys) hq
     exact ⟨q, ys, us, n', _, rfl, Z00, IsThs.kp (Kp.of sq) hus, by omega, hud, (F'.same s').same sq, hn', (b'.trans (But.of s')).trans (But.of sq)⟩
   ·clear sp hp hz hd hn' hts b' F' hlen
    rintro σ' H' ⟨a, vs, ts, n', o, rfl, L', hts, hz, hd, F', hn', b'⟩
    have hz : szs ts <= 2748 := hz
    refine ⟨n', Z1o (env0 rfl) rfl (Z43 h0 _), F', by unfold lim; omega, fun v1 H1 n1 hn1 F1 b1 d1 => ?_⟩
    have hts1 := IsThs.kp (b1.kp F') hts
    have L1 := F'.lst b1 L'
    refine ⟨_, rfl, _, rfl, (by show 1 <= sizeLine; decide), fun p0 hp0 => ?_⟩
    have s0 := Z01 (o := .tup [.str "do"]) hp0
    refine ⟨_, rfl, _, rfl, a, vs, rfl, SqL.of (s0 _ _ L1), fun p1 hp1 => ?_⟩
    have s1 := Z01 (o := .lst (Z3s vs none (some 5))) hp1
    obtain ⟨u1, c1, c2, c3⟩ := Z3q hts1 none (some 5)
    have l1 := IsThs.len _ c1
    have g1 := Z1b u1
    have s01 := s0.trans s1
    refine ⟨n1, Z1o (env0 rfl) rfl (d1.kp (Kp.of s01)), F1.same s01, by unfold lim; omega, fun v2 H2 n2 hn2 F2 b2 d2 => ?_⟩
    have k2 := b2.kp (F1.same s01)
    have P0 := k2 _ _ (s1 _ _ (Z00 (H := H1) (a := p0) (o := .tup [.str "do"]))) (fun _ z => by cases z)
    have P1 := k2 _ _ (Z00 (H := upd H1 p0 (.tup [.str "do"])) (a := p1) (o := .lst (Z3s vs none (some 5)))) (fun _ z => by cases z)
    refine ⟨(by show 1 <= sizeLine; decide), fun p2 hp2 => ?_⟩
    have s2 := Z01 (o := .lst [v2]) hp2
    refine ⟨p1, p2, _, _, rfl, rfl, s2 _ _ P1, Z00, by rw [List.length_singleton]; omega, fun p3 hp3 => ?_⟩
    have s3 := Z01 (o := .lst (Z3s vs none (some 5) ++ [v2])) hp3
    refine ⟨p3, _, rfl, .inl ⟨SqL.of Z00, fun p4 hp4 => ?_⟩⟩
    have s4 := Z01 (o := .tup (Z3s vs none (some 5) ++ [v2])) hp4
    refine ⟨p0, p4, _, _, rfl, rfl, s4 _ _ (s3 _ _ (s2 _ _ P0)), Z00, by rw [List.length_append, List.length_singleton, List.length_singleton]; omega, fun p5 H5 s5 hp5 => ?_⟩
    refine ⟨(by show 4 <= sizeLine; decide), fun p6 hp6 => ?_⟩
    have s6 := Z01 (o := .tup [.str "let", .str t0, v1, .ref p5]) hp6
    have sB := (((s2.trans s3).trans s4).trans s5)
    obtain ⟨x1, X1, Y1⟩ := ((d1.kp (Kp.of s01)).kp k2).kp (Kp.of (sB.trans s6))
    obtain ⟨x2, X2, Y2⟩ := d2.kp (Kp.of (sB.trans s6))
    have C1 := IsThs.kp (Kp.of (sB.trans s6)) (IsThs.kp k2 (IsThs.kp (Kp.of s01) c1))
    have Y1 : Th.sz x1 <= 7 /\ dp x1 <= 2 := Y1
    have Y2 : Th.sz x2 <= 9 /\ dp x2 <= 2 := Y2
    refine k _ n2 _ ⟨.tup [.at (.str "let"), .at (.str t0), x1, .tup (.at (.str "do") :: (u1 ++ [x2]))], .tup Z00 (.cons (.at (by decide +kernel)) (.cons (.at (decide_eq_true h0)) (.cons X1 (.cons (.tup (s6 _ _ hp5) (IsThs.app _ (.cons (.at (by decide +kernel)) .nil) (IsThs.app _ C1 (.cons X2 .nil)))) .nil)))), ?_⟩ (by omega) ((F2.same sB).same s6) ?_
    ·show Th.sz _ <= 3000 /\ dp _ <= 5
     simp only [Th.sz, szs, szs_app, dp, dps, Z2p]
     omega
    ·exact ((((b'.trans b1).trans (But.of s01)).trans b2).trans (But.of sB)).trans (But.of s6)
end
def Zgy (K : PySem.W.Frag) : Sp := fun vs H Q _ => ∃ (a : Addr) (ns : List Int), vs = [.ref a] /\ SqL K H a (ns.map V.int) /\ ns.length <= 63 /\ ∀ H', Q (.bl true) H'
structure LwC (H : Hp) (d l wd nm lt cl : Addr) (ns : List Int) (n : Nat) (r : Int) (T1 T2 T3 : List Str) (v : V) (t : Th) : Prop where
 F : Feed H d l ns n
 W : H wd = some (.dK (Z0s nm lt cl r))
 N : Nms H nm lt cl T1 T2 T3
 is : IsTh H v t
 ok : OkT 34 t
 ex : exB [] t = true
 z : Th.sz t <= 550
section
variable {H H' : Hp} {d l wd nm lt cl : Addr} {ns : List Int} {n n' : Nat} {r : Int} {T1 T2 T3 : List Str} {v : V} {t : Th}
theorem LwC.but (C : LwC H d l wd nm lt cl ns n r T1 T2 T3 v t) (b : But d H H') (F' : Feed H' d l ns n') : LwC H' d l wd nm lt cl ns n' r T1 T2 T3 v t :=
 ⟨F', b wd _ C.W (Z26 C.F C.W), C.N.kp (b.kp C.F), IsTh.kp (b.kp C.F) C.is, C.ok, C.ex, C.z⟩
theorem LwC.same (C : LwC H d l wd nm lt cl ns n r T1 T2 T3 v t) (s : Same H H') : LwC H' d l wd nm lt cl ns n r T1 T2 T3 v t :=
 ⟨C.F.same s, s _ _ C.W, C.N.kp (Kp.of s), IsTh.kp (Kp.of s) C.is, C.ok, C.ex, C.z⟩
theorem Zgz {N : Nat} (o : OkT N t) : 0 < cnt t := by
 cases N with
 | zero => exact o.elim
 | succ N =>
  obtain ⟨w, ts, rfl, _⟩ := o
  rw [cnt]
  omega
theorem Zhz {x : V} {u : Th} (h : IsTh H x u) (o : OkT 34 u) (z : Th.sz u <= 550) : Den eBd H x := by
 have h1 := Zgv 34 o
 obtain ⟨w, ts, rfl, _⟩ := o
 rw [dp] at h1
 rw [Th.sz] at z
 exact ⟨_, h, _, rfl, by rw [List.length_cons]; omega, by show _ <= 600; omega, by show _ <= 40; omega⟩
end
def Znx (fi : Nat) (G : Gam) (k : Bd) (c : Nat) : TE := fun σ H Q => ∃ d l ns, TMk fi d l ns G k c σ H Q
section
variable {X : Cx} {fi : Nat} {G : Gam} {fs : Has}
theorem Zm1 (C : MadeCx X fi G fs) {e : Expr} {m z m' c : Nat} (h : Zni fs G e m z m' c = true) : PE X e (Znx fi G ⟨.lst m, z, m'⟩ c) := fun pins s σ H Q I ⟨d, l, ns, q⟩ => Zep C h pins s σ H Q I q
theorem Zi0 (C : MadeCx X fi G fs) {e : Expr} {z m c : Nat} (h : Zma fs G e z m c = true) : PE X e (Znx fi G ⟨.any, z, m⟩ c) := fun pins s σ H Q I ⟨d, l, ns, q⟩ => Zeo C h pins s σ H Q I q
end
abbrev NL : List Str := ["_law_script", "_law_feed_here", "_law_world_here", "_law_e", "_law_some", "_law_turn", "_law_path", "_law_here", "_law_thing"]
abbrev GE0 : Gam := [("_law_e", 3, eBd)]
abbrev has2 : Has := ⟨false, false, true⟩
structure Fn (K : PySem.W.Frag) (mg : Str -> Option Value) (x : Str) (st : Stmt) (ps : List Str) (f : Addr) (fd : FuncData) : Prop where
 F : Fun K x x st f fd
 b : Binds K fd ps []
 m : mg x = some (.ref f)
section
variable {P : Program} {w : World} {K : PySem.W.Frag} {mg : Str -> Option Value} {base : Heap}
theorem scLaw : FnScope NL ["_law_script"] (Z03 Zdf) := ⟨rfl, rfl, rfl, by decide +kernel, rfl, by decide +kernel, by decide +kernel⟩
theorem Zm2 {f fF fWd fX fI fE fAP fB fSw fR fWi fD fS fO fW : Addr} {fd dF dWd dX dI dE dAP dB dSw dR dWi dD dS dO dW : FuncData} (F : Fun K "law" "law" Zdf f fd) (U : Dr K mg fD fS fO fW dD dS dO dW) (hlist : mg "list" = none)
  (YF : Fn K mg "_law_feed" Zdd ["_law_script"] fF dF)
  (YWd : Fn K mg "_law_world" Z8r ["_law_feed_here", "_law_room"] fWd dWd) (GWd : FnOk P w K mg base CX0 5 fWd dWd ["_law_feed_here", "_law_room"] spWorld)
  (YX : Fn K mg "_law_expr" Z6j ["_law_feed_here", "_law_world_here", "_law_bound", "_law_depth"] fX dX) (GX : FnOk P w K mg base CX0 12 fX dX ["_law_feed_here", "_law_world_here", "_law_bound", "_law_depth"] (Zhs 8))
  (YI : Fn K mg "_law_within" Z63 ["_law_feed_here", "_law_e"] fI dI)
  (YE : Fn K mg "is_expression" Z54 ["thing"] fE dE) (GE : FnOk P w K mg base CX0 5 fE dE ["thing"] (Z9s 85))
  (YA : Fn K mg "_law_all_paths" Z2w ["_law_e"] fAP dAP) (GA : FnOk P w K mg base CX0 36 fAP dAP ["_law_e"] (Z79 34))
  (YB : Fn K mg "_law_bent" Z6k ["_law_feed_here", "_law_world_here", "_law_e"] fB dB) (GB' : FnOk P w K mg base CX0 4 fB dB ["_law_feed_here", "_law_world_here", "_law_e"] spBent)
  (YS : Fn K mg "_law_swapped" Z3p ["_law_e", "_law_path", "_law_other"] fSw dSw) (GS : FnOk P w K mg base CX0 36 fSw dSw ["_law_e", "_law_path", "_law_other"] (Z96 34))
  (YR : Fn K mg "_law_right" Z8s ["_law_thing"] fR dR) (GR : FnOk P w K mg base CX0 92 fR dR ["_law_thing"] (Ze9 85))
  (YWi : Fn K mg "_law_wide" Z9o ["_law_feed_here", "_law_world_here"] fWi dWi) (GWi : FnOk P w K mg base CX0 4 fWi dWi ["_law_feed_here", "_law_world_here"] spWide) :
  FnOk P w K mg base CX0 93 f fd ["_law_script"] (Zgy K) := by
 have GF : FnOk P w K mg base CX0 1 fF dF ["_law_script"] (Zhq K) := Zj8 YF.F U.T
 have GD : FnOk P w K mg base CX0 1 fD dD ["_law_feed_here", "_law_many"] spDraw := Z37 U.D U.T
 have GO : FnOk P w K mg base CX0 2 fO dO ["_law_feed_here", "_law_some"] spOne := Z4n U.O U
 have GI : FnOk P w K mg base CX0 3 fI dI ["_law_feed_here", "_law_e"] spWithin := Zes YI.F U
 refine F.ok scLaw (fun vs H Q E h => ?_) (fun cdv A outer s H vs Q E hr h => ?_)
 ·obtain ⟨a, ns, rfl, _⟩ := h
  rfl
 ·obtain ⟨a, ns, rfl, hS, hlen, k⟩ := h
  have hsz : sizeLine = 16777216 := sizeLine_eq
  have hc8 : cD 8 = 6718460 := by decide +kernel
  have hr1 : Room 1 _ := hr.mono (by decide)
  have hr2 : Room 2 _ := hr.mono (by decide)
  have hr3 : Room 3 _ := hr.mono (by decide)
  have hr4 : Room 4 _ := hr.mono (by decide)
  have hr5 : Room 5 _ := hr.mono (by decide)
  have hr12 : Room 12 _ := hr.mono (by decide)
  have hr36 : Room 36 _ := hr.mono (by decide)
  have C : MadeCx ((Z9e CX0 P w K mg base NL "law" (Z03 Zdf) f cdv A outer s H E).nox) 1 GE0 has2 :=
   ⟨⟨fO, dO, 2, GO, hr2, by rfl, U.mO, U.O.kp, U.bO⟩, fun h => (by cases h), fun h => (by cases h), fun _ => ⟨by rfl, hlist⟩, ⟨rfl, Or.inl rfl⟩, ⟨⟨rfl, Or.inl rfl, by decide +kernel, by decide +kernel⟩, trivial⟩⟩
  refine' ⟨?tt, ?body, ?fin⟩
  case body =>
   refine' Z04 ?s1 ?r1
   case s1 => exact Z0c (i := 1) scLaw.nd rfl (Or.inl rfl) (Z07 GF hr1 (by rfl) YF.m YF.F.kp YF.b .nil Z0f (Z0j (pv 0) Z02))
   case r1 =>
    refine' Z04 ?s2 ?r2
    case s2 => exact Z0c (i := 2) scLaw.nd rfl (Or.inl rfl) (Z07 GWd hr5 (by rfl) YWd.m YWd.F.kp YWd.b .nil Z0f (Z0j (pv 1) (Z1y Z05 Z02)))
    case r2 =>
     refine' Z04 ?s3 ?r3
     case s3 => exact Z0c (i := 3) scLaw.nd rfl (Or.inl rfl) (Z07 GX hr12 (by rfl) YX.m YX.F.kp YX.b .nil Z0f (Z0j (pv 1) (Z0j (pv 2) (Zkn (Z0y Z02) (Z1y Z05 Z02)))))
     case r3 =>
      refine' Z0p ?s4 ?r4
      case s4 =>
       refine' Z10 ?c (Z06 ?e) Z0g
       case c => exact Z0b Z1p (Z07 GD hr1 (by rfl) U.mD U.D.kp U.bD .nil Z0f (Z0j (pv 1) (Z1y Z05 Z02))) Z05 (Z0k _)
       case e => exact Z0c (i := 3) scLaw.nd rfl (Or.inl rfl) (Z07 GI hr3 (by rfl) YI.m YI.F.kp YI.b .nil Z0f (Z0j (pv 1) (Z0j (pv 3) Z02)))
      case r4 =>
       refine' Z04 ?s5 ?r5
       case s5 =>
        refine' Z10 ?c (Z06 (Z0d Z28)) Z0g
        case c => exact Z0b Z9l (Z07 GE hr5 (by rfl) YE.m YE.F.kp YE.b .nil Z0f (Z0j (pv 3) Z02)) Z28 (Z0k _)
       case r5 =>
        refine' Z04 ?s6 ?r6
        case s6 => exact Z0c (i := 4) scLaw.nd rfl (Or.inl rfl) (Z07 GA hr36 (by rfl) YA.m YA.F.kp YA.b .nil Z0f (Z0j (pv 3) Z02))
        case r6 =>
         refine' Z04 ?s7 ?r7
         case s7 =>
          refine' Z44 ?hp ?hc ?it ?hg ?hb ?hs
          case hp => exact PassesOwn.never
          case hc => rfl
          case it => exact Z19 (by rfl) U.T.range (Z1y Z05 Z02)
          case hg => exact Z0o (i := 5) scLaw.nd rfl (Or.inl rfl)
          case hs => intro _; rfl
          case hb =>
           refine' Z04 ?b1 (Z06 ?b2)
           case b1 => exact Zaa (Z07 GO hr2 (by rfl) U.mO U.O.kp U.bO .nil Z0f (Z0j (pv 1) (Z0j (pv 4) Z02))) (Z6o rfl (Z1e (Z0o (i := 6) scLaw.nd rfl (Or.inl rfl)) (Z1e (Z0o (i := 7) scLaw.nd rfl (Or.inl rfl)) Z4t)))
           case b2 =>
            refine' Z10 ?c (Z06 (Z0d Z28)) Z0g
            case c =>
             refine' Z2q (Z2c (Z07 GR hr (by rfl) YR.m YR.F.kp YR.b .nil Z0f (Z6h ?x Z02)))
             case x =>
              refine' Z07 GS hr36 (by rfl) YS.m YS.F.kp YS.b .nil Z0f (Z0j (pv 3) (Z0j (pv 6) (Z6h ?y Z02)))
              case y => exact Z07 GB' hr4 (by rfl) YB.m YB.F.kp YB.b .nil Z0f (Z0j (pv 1) (Z0j (pv 2) (Z0j (pv 7) Z02)))
         case r7 =>
          refine' Z04 ?s8 ?r8
          case s8 =>
           refine' Z0c (i := 4) ?ha ?hb ?hc ?hd ?he ?hf
           case ha => exact scLaw.nd
           case hb => exact rfl
           case hc => exact (Or.inl rfl)
           case he => exact rfl
           case hf => exact (.inr rfl)
           case hd =>
            refine' @Zm1 _ 1 GE0 has2 C _ 13 5000 45 0 ?hh
            case hh => decide +kernel
          case r8 =>
           refine' Z04 ?s9 (Z06 ?s10)
           case s9 =>
            refine' Z44 ?hp ?hc ?it ?hg ?hb ?hs
            case hp => exact PassesOwn.never
            case hc => rfl
            case it =>
             refine' Z4u (Z0l Z2e (pv 4) (Z0y ?l))
             case l =>
              refine' Zev ?x1 ?y1
              case x1 =>
               refine' @Zi0 _ 1 GE0 has2 C _ 10 5 0 ?hh
               case hh => decide +kernel
              case y1 =>
               refine' Z08 ?x2 ?y2 ?z2
               case z2 => rfl
               case x2 =>
                refine' @Zi0 _ 1 GE0 has2 C _ 2000 45 0 ?hh
                case hh => decide +kernel
               case y2 => exact Z6h (Z07 GWi hr4 (by rfl) YWi.m YWi.F.kp YWi.b .nil Z0f (Z0j (pv 1) (Z0j (pv 2) Z02))) Z02
            case hg => exact Z0o (i := 8) scLaw.nd rfl (Or.inl rfl)
            case hs => intro _; rfl
            case hb =>
             refine' Z06 ?b1
             case b1 =>
              refine' Z10 ?c (Z06 (Z0d Z28)) Z0g
              case c => exact Z2q (Z2c (Z07 GR hr (by rfl) YR.m YR.F.kp YR.b .nil Z0f (Z0j (pv 8) Z02)))
           case s10 => exact Z0d Z28
  case fin =>
   refine ⟨_, rfl, a, ns, rfl, hS, hlen, fun d l H1 F1 _ s1 => ?_⟩
   refine ⟨_, rfl, d, l, ns, 0, 50, rfl, F1, by omega, fun wd nm lt cl T1 T2 T3 n2 H2 W2 N2 hn2 F2 b2 => ?_⟩
   refine ⟨_, rfl, _, rfl, Nat.zero_le _, fun c hc => ?_⟩
   have sc := Z01 (o := .lst []) hc
   refine ⟨d, l, wd, nm, lt, cl, c, ns, n2, 50, 8, T1, T2, T3, [], rfl, by decide, by decide, by decide, F2.same sc, by omega, sc _ _ W2, by decide, by decide, N2.kp (Kp.of sc), Z00, by decide, (fun t ht => by cases ht), fun v t n3 r3 H3 T3' o3 f3 z3 r30 r31 hn3 F3 W3 b3 => ?_⟩
   have N3 := (N2.kp (Kp.of sc)).kp (b3.kp (F2.same sc) (sc _ _ W2))
   have hz3 : Th.sz t <= 450 := by omega
   have hn3' : n3 <= 7000000 := by omega
   have C3 : LwC H3 d l wd nm lt cl ns n3 r3 T1 T2 T3 v t := ⟨F3, W3, N3, T3', o3.le (by omega), f3, by omega⟩
   clear hc sc b3 N3 W3 T3' F2 W2 N2 b2 hn2 hn3
   refine ⟨fun σ' H' => ∃ (v : V) (t : Th) (n : Nat), σ' = [some (.ref a), some (.ref d), some (.ref wd), some v, none, none, none, none, none] /\ LwC H' d l wd nm lt cl ns n r3 T1 T2 T3 v t /\ n <= 8000000, ?_, ?_⟩
   ·refine ⟨_, rfl, d, l, ns, n3, _, rfl, C3.F, by omega, by decide, by decide, fun q n4 H4 q0 q1 hn4 F4 b4 => ⟨rfl, _, rfl, Z14 (fun g => ?_) (fun g => ⟨v, t, n4, rfl, C3.but b4 F4, by omega⟩)⟩⟩
    have C4 := C3.but b4 F4
    exact ⟨_, rfl, _, rfl, d, l, ns, n4, v, t, rfl, C4.F, by omega, C4.is, o3, f3, hz3, fun v5 t5 n5 H5 T5 o5 f5 z5 hn5 F5 b5 => ⟨v5, t5, n5, rfl, ⟨F5, b5 wd _ C4.W (Z26 C4.F C4.W), C4.N.kp (b5.kp C4.F), T5, o5, f5, z5⟩, by omega⟩⟩
   clear o3 f3 z3 hz3 C3 hn3' F3
   rintro σ4 H4 ⟨v, t, n4, rfl, C4, hn4⟩
   have hd4 := Zgv 34 C4.ok
   have hz4 := C4.z
   refine ⟨_, rfl, v, t, rfl, C4.is, by omega, by omega, fun H5 s5 => ⟨_, _, rfl, rfl, _, rfl, Z14 (fun g => absurd g (by rw [C4.ex]; decide)) (fun _ => ?_)⟩⟩
   have C5 := C4.same s5
   refine ⟨_, rfl, v, t, rfl, C5.is, C5.ok, by decide, by omega, fun p ws H6 s6 hp hws => ?_⟩
   have C6 := C5.same s6
   have hwl := IsThs.len _ hws
   rw [List.length_map, Z61] at hwl
   have hcz := Zht t
   clear C4 C5 s5 s6
   refine ⟨10, rfl, by decide, by decide, Z2s (lo := 0) (n := 10) (fun i σ' H' => ∃ (n' : Nat) (o5 o6 o7 : Option V), σ' = [some (.ref a), some (.ref d), some (.ref wd), some v, some (.ref p), o5, o6, o7, none] /\ LwC H' d l wd nm lt cl ns n' r3 T1 T2 T3 v t /\ n' <= n4 + 21 * i /\ H' p = some (.lst ws) /\ IsThs H' ws (pws (Z6i t)))
    ⟨n4, none, none, none, rfl, C6, by omega, hp, hws⟩ ?_ ?_⟩
   ·clear C6 hp hws
    rintro i σ' H7 hi ⟨n7, o5, o6, o7, rfl, C7, hn7, hp, hws⟩
    refine ⟨_, rfl, _, rfl, d, l, p, ns, n7, ws, rfl, C7.F, by omega, hp, ?_, by omega, fun x n8 H8 hx hn8 F8 b8 => ?_⟩
    ·rw [hwl]; exact Zgz C7.ok
    have C8 := C7.but b8 F8
    have hp8 := C7.F.lst b8 hp
    have hws8 := IsThs.kp (b8.kp C7.F) hws
    obtain ⟨j, hj⟩ := List.getElem?_of_mem hx
    obtain ⟨tx, htx, hx8⟩ := Z22 _ hws8 hj
    obtain ⟨q, hq, rfl⟩ := List.mem_map.mp (List.mem_of_getElem? htx)
    obtain ⟨qo, qz, ql⟩ := Zhu 34 t C8.ok q hq
    have qat := Zll 34 t C8.ok q hq
    obtain ⟨ax, xs, rfl, ha, hxs⟩ := Z1v hx8
    cases hxs with
    | @cons x1 xr t1 tr hx1 hr1' =>
     cases hr1' with
     | @cons x2 xr2 t2 tr2 hx2 hr2' =>
      cases hr2' with
      | nil =>
       obtain ⟨ap, ys, rfl, hap, hys⟩ := Z1v hx1
       refine ⟨ax, _, rfl, SqT.of ha, rfl, _, _, rfl, _, _, rfl, rfl, ?_⟩
       refine ⟨_, rfl, _, rfl, _, rfl, _, rfl, _, rfl, d, l, wd, nm, lt, cl, ns, n8, r3, T1, T2, T3, x2, rfl, C8.F, by omega, C8.W, C8.N, Zhz hx2 qo (by omega), fun v9 n9 H9 d9 hn9 F9 b9 => ?_⟩
       have C9 := C8.but b9 F9
       obtain ⟨u, hu, fu⟩ := d9
       have fu : Th.sz u <= 20000 /\ dp u <= 45 := fu
       refine ⟨H9, v, ap, v9, t, q.2, u, q.1, rfl, Same.refl _, C9.is, C9.ok, by omega, IsTh.kp (b9.kp C8.F) hx1, by omega, qat, hu, fun v10 H10 s10 h10 => ?_⟩
       have hsw := Znf q.1 t q.2 u qat
       refine ⟨v10, swT t q.1 u, rfl, h10 H10 s10 (KpT.refl _), by omega, by omega, fun H11 s11 => ⟨true, rfl, Z14 (fun g => by cases g) (fun _ => ?_)⟩⟩
       have s9 := s10.trans s11
       exact ⟨n9, _, _, _, rfl, C9.same s9, by omega, s9 _ _ (C8.F.lst b9 hp8), IsThs.kp (Kp.of s9) (IsThs.kp (b9.kp C8.F) hws8)⟩
   clear C6 hp hws
   rintro σ' H7 ⟨n7, o5, o6, o7, rfl, C7, hn7, hp, hws⟩
   have D7 := Zhz C7.is C7.ok C7.z
   refine ⟨d, l, ns, n7, Z1o (env0 rfl) rfl D7, C7.F, by unfold lim; omega, fun v8 H8 n8 hn8 F8 b8 d8 => ?_⟩
   have C8 := C7.but b8 F8
   have D8 := D7.kp (b8.kp C7.F)
   obtain ⟨a8, vs8, ts8, rfl, L8, hts8, _, z8, e8⟩ := Z99 d8
   refine ⟨_, rfl, d, l, ns, n8, Z1o (env0 rfl) rfl D8, C8.F, by unfold lim; omega, fun v9 H9 n9 hn9 F9 b9 d9 => ?_⟩
   have C9 := C8.but b9 F9
   have D9 := D8.kp (b9.kp C8.F)
   refine ⟨d, l, ns, n9, Z1o (env0 rfl) rfl D9, C9.F, by unfold lim; omega, fun v10 H10 n10 hn10 F10 b10 d10 => ?_⟩
   have C10 := C9.but b10 F10
   refine ⟨_, rfl, _, rfl, d, l, wd, nm, lt, cl, ns, n10, r3, T1, T2, T3, rfl, C10.F, by omega, C10.W, C10.N, fun v11 n11 H11 d11 hn11 F11 b11 => ?_⟩
   have C11 := C10.but b11 F11
   have k10 := b10.kp C9.F
   have k11 := b11.kp C10.F
   have L11 := C10.F.lst b11 (C9.F.lst b10 (C8.F.lst b9 L8))
   have hts11 := IsThs.kp k11 (IsThs.kp k10 (IsThs.kp (b9.kp C8.F) hts8))
   obtain ⟨u9, h9, f9⟩ := (d9.kp k10).kp k11
   obtain ⟨u10, h10, f10⟩ := d10.kp k11
   obtain ⟨u11, h11, f11⟩ := d11
   have f9 : Th.sz u9 <= 10 /\ dp u9 <= 5 := f9
   have f10 : Th.sz u10 <= 2000 /\ dp u10 <= 45 := f10
   have f11 : Th.sz u11 <= 3000 /\ dp u11 <= 5 := f11
   have z8 : szs ts8 <= 5000 := z8
   have e8 : dps ts8 <= 45 := e8
   have l8 := IsThs.len _ hts8
   have g8 := Z1b ts8
   refine ⟨(by show 3 <= sizeLine; decide), fun c hc => ?_⟩
   have sc := Z01 (o := .lst [v9, v10, v11]) hc
   refine ⟨a8, c, vs8, [v9, v10, v11], rfl, rfl, sc _ _ L11, Z00, (by show vs8.length + 3 <= _; omega), fun c2 hc2 => ?_⟩
   have sc2 := Z01 (o := .lst (vs8 ++ [v9, v10, v11])) hc2
   have hall : IsThs (upd (upd H11 c (.lst [v9, v10, v11])) c2 (.lst (vs8 ++ [v9, v10, v11]))) (vs8 ++ [v9, v10, v11]) (ts8 ++ [u9, u10, u11]) := IsThs.kp (Kp.of (sc.trans sc2)) (IsThs.app _ hts11 (.cons h9 (.cons h10 (.cons h11 .nil))))
   have hzA : szs (ts8 ++ [u9, u10, u11]) <= 100000 := by
    rw [szs_app]
    simp only [szs]
    omega
   have hdA : dps (ts8 ++ [u9, u10, u11]) <= 45 := by
    rw [Z2p]
    simp only [dps]
    omega
   generalize ts8 ++ [u9, u10, u11] = us at hall hzA hdA
   have Lc : upd (upd H11 c (.lst [v9, v10, v11])) c2 (.lst (vs8 ++ [v9, v10, v11])) c2 = some (.lst (vs8 ++ [v9, v10, v11])) := Z00
   generalize upd (upd H11 c (.lst [v9, v10, v11])) c2 (.lst (vs8 ++ [v9, v10, v11])) = H12 at hall Lc ⊢
   generalize vs8 ++ [v9, v10, v11] = ys at hall Lc ⊢
   refine ⟨c2, rfl, ⟨_, SqL.of Lc⟩, Zab (K := K) (a := c2) (xs := ys) (fun i σ' H' => ∃ (o5 o6 o7 o8 : Option V), σ' = [some (.ref a), some (.ref d), some (.ref wd), some v, some (.ref a8), o5, o6, o7, o8] /\ H' c2 = some (.lst ys) /\ IsThs H' ys us)
    ⟨_, _, _, _, rfl, Lc, hall⟩ (fun i σ H' _ ⟨_, _, _, _, _, e, _⟩ => SqL.of e) ?_ ?_⟩
   ·rintro i x σ' H' hx ⟨o5, o6, o7, o8, rfl, Lc', hall'⟩
    obtain ⟨tx, htx, hx'⟩ := Z22 _ hall' hx
    have hm := List.mem_of_getElem? htx
    have g1 := Z6z us tx hm
    have g2 := Zee us tx hm
    exact ⟨_, rfl, x, tx, rfl, hx', by omega, by omega, fun H'' s'' => ⟨true, rfl, Z14 (fun g => by cases g) (fun _ => ⟨_, _, _, _, rfl, s'' _ _ Lc', IsThs.kp (Kp.of s'') hall'⟩)⟩⟩
   ·rintro σ' H' ⟨o5, o6, o7, o8, rfl, _, _⟩
    exact k H'
end
theorem Zet {P : List Value -> Prop} (h : P []) : ∀ us : List Value, us.length = 0 -> P us := fun us e => by
 cases us with
 | nil => exact h
 | cons a r => cases e
theorem Z1d {P : List Value -> Prop} (h : ∀ a, P [a]) : ∀ us : List Value, us.length = 1 -> P us := fun us e => by
 cases us with
 | nil => cases e
 | cons a r => exact Zet (P := fun r => P (a :: r)) (h a) r (Nat.succ.inj e)
theorem Z1r {P : List Value -> Prop} (h : ∀ a b, P [a, b]) : ∀ us : List Value, us.length = 2 -> P us := fun us e => by
 cases us with
 | nil => cases e
 | cons a r => exact Z1d (P := fun r => P (a :: r)) (h a) r (Nat.succ.inj e)
theorem Z7z {P : List Value -> Prop} (h : ∀ a b c, P [a, b, c]) : ∀ us : List Value, us.length = 3 -> P us := fun us e => by
 cases us with
 | nil => cases e
 | cons a r => exact Z1r (P := fun r => P (a :: r)) (h a) r (Nat.succ.inj e)
theorem Zjz {P : List Value -> Prop} (h : ∀ a b c d, P [a, b, c, d]) : ∀ us : List Value, us.length = 4 -> P us := fun us e => by
 cases us with
 | nil => cases e
 | cons a r => exact Z7z (P := fun r => P (a :: r)) (h a) r (Nat.succ.inj e)
theorem Zm3 : ∀ (kvs : List (Str × V)) {x : Str}, (∀ p ∈ kvs, p.1 ≠ x) -> Z2h (Z5u kvs) (Sum.inr x) = none := by
 intro kvs
 induction kvs with
 | nil => intro x _; rfl
 | cons p kvs ih =>
  intro x h
  show Z2h ((Sum.inr p.1, p.2) :: Z5u kvs) (Sum.inr x) = none
  rw [Z1g (by intro z; injection z with z; exact h p (List.mem_cons_self ..) z)]
  exact ih (fun q hq => h q (List.mem_cons_of_mem _ hq))
theorem Zk0 {K : PySem.W.Frag} (kt_NoneType_int : PySem.W.kitOne K (.type "NoneType") (.type "int") = some false) (kt_bool_int : PySem.W.kitOne K (.type "bool") (.type "int") = some true) (kt_int_int : PySem.W.kitOne K (.type "int") (.type "int") = some true) (kt_str_int : PySem.W.kitOne K (.type "str") (.type "int") = some false) (kt_tuple_int : PySem.W.kitOne K (.type "tuple") (.type "int") = some false) (kt_list_int : PySem.W.kitOne K (.type "list") (.type "int") = some false) (kt_NoneType_bool : PySem.W.kitOne K (.type "NoneType") (.type "bool") = some false) (kt_bool_bool : PySem.W.kitOne K (.type "bool") (.type "bool") = some true) (kt_int_bool : PySem.W.kitOne K (.type "int") (.type "bool") = some false) (kt_str_bool : PySem.W.kitOne K (.type "str") (.type "bool") = some false) (kt_tuple_bool : PySem.W.kitOne K (.type "tuple") (.type "bool") = some false) (kt_list_bool : PySem.W.kitOne K (.type "list") (.type "bool") = some false) (kt_NoneType_str : PySem.W.kitOne K (.type "NoneType") (.type "str") = some false) (kt_bool_str : PySem.W.kitOne K (.type "bool") (.type "str") = some false) (kt_int_str : PySem.W.kitOne K (.type "int") (.type "str") = some false) (kt_str_str : PySem.W.kitOne K (.type "str") (.type "str") = some true) (kt_tuple_str : PySem.W.kitOne K (.type "tuple") (.type "str") = some false) (kt_list_str : PySem.W.kitOne K (.type "list") (.type "str") = some false) (kt_NoneType_tuple : PySem.W.kitOne K (.type "NoneType") (.type "tuple") = some false) (kt_bool_tuple : PySem.W.kitOne K (.type "bool") (.type "tuple") = some false) (kt_int_tuple : PySem.W.kitOne K (.type "int") (.type "tuple") = some false) (kt_str_tuple : PySem.W.kitOne K (.type "str") (.type "tuple") = some false) (kt_tuple_tuple : PySem.W.kitOne K (.type "tuple") (.type "tuple") = some true) (kt_list_tuple : PySem.W.kitOne K (.type "list") (.type "tuple") = some false) : Kits K := by
 refine ⟨⟨?i, ?b, ?t⟩, ?s⟩
 case i =>
  intro H v t h
  cases h with
  | «at» f =>
   cases v with
   | non => exact kt_NoneType_int
   | bl b => exact kt_bool_int
   | int i => exact kt_int_int
   | str x => exact kt_str_int
   | _ => exact absurd (show false = true from f) Bool.false_ne_true
  | tup e r => exact kt_tuple_int
  | lst e r => exact kt_list_int
 case b =>
  intro H v t h
  cases h with
  | «at» f =>
   cases v with
   | non => exact kt_NoneType_bool
   | bl b => exact kt_bool_bool
   | int i => exact kt_int_bool
   | str x => exact kt_str_bool
   | _ => exact absurd (show false = true from f) Bool.false_ne_true
  | tup e r => exact kt_tuple_bool
  | lst e r => exact kt_list_bool
 case s =>
  intro H v t h
  cases h with
  | «at» f =>
   cases v with
   | non => exact kt_NoneType_str
   | bl b => exact kt_bool_str
   | int i => exact kt_int_str
   | str x => exact kt_str_str
   | _ => exact absurd (show false = true from f) Bool.false_ne_true
  | tup e r => exact kt_tuple_str
  | lst e r => exact kt_list_str
 case t =>
  intro H v t h
  cases h with
  | «at» f =>
   cases v with
   | non => exact kt_NoneType_tuple
   | bl b => exact kt_bool_tuple
   | int i => exact kt_int_tuple
   | str x => exact kt_str_tuple
   | _ => exact absurd (show false = true from f) Bool.false_ne_true
  | tup e r => exact kt_tuple_tuple
  | lst e r => exact kt_list_tuple
def Z1x (fV fN fS fT : Addr) (g : Addr) : Th -> Bool :=
 if g = fV then fun t => Z11 t (some 999999999) else if g = fN then nameB else if g = fS then signB else fun t => Z11 t (some 5)
def Znk (fV fN fS fT : Addr) (g : Addr) : Prop := g = fV ∨ g = fN ∨ g = fS ∨ g = fT
theorem Z5a {K : PySem.W.Frag} {r : Addr} {vs : List V} {od : Option Addr} {its : Array Value} {n : Nat} {sl : Array (Option Value)} (l : K.lookup r = some ⟨.type "tuple", od, .seq its n, sl⟩) (v : Vals vs its.toList) (hl : vs.length <= 1000) : ∀ H, SqT K H r vs := fun H => by
 have hsz : its.size <= sizeLine := by
  have h := v.length
  have e : its.toList.length = its.size := Array.length_toList
  have h2 : sizeLine = 16777216 := sizeLine_eq
  omega
 exact .inr ⟨_, its, n, l, rfl, rfl, hsz, v⟩
abbrev Zeu (r0 r1 r2 r3 r4 r5 r6 r7 r8 r9 r10 : Addr) : List (Str × V) := [("num", .ref r0), ("name", .ref r1), ("op", .ref r2), ("pick", .ref r3), ("let", .ref r4), ("set", .ref r5), ("say", .ref r6), ("take", .ref r7), ("do", .ref r8), ("again", .ref r9), ("call", .ref r10)]
theorem Zor : (["num", "name", "op", "pick", "let", "set", "say", "take", "do", "again", "call"] : List Str).Nodup := by decide +kernel
theorem Zm4 : ∀ (kvs : List (Str × V)) {x : Str}, (∀ p ∈ kvs, p.1 ≠ x) -> Zih kvs x = none := fun kvs x h => Zm3 kvs h
section
variable {K : PySem.W.Frag} {fV fN fS fT : Addr} {r0 r1 r2 r3 r4 r5 r6 r7 r8 r9 r10 : Addr}
theorem Za6 (nd : [fV, fN, fS, fT].Nodup) (s0 : ∀ H, SqT K H r0 [.ref fV, .int 0, .int 0]) (s1 : ∀ H, SqT K H r1 [.ref fN, .int 0, .int 0]) (s2 : ∀ H, SqT K H r2 [.ref fS, .int 2, .int 2]) (s3 : ∀ H, SqT K H r3 [.non, .int 3, .int 3])
  (s4 : ∀ H, SqT K H r4 [.ref fN, .int 2, .int 2]) (s5 : ∀ H, SqT K H r5 [.ref fN, .int 1, .int 1]) (s6 : ∀ H, SqT K H r6 [.non, .int 1, .int 1]) (s7 : ∀ H, SqT K H r7 [.non, .int 0, .int 0]) (s8 : ∀ H, SqT K H r8 [.non, .int 1, .int 6]) (s9 : ∀ H, SqT K H r9 [.ref fT, .int 1, .int 1]) (s10 : ∀ H, SqT K H r10 [.ref fN, .int 0, .int 6]) (x : Str) :
  Zb3 K (Z1x fV fN fS fT) (Znk fV fN fS fT) ((Zih (Zeu r0 r1 r2 r3 r4 r5 r6 r7 r8 r9 r10) x).getD .non) ((kindOf x).map (rule nameB signB)) := by
 simp only [List.nodup_cons, List.mem_cons, List.not_mem_nil, or_false, not_or, List.nodup_nil, and_true, not_false_eq_true] at nd
 obtain ⟨⟨nVN, nVS, nVT⟩, ⟨nNS, nNT⟩, nST⟩ := nd
 have eV : Z1x fV fN fS fT fV = fun t => Z11 t (some 999999999) := by unfold Z1x; rw [if_pos rfl]
 have eN : Z1x fV fN fS fT fN = nameB := by unfold Z1x; rw [if_neg (Ne.symm nVN), if_pos rfl]
 have eS : Z1x fV fN fS fT fS = signB := by unfold Z1x; rw [if_neg (Ne.symm nVS), if_neg (Ne.symm nNS), if_pos rfl]
 have eT : Z1x fV fN fS fT fT = fun t => Z11 t (some 5) := by unfold Z1x; rw [if_neg (Ne.symm nVT), if_neg (Ne.symm nNT), if_neg (Ne.symm nST)]
 cases hk : kindOf x with
 | none =>
  have hn := Z9u hk
  have e2 : Zih (Zeu r0 r1 r2 r3 r4 r5 r6 r7 r8 r9 r10) x = none := Zm4 _ (fun p hp z => by
   simp only [Zeu, List.mem_cons, List.not_mem_nil, or_false] at hp
   rcases hp with rfl | rfl | rfl | rfl | rfl | rfl | rfl | rfl | rfl | rfl | rfl
   ·exact hn .num z.symm
   ·exact hn .name z.symm
   ·exact hn .op z.symm
   ·exact hn .pick z.symm
   ·exact hn .lett z.symm
   ·exact hn .sett z.symm
   ·exact hn .say z.symm
   ·exact hn .take z.symm
   ·exact hn .dow z.symm
   ·exact hn .again z.symm
   ·exact hn .call z.symm)
  rw [e2]
  rfl
 | some kk =>
  have ex := Z91 hk
  subst ex
  cases kk with
  | num => exact ⟨r0, .ref fV, by with_unfolding_all rfl, s0, fV, rfl, .inl rfl, eV⟩
  | name => exact ⟨r1, .ref fN, by with_unfolding_all rfl, s1, fN, rfl, .inr (.inl rfl), eN⟩
  | op => exact ⟨r2, .ref fS, by with_unfolding_all rfl, s2, fS, rfl, .inr (.inr (.inl rfl)), eS⟩
  | pick => exact ⟨r3, .non, by with_unfolding_all rfl, s3, rfl⟩
  | lett => exact ⟨r4, .ref fN, by with_unfolding_all rfl, s4, fN, rfl, .inr (.inl rfl), eN⟩
  | sett => exact ⟨r5, .ref fN, by with_unfolding_all rfl, s5, fN, rfl, .inr (.inl rfl), eN⟩
  | say => exact ⟨r6, .non, by with_unfolding_all rfl, s6, rfl⟩
  | take => exact ⟨r7, .non, by with_unfolding_all rfl, s7, rfl⟩
  | dow => exact ⟨r8, .non, by with_unfolding_all rfl, s8, rfl⟩
  | again => exact ⟨r9, .ref fT, by with_unfolding_all rfl, s9, fT, rfl, .inr (.inr (.inr rfl)), eT⟩
  | call => exact ⟨r10, .ref fN, by with_unfolding_all rfl, s10, fN, rfl, .inr (.inl rfl), eN⟩
end
abbrev hA (K : PySem.W.Frag) (n : Str) (f : Addr) : Prop := PySem.W.nsIn K mainGlobals n = some (some (.ref f))
abbrev hL (K : PySem.W.Frag) (n : Str) (S : Stmt) (f : Addr) (oc : Value) (od : Option Addr) (kV dc pm : Value) (an : Option Addr) (cd ct : Value) (sl : Array (Option Value)) : Prop := K.lookup f = some ⟨oc, od, .func (PySem.W.fnOf n n (Z0q S) (Z0n S) (Z03 S) .none kV dc pm an cd ct), sl⟩
abbrev hC (K : PySem.W.Frag) (cd : Value) (n : Str) : Prop := PySem.W.codeIn K cd n = true
abbrev hP (K : PySem.W.Frag) (f : Addr) : Prop := PySem.W.keepIn K (.ref f) = true
abbrev hZ (K : PySem.W.Frag) (n : Str) : Prop := PySem.W.nsIn K mainGlobals n = some none
abbrev hI (K : PySem.W.Frag) (a b : String) (v : Bool) : Prop := PySem.W.kitOne K (.type a) (.type b) = some v
theorem all_mk {l : PySem.W.OpenLaw} {w : World} {K : PySem.W.Frag} {h : Heap} {mg : Str -> Option Value} {fa f0 f1 f2 f3 f4 f5 f6 f7 f8 f9 f10 f11 f12 f13 f14 f15 f16 f17 f18 f19 f20 f21 f22 f23 f24 f25 f26 f27 f28 f29 f30 f31 f32 f33 f34 f35 aW aS aR r0 r1 r2 r3 r4 r5 r6 r7 r8 r9 r10 : Addr} (X : K.In h) (G : h.Ns mainGlobals mg) (hfa : mg "law" = some (.ref fa))
  {od0 an0 od1 an1 od2 an2 od3 an3 od4 an4 od5 an5 od6 an6 od7 an7 od8 an8 od9 an9 od10 an10 od11 an11 od12 an12 od13 an13 od14 an14 od15 an15 od16 an16 od17 an17 od18 an18 od19 an19 od20 an20 od21 an21 od22 an22 od23 an23 od24 an24 od25 an25 od26 an26 od27 an27 od28 an28 od29 an29 od30 an30 od31 an31 od32 an32 od33 an33 od34 an34 od35 an35 : Option Addr} {sl0 sl1 sl2 sl3 sl4 sl5 sl6 sl7 sl8 sl9 sl10 sl11 sl12 sl13 sl14 sl15 sl16 sl17 sl18 sl19 sl20 sl21 sl22 sl23 sl24 sl25 sl26 sl27 sl28 sl29 sl30 sl31 sl32 sl33 sl34 sl35 : Array (Option Value)} {oc0 kV0 dc0 pm0 cd0 ct0 oc1 kV1 dc1 pm1 cd1 ct1 oc2 kV2 dc2 pm2 cd2 ct2 oc3 kV3 dc3 pm3 cd3 ct3 oc4 kV4 dc4 pm4 cd4 ct4 oc5 kV5 dc5 pm5 cd5 ct5 oc6 kV6 dc6 pm6 cd6 ct6 oc7 kV7 dc7 pm7 cd7 ct7 oc8 kV8 dc8 pm8 cd8 ct8 oc9 kV9 dc9 pm9 cd9 ct9 oc10 kV10 dc10 pm10 cd10 ct10 oc11 kV11 dc11 pm11 cd11 ct11 oc12 kV12 dc12 pm12 cd12 ct12 oc13 kV13 dc13 pm13 cd13 ct13 oc14 kV14 dc14 pm14 cd14 ct14 oc15 kV15 dc15 pm15 cd15 ct15 oc16 kV16 dc16 pm16 cd16 ct16 oc17 kV17 dc17 pm17 cd17 ct17 oc18 kV18 dc18 pm18 cd18 ct18 oc19 kV19 dc19 pm19 cd19 ct19 oc20 kV20 dc20 pm20 cd20 ct20 oc21 kV21 dc21 pm21 cd21 ct21 oc22 kV22 dc22 pm22 cd22 ct22 oc23 kV23 dc23 pm23 cd23 ct23 oc24 kV24 dc24 pm24 cd24 ct24 oc25 kV25 dc25 pm25 cd25 ct25 oc26 kV26 dc26 pm26 cd26 ct26 oc27 kV27 dc27 pm27 cd27 ct27 oc28 kV28 dc28 pm28 cd28 ct28 oc29 kV29 dc29 pm29 cd29 ct29 oc30 kV30 dc30 pm30 cd30 ct30 oc31 kV31 dc31 pm31 cd31 ct31 oc32 kV32 dc32 pm32 cd32 ct32 oc33 kV33 dc33 pm33 cd33 ct33 oc34 kV34 dc34 pm34 cd34 ct34 oc35 kV35 dc35 pm35 cd35 ct35 : Value} {odW odS odr0 odr1 odr2 odr3 odr4 odr5 odr6 odr7 odr8 odr9 odr10 : Option Addr} {slW slS slr0 slr1 slr2 slr3 slr4 slr5 slr6 slr7 slr8 slr9 slr10 : Array (Option Value)} {itsW itsS its0 its1 its2 its3 its4 its5 its6 its7 its8 its9 its10 : Array Value} {nW nS epR nr0 nr1 nr2 nr3 nr4 nr5 nr6 nr7 nr8 nr9 nr10 : Nat} {tkL tkV tkT tkN tkO tkC : Tok} {esR : Array DictEntry}
  (a0 : hA K "is_whole" f0) (l0 : hL K "is_whole" Z73 f0 oc0 od0 kV0 dc0 pm0 an0 cd0 ct0 sl0) (c0 : hC K cd0 "is_whole") (k0 : hP K f0)
  (a1 : hA K "is_name" f1) (l1 : hL K "is_name" Z53 f1 oc1 od1 kV1 dc1 pm1 an1 cd1 ct1 sl1) (c1 : hC K cd1 "is_name") (k1 : hP K f1)
  (a2 : hA K "is_value" f2) (l2 : hL K "is_value" Zaw f2 oc2 od2 kV2 dc2 pm2 an2 cd2 ct2 sl2) (c2 : hC K cd2 "is_value") (k2 : hP K f2)
  (a3 : hA K "is_sign" f3) (l3 : hL K "is_sign" Zfi f3 oc3 od3 kV3 dc3 pm3 an3 cd3 ct3 sl3) (c3 : hC K cd3 "is_sign") (k3 : hP K f3)
  (a4 : hA K "is_times" f4) (l4 : hL K "is_times" Zax f4 oc4 od4 kV4 dc4 pm4 an4 cd4 ct4 sl4) (c4 : hC K cd4 "is_times") (k4 : hP K f4)
  (a5 : hA K "expression_rule" f5) (l5 : hL K "expression_rule" Z4f f5 oc5 od5 kV5 dc5 pm5 an5 cd5 ct5 sl5) (c5 : hC K cd5 "expression_rule") (k5 : hP K f5)
  (a6 : hA K "is_node" f6) (l6 : hL K "is_node" Zc2 f6 oc6 od6 kV6 dc6 pm6 an6 cd6 ct6 sl6) (c6 : hC K cd6 "is_node") (k6 : hP K f6)
  (a7 : hA K "is_tree" f7) (l7 : hL K "is_tree" Zdc f7 oc7 od7 kV7 dc7 pm7 an7 cd7 ct7 sl7) (c7 : hC K cd7 "is_tree") (k7 : hP K f7)
  (a8 : hA K "parts" f8) (l8 : hL K "parts" Z5c f8 oc8 od8 kV8 dc8 pm8 an8 cd8 ct8 sl8) (c8 : hC K cd8 "parts") (k8 : hP K f8)
  (a9 : hA K "steps" f9) (l9 : hL K "steps" Z72 f9 oc9 od9 kV9 dc9 pm9 an9 cd9 ct9 sl9) (c9 : hC K cd9 "steps") (k9 : hP K f9)
  (a10 : hA K "sets_bound" f10) (l10 : hL K "sets_bound" Z2v f10 oc10 od10 kV10 dc10 pm10 an10 cd10 ct10 sl10) (c10 : hC K cd10 "sets_bound") (k10 : hP K f10)
  (a11 : hA K "is_expression" f11) (l11 : hL K "is_expression" Z54 f11 oc11 od11 kV11 dc11 pm11 an11 cd11 ct11 sl11) (c11 : hC K cd11 "is_expression") (k11 : hP K f11)
  (a12 : hA K "_law_feed" f12) (l12 : hL K "_law_feed" Zdd f12 oc12 od12 kV12 dc12 pm12 an12 cd12 ct12 sl12) (c12 : hC K cd12 "_law_feed") (k12 : hP K f12)
  (a13 : hA K "_law_draw" f13) (l13 : hL K "_law_draw" Zde f13 oc13 od13 kV13 dc13 pm13 an13 cd13 ct13 sl13) (c13 : hC K cd13 "_law_draw") (k13 : hP K f13)
  (a14 : hA K "_law_one" f14) (l14 : hL K "_law_one" Zkw f14 oc14 od14 kV14 dc14 pm14 an14 cd14 ct14 sl14) (c14 : hC K cd14 "_law_one") (k14 : hP K f14)
  (a15 : hA K "_law_value" f15) (l15 : hL K "_law_value" Z27 f15 oc15 od15 kV15 dc15 pm15 an15 cd15 ct15 sl15) (c15 : hC K cd15 "_law_value") (k15 : hP K f15)
  (a16 : hA K "_law_spelled" f16) (l16 : hL K "_law_spelled" Z4g f16 oc16 od16 kV16 dc16 pm16 an16 cd16 ct16 sl16) (c16 : hC K cd16 "_law_spelled") (k16 : hP K f16)
  (a17 : hA K "_law_words" f17) (l17 : hL K "_law_words" Z3g f17 oc17 od17 kV17 dc17 pm17 an17 cd17 ct17 sl17) (c17 : hC K cd17 "_law_words") (k17 : hP K f17)
  (a18 : hA K "_law_name" f18) (l18 : hL K "_law_name" Z2m f18 oc18 od18 kV18 dc18 pm18 an18 cd18 ct18 sl18) (c18 : hC K cd18 "_law_name") (k18 : hP K f18)
  (a19 : hA K "_law_names" f19) (l19 : hL K "_law_names" Z8q f19 oc19 od19 kV19 dc19 pm19 an19 cd19 ct19 sl19) (c19 : hC K cd19 "_law_names") (k19 : hP K f19)
  (a20 : hA K "_law_parts" f20) (l20 : hL K "_law_parts" Z2g f20 oc20 od20 kV20 dc20 pm20 an20 cd20 ct20 sl20) (c20 : hC K cd20 "_law_parts") (k20 : hP K f20)
  (a21 : hA K "_law_with" f21) (l21 : hL K "_law_with" Z3o f21 oc21 od21 kV21 dc21 pm21 an21 cd21 ct21 sl21) (c21 : hC K cd21 "_law_with") (k21 : hP K f21)
  (a22 : hA K "_law_leaf" f22) (l22 : hL K "_law_leaf" Z9n f22 oc22 od22 kV22 dc22 pm22 an22 cd22 ct22 sl22) (c22 : hC K cd22 "_law_leaf") (k22 : hP K f22)
  (a23 : hA K "_law_expr" f23) (l23 : hL K "_law_expr" Z6j f23 oc23 od23 kV23 dc23 pm23 an23 cd23 ct23 sl23) (c23 : hC K cd23 "_law_expr") (k23 : hP K f23)
  (a24 : hA K "_law_world" f24) (l24 : hL K "_law_world" Z8r f24 oc24 od24 kV24 dc24 pm24 an24 cd24 ct24 sl24) (c24 : hC K cd24 "_law_world") (k24 : hP K f24)
  (a25 : hA K "_law_is_name" f25) (l25 : hL K "_law_is_name" Z23 f25 oc25 od25 kV25 dc25 pm25 an25 cd25 ct25 sl25) (c25 : hC K cd25 "_law_is_name") (k25 : hP K f25)
  (a26 : hA K "_law_whole" f26) (l26 : hL K "_law_whole" Z3h f26 oc26 od26 kV26 dc26 pm26 an26 cd26 ct26 sl26) (c26 : hC K cd26 "_law_whole") (k26 : hP K f26)
  (a27 : hA K "_law_is" f27) (l27 : hL K "_law_is" Z62 f27 oc27 od27 kV27 dc27 pm27 an27 cd27 ct27 sl27) (c27 : hC K cd27 "_law_is") (k27 : hP K f27)
  (a28 : hA K "_law_all_paths" f28) (l28 : hL K "_law_all_paths" Z2w f28 oc28 od28 kV28 dc28 pm28 an28 cd28 ct28 sl28) (c28 : hC K cd28 "_law_all_paths") (k28 : hP K f28)
  (a29 : hA K "_law_swapped" f29) (l29 : hL K "_law_swapped" Z3p f29 oc29 od29 kV29 dc29 pm29 an29 cd29 ct29 sl29) (c29 : hC K cd29 "_law_swapped") (k29 : hP K f29)
  (a30 : hA K "_law_odd" f30) (l30 : hL K "_law_odd" Zkx f30 oc30 od30 kV30 dc30 pm30 an30 cd30 ct30 sl30) (c30 : hC K cd30 "_law_odd") (k30 : hP K f30)
  (a31 : hA K "_law_bent" f31) (l31 : hL K "_law_bent" Z6k f31 oc31 od31 kV31 dc31 pm31 an31 cd31 ct31 sl31) (c31 : hC K cd31 "_law_bent") (k31 : hP K f31)
  (a32 : hA K "_law_within" f32) (l32 : hL K "_law_within" Z63 f32 oc32 od32 kV32 dc32 pm32 an32 cd32 ct32 sl32) (c32 : hC K cd32 "_law_within") (k32 : hP K f32)
  (a33 : hA K "_law_wide" f33) (l33 : hL K "_law_wide" Z9o f33 oc33 od33 kV33 dc33 pm33 an33 cd33 ct33 sl33) (c33 : hC K cd33 "_law_wide") (k33 : hP K f33)
  (a34 : hA K "_law_right" f34) (l34 : hL K "_law_right" Z8s f34 oc34 od34 kV34 dc34 pm34 an34 cd34 ct34 sl34) (c34 : hC K cd34 "_law_right") (k34 : hP K f34)
  (a35 : hA K "law" f35) (l35 : hL K "law" Zdf f35 oc35 od35 kV35 dc35 pm35 an35 cd35 ct35 sl35) (c35 : hC K cd35 "law") (k35 : hP K f35)
  (q_isinstance : hZ K "isinstance")
  (q_int : hZ K "int")
  (q_bool : hZ K "bool")
  (q_str : hZ K "str")
  (q_tuple : hZ K "tuple")
  (q_len : hZ K "len")
  (q_all : hZ K "all")
  (q_list : hZ K "list")
  (q_range : hZ K "range")
  (q_enumerate : hZ K "enumerate")
  (gN : PySem.W.nsIn K mainGlobals "NODE" = some (some (.str "node" tkN)))
  (gO : PySem.W.nsIn K mainGlobals "OPENED" = some (some (.str "opened" tkO)))
  (gC : PySem.W.nsIn K mainGlobals "CLOSED" = some (some (.str "closed" tkC)))
  (gW : hA K "WORDS" aW)
  (lW : K.lookup aW = some ⟨.type "tuple", odW, .seq itsW nW, slW⟩)
  (vW : Vals wordsV itsW.toList)
  (gS : hA K "SIGNS" aS)
  (lS : K.lookup aS = some ⟨.type "tuple", odS, .seq itsS nS, slS⟩)
  (vS : Vals (signsL.map V.str) itsS.toList)
  (gL : PySem.W.nsIn K mainGlobals "LONGEST_NAME" = some (some (.int 8 tkL)))
  (gV : PySem.W.nsIn K mainGlobals "GREATEST_VALUE" = some (some (.int 999999999 tkV)))
  (gT : PySem.W.nsIn K mainGlobals "MOST_TIMES" = some (some (.int 5 tkT)))
  (gR : hA K "RULES" aR)
  (lR : K.lookup aR = some ⟨.type "dict", none, .dict esR epR, #[]⟩)
  (eR : KEnt w esR.toList (Zeu r0 r1 r2 r3 r4 r5 r6 r7 r8 r9 r10))
  (lr0 : K.lookup r0 = some ⟨.type "tuple", odr0, .seq its0 nr0, slr0⟩)
  (vr0 : Vals [(.ref f2), .int 0, .int 0] its0.toList)
  (lr1 : K.lookup r1 = some ⟨.type "tuple", odr1, .seq its1 nr1, slr1⟩)
  (vr1 : Vals [(.ref f1), .int 0, .int 0] its1.toList)
  (lr2 : K.lookup r2 = some ⟨.type "tuple", odr2, .seq its2 nr2, slr2⟩)
  (vr2 : Vals [(.ref f3), .int 2, .int 2] its2.toList)
  (lr3 : K.lookup r3 = some ⟨.type "tuple", odr3, .seq its3 nr3, slr3⟩)
  (vr3 : Vals [.non, .int 3, .int 3] its3.toList)
  (lr4 : K.lookup r4 = some ⟨.type "tuple", odr4, .seq its4 nr4, slr4⟩)
  (vr4 : Vals [(.ref f1), .int 2, .int 2] its4.toList)
  (lr5 : K.lookup r5 = some ⟨.type "tuple", odr5, .seq its5 nr5, slr5⟩)
  (vr5 : Vals [(.ref f1), .int 1, .int 1] its5.toList)
  (lr6 : K.lookup r6 = some ⟨.type "tuple", odr6, .seq its6 nr6, slr6⟩)
  (vr6 : Vals [.non, .int 1, .int 1] its6.toList)
  (lr7 : K.lookup r7 = some ⟨.type "tuple", odr7, .seq its7 nr7, slr7⟩)
  (vr7 : Vals [.non, .int 0, .int 0] its7.toList)
  (lr8 : K.lookup r8 = some ⟨.type "tuple", odr8, .seq its8 nr8, slr8⟩)
  (vr8 : Vals [.non, .int 1, .int 6] its8.toList)
  (lr9 : K.lookup r9 = some ⟨.type "tuple", odr9, .seq its9 nr9, slr9⟩)
  (vr9 : Vals [(.ref f4), .int 1, .int 1] its9.toList)
  (lr10 : K.lookup r10 = some ⟨.type "tuple", odr10, .seq its10 nr10, slr10⟩)
  (vr10 : Vals [(.ref f1), .int 0, .int 6] its10.toList)
  (smR : (aR == sysModules) = false)
  (ndF : [f2, f1, f3, f4].Nodup)
  (kt_NoneType_int : hI K "NoneType" "int" false)
  (kt_bool_int : hI K "bool" "int" true)
  (kt_int_int : hI K "int" "int" true)
  (kt_str_int : hI K "str" "int" false)
  (kt_tuple_int : hI K "tuple" "int" false)
  (kt_list_int : hI K "list" "int" false)
  (kt_NoneType_bool : hI K "NoneType" "bool" false)
  (kt_bool_bool : hI K "bool" "bool" true)
  (kt_int_bool : hI K "int" "bool" false)
  (kt_str_bool : hI K "str" "bool" false)
  (kt_tuple_bool : hI K "tuple" "bool" false)
  (kt_list_bool : hI K "list" "bool" false)
  (kt_NoneType_str : hI K "NoneType" "str" false)
  (kt_bool_str : hI K "bool" "str" false)
  (kt_int_str : hI K "int" "str" false)
  (kt_str_str : hI K "str" "str" true)
  (kt_tuple_str : hI K "tuple" "str" false)
  (kt_list_str : hI K "list" "str" false)
  (kt_NoneType_tuple : hI K "NoneType" "tuple" false)
  (kt_bool_tuple : hI K "bool" "tuple" false)
  (kt_int_tuple : hI K "int" "tuple" false)
  (kt_str_tuple : hI K "str" "tuple" false)
  (kt_tuple_tuple : hI K "tuple" "tuple" true)
  (kt_list_tuple : hI K "list" "tuple" false) :
  ∃ fd : FuncData, (∀ (s : Shared) (v : Value), BindsTo s fd ⟨[v], []⟩ [("_law_script", v)]) /\ ∀ base : Heap, K.In base -> base.Ns mainGlobals mg -> FnOk l.prog w K mg base CX0 93 fa fd ["_law_script"] (Zgy K) := by
 have e := hfa.symm.trans (PySem.W.mg_of X G a35)
 cases e
 have F0 := Z0u (st := Z73) l0 c0 k0
 have b0 := F0.binds (ps := ["thing"]) fun _ _ _ _ _ _ => Z1d fun _ => rfl
 have m0 := PySem.W.mg_of X G a0
 have F1 := Z0u (st := Z53) l1 c1 k1
 have b1 := F1.binds (ps := ["thing"]) fun _ _ _ _ _ _ => Z1d fun _ => rfl
 have m1 := PySem.W.mg_of X G a1
 have F2 := Z0u (st := Zaw) l2 c2 k2
 have b2 := F2.binds (ps := ["thing"]) fun _ _ _ _ _ _ => Z1d fun _ => rfl
 have m2 := PySem.W.mg_of X G a2
 have F3 := Z0u (st := Zfi) l3 c3 k3
 have b3 := F3.binds (ps := ["thing"]) fun _ _ _ _ _ _ => Z1d fun _ => rfl
 have m3 := PySem.W.mg_of X G a3
 have F4 := Z0u (st := Zax) l4 c4 k4
 have b4 := F4.binds (ps := ["thing"]) fun _ _ _ _ _ _ => Z1d fun _ => rfl
 have m4 := PySem.W.mg_of X G a4
 have F5 := Z0u (st := Z4f) l5 c5 k5
 have b5 := F5.binds (ps := ["word"]) fun _ _ _ _ _ _ => Z1d fun _ => rfl
 have m5 := PySem.W.mg_of X G a5
 have F6 := Z0u (st := Zc2) l6 c6 k6
 have b6 := F6.binds (ps := ["thing", "rule_of"]) fun _ _ _ _ _ _ => Z1r fun _ _ => rfl
 have m6 := PySem.W.mg_of X G a6
 have F7 := Z0u (st := Zdc) l7 c7 k7
 have b7 := F7.binds (ps := ["thing", "rule_of"]) fun _ _ _ _ _ _ => Z1r fun _ _ => rfl
 have m7 := PySem.W.mg_of X G a7
 have F8 := Z0u (st := Z5c) l8 c8 k8
 have b8 := F8.binds (ps := ["e"]) fun _ _ _ _ _ _ => Z1d fun _ => rfl
 have m8 := PySem.W.mg_of X G a8
 have F9 := Z0u (st := Z72) l9 c9 k9
 have b9 := F9.binds (ps := ["tree"]) fun _ _ _ _ _ _ => Z1d fun _ => rfl
 have m9 := PySem.W.mg_of X G a9
 have F10 := Z0u (st := Z2v) l10 c10 k10
 have b10 := F10.binds (ps := ["e"]) fun _ _ _ _ _ _ => Z1d fun _ => rfl
 have m10 := PySem.W.mg_of X G a10
 have F11 := Z0u (st := Z54) l11 c11 k11
 have b11 := F11.binds (ps := ["thing"]) fun _ _ _ _ _ _ => Z1d fun _ => rfl
 have m11 := PySem.W.mg_of X G a11
 have F12 := Z0u (st := Zdd) l12 c12 k12
 have b12 := F12.binds (ps := ["_law_script"]) fun _ _ _ _ _ _ => Z1d fun _ => rfl
 have m12 := PySem.W.mg_of X G a12
 have F13 := Z0u (st := Zde) l13 c13 k13
 have b13 := F13.binds (ps := ["_law_feed_here", "_law_many"]) fun _ _ _ _ _ _ => Z1r fun _ _ => rfl
 have m13 := PySem.W.mg_of X G a13
 have F14 := Z0u (st := Zkw) l14 c14 k14
 have b14 := F14.binds (ps := ["_law_feed_here", "_law_some"]) fun _ _ _ _ _ _ => Z1r fun _ _ => rfl
 have m14 := PySem.W.mg_of X G a14
 have F15 := Z0u (st := Z27) l15 c15 k15
 have b15 := F15.binds (ps := ["_law_feed_here"]) fun _ _ _ _ _ _ => Z1d fun _ => rfl
 have m15 := PySem.W.mg_of X G a15
 have F16 := Z0u (st := Z4g) l16 c16 k16
 have b16 := F16.binds (ps := ["_law_number", "_law_long"]) fun _ _ _ _ _ _ => Z1r fun _ _ => rfl
 have m16 := PySem.W.mg_of X G a16
 have F17 := Z0u (st := Z3g) l17 c17 k17
 have b17 := F17.binds (ps := []) fun _ _ _ _ _ _ => Zet rfl
 have m17 := PySem.W.mg_of X G a17
 have F18 := Z0u (st := Z2m) l18 c18 k18
 have b18 := F18.binds (ps := ["_law_feed_here", "_law_taken"]) fun _ _ _ _ _ _ => Z1r fun _ _ => rfl
 have m18 := PySem.W.mg_of X G a18
 have F19 := Z0u (st := Z8q) l19 c19 k19
 have b19 := F19.binds (ps := ["_law_feed_here", "_law_many"]) fun _ _ _ _ _ _ => Z1r fun _ _ => rfl
 have m19 := PySem.W.mg_of X G a19
 have F20 := Z0u (st := Z2g) l20 c20 k20
 have b20 := F20.binds (ps := ["_law_e"]) fun _ _ _ _ _ _ => Z1d fun _ => rfl
 have m20 := PySem.W.mg_of X G a20
 have F21 := Z0u (st := Z3o) l21 c21 k21
 have b21 := F21.binds (ps := ["_law_e", "_law_some"]) fun _ _ _ _ _ _ => Z1r fun _ _ => rfl
 have m21 := PySem.W.mg_of X G a21
 have F22 := Z0u (st := Z9n) l22 c22 k22
 have b22 := F22.binds (ps := ["_law_feed_here", "_law_world_here", "_law_bound"]) fun _ _ _ _ _ _ => Z7z fun _ _ _ => rfl
 have m22 := PySem.W.mg_of X G a22
 have F23 := Z0u (st := Z6j) l23 c23 k23
 have b23 := F23.binds (ps := ["_law_feed_here", "_law_world_here", "_law_bound", "_law_depth"]) fun _ _ _ _ _ _ => Zjz fun _ _ _ _ => rfl
 have m23 := PySem.W.mg_of X G a23
 have F24 := Z0u (st := Z8r) l24 c24 k24
 have b24 := F24.binds (ps := ["_law_feed_here", "_law_room"]) fun _ _ _ _ _ _ => Z1r fun _ _ => rfl
 have m24 := PySem.W.mg_of X G a24
 have F25 := Z0u (st := Z23) l25 c25 k25
 have b25 := F25.binds (ps := ["_law_thing"]) fun _ _ _ _ _ _ => Z1d fun _ => rfl
 have m25 := PySem.W.mg_of X G a25
 have F26 := Z0u (st := Z3h) l26 c26 k26
 have b26 := F26.binds (ps := ["_law_thing", "_law_most"]) fun _ _ _ _ _ _ => Z1r fun _ _ => rfl
 have m26 := PySem.W.mg_of X G a26
 have F27 := Z0u (st := Z62) l27 c27 k27
 have b27 := F27.binds (ps := ["_law_thing", "_law_bound"]) fun _ _ _ _ _ _ => Z1r fun _ _ => rfl
 have m27 := PySem.W.mg_of X G a27
 have F28 := Z0u (st := Z2w) l28 c28 k28
 have b28 := F28.binds (ps := ["_law_e"]) fun _ _ _ _ _ _ => Z1d fun _ => rfl
 have m28 := PySem.W.mg_of X G a28
 have F29 := Z0u (st := Z3p) l29 c29 k29
 have b29 := F29.binds (ps := ["_law_e", "_law_path", "_law_other"]) fun _ _ _ _ _ _ => Z7z fun _ _ _ => rfl
 have m29 := PySem.W.mg_of X G a29
 have F30 := Z0u (st := Zkx) l30 c30 k30
 have b30 := F30.binds (ps := ["_law_feed_here", "_law_name_here"]) fun _ _ _ _ _ _ => Z1r fun _ _ => rfl
 have m30 := PySem.W.mg_of X G a30
 have F31 := Z0u (st := Z6k) l31 c31 k31
 have b31 := F31.binds (ps := ["_law_feed_here", "_law_world_here", "_law_e"]) fun _ _ _ _ _ _ => Z7z fun _ _ _ => rfl
 have m31 := PySem.W.mg_of X G a31
 have F32 := Z0u (st := Z63) l32 c32 k32
 have b32 := F32.binds (ps := ["_law_feed_here", "_law_e"]) fun _ _ _ _ _ _ => Z1r fun _ _ => rfl
 have m32 := PySem.W.mg_of X G a32
 have F33 := Z0u (st := Z9o) l33 c33 k33
 have b33 := F33.binds (ps := ["_law_feed_here", "_law_world_here"]) fun _ _ _ _ _ _ => Z1r fun _ _ => rfl
 have m33 := PySem.W.mg_of X G a33
 have F34 := Z0u (st := Z8s) l34 c34 k34
 have b34 := F34.binds (ps := ["_law_thing"]) fun _ _ _ _ _ _ => Z1d fun _ => rfl
 have m34 := PySem.W.mg_of X G a34
 have F35 := Z0u (st := Zdf) l35 c35 k35
 have z_isinstance := PySem.W.mg_none_of X G q_isinstance
 have z_int := PySem.W.mg_none_of X G q_int
 have z_bool := PySem.W.mg_none_of X G q_bool
 have z_str := PySem.W.mg_none_of X G q_str
 have z_tuple := PySem.W.mg_none_of X G q_tuple
 have z_len := PySem.W.mg_none_of X G q_len
 have z_all := PySem.W.mg_none_of X G q_all
 have z_list := PySem.W.mg_none_of X G q_list
 have z_range := PySem.W.mg_none_of X G q_range
 have z_enumerate := PySem.W.mg_none_of X G q_enumerate
 have T0 : Txt0 mg := ⟨z_len, z_list, z_range⟩
 have T : TxtT mg := ⟨z_isinstance, z_int, z_bool, z_tuple, z_len, z_str, z_all⟩
 have KI : Kits K := Zk0 kt_NoneType_int kt_bool_int kt_int_int kt_str_int kt_tuple_int kt_list_int kt_NoneType_bool kt_bool_bool kt_int_bool kt_str_bool kt_tuple_bool kt_list_bool kt_NoneType_str kt_bool_str kt_int_str kt_str_str kt_tuple_str kt_list_str kt_NoneType_tuple kt_bool_tuple kt_int_tuple kt_str_tuple kt_tuple_tuple kt_list_tuple
 have TD : TxtD mg := ⟨⟨_, PySem.W.mg_of X G gN⟩, ⟨_, PySem.W.mg_of X G gO⟩, ⟨_, PySem.W.mg_of X G gC⟩⟩
 have mgW := PySem.W.mg_of X G gW
 have mgS := PySem.W.mg_of X G gS
 have mgL := PySem.W.mg_of X G gL
 have mgV := PySem.W.mg_of X G gV
 have mgT := PySem.W.mg_of X G gT
 have mgR := PySem.W.mg_of X G gR
 have TN : TxtN K mg aW := ⟨z_len, z_isinstance, z_str, z_all, ⟨_, mgL⟩, mgW, Z5a lW vW (by decide +kernel)⟩
 have sqS := Z5a lS vS (by decide +kernel)
 have TA : Tables K w mg (Z1x f2 f1 f3 f4) (Znk f2 f1 f3 f4) aR (Zeu r0 r1 r2 r3 r4 r5 r6 r7 r8 r9 r10) := ⟨mgR, ⟨⟨_, esR, epR, lR, rfl, rfl, rfl, rfl, eR⟩, Zor, smR⟩, Za6 ndF (Z5a lr0 vr0 (by show 3 <= 1000; decide)) (Z5a lr1 vr1 (by show 3 <= 1000; decide)) (Z5a lr2 vr2 (by show 3 <= 1000; decide)) (Z5a lr3 vr3 (by show 3 <= 1000; decide)) (Z5a lr4 vr4 (by show 3 <= 1000; decide)) (Z5a lr5 vr5 (by show 3 <= 1000; decide)) (Z5a lr6 vr6 (by show 3 <= 1000; decide)) (Z5a lr7 vr7 (by show 3 <= 1000; decide)) (Z5a lr8 vr8 (by show 3 <= 1000; decide)) (Z5a lr9 vr9 (by show 3 <= 1000; decide)) (Z5a lr10 vr10 (by show 3 <= 1000; decide))⟩
 have U : Dr K mg f13 f16 f14 f17 _ _ _ _ := ⟨T0, F13, b13, m13, F16, b16, m16, F14, b14, m14, F17, b17, m17⟩
 refine ⟨PySem.W.fnOf "law" "law" (Z0q Zdf) (Z0n Zdf) (Z03 Zdf) .none kV35 dc35 pm35 an35 cd35 ct35, fun s v => .of_eq rfl, fun base _ _ => ?_⟩
 have nd := ndF
 simp only [List.nodup_cons, List.mem_cons, List.not_mem_nil, or_false, not_or, List.nodup_nil, and_true, not_false_eq_true] at nd
 obtain ⟨⟨nVN, nVS, nVT⟩, ⟨nNS, nNT⟩, nST⟩ := nd
 have GEr := Z9p (P := l.prog) (w := w) (base := base) F5 TA
 have GNd := Ziw (P := l.prog) (w := w) (base := base) (fits := Z1x f2 f1 f3 f4) (Pf := Znk f2 f1 f3 f4) (fR := f5) (dR := PySem.W.fnOf "law" "law" (Z0q Zdf) (Z0n Zdf) (Z03 Zdf) .none kV35 dc35 pm35 an35 cd35 ct35) F6 T KI (fun g hg => by subst hg; exact ⟨_, _, (GEr.imp fun vs H Q E ⟨x, e, q⟩ => ⟨x, e, q _ (TA.at_ x)⟩).mono (by decide), F5.kp, b5⟩) (fun g hg => by
  rcases hg with rfl | rfl | rfl | rfl
  ·have e : Z1x g f1 f3 f4 g = fun t => Z11 t (some 999999999) := by unfold Z1x; rw [if_pos rfl]
   rw [e]; exact ⟨_, _, Zfm F2 T KI F0 b0 m0 mgV, F2.kp, b2⟩
  ·have e : Z1x f2 g f3 f4 g = nameB := by unfold Z1x; rw [if_neg (Ne.symm nVN), if_pos rfl]
   rw [e]; exact ⟨_, _, (Zfo F1 TN KI).mono (by decide), F1.kp, b1⟩
  ·have e : Z1x f2 f1 g f4 g = signB := by unfold Z1x; rw [if_neg (Ne.symm nVS), if_neg (Ne.symm nNS), if_pos rfl]
   rw [e]; exact ⟨_, _, (Ziu F3 T KI mgS sqS).mono (by decide), F3.kp, b3⟩
  ·have e : Z1x f2 f1 f3 g g = fun t => Z11 t (some 5) := by unfold Z1x; rw [if_neg (Ne.symm nVT), if_neg (Ne.symm nNT), if_neg (Ne.symm nST)]
   rw [e]; exact ⟨_, _, Zfn F4 T KI F0 b0 m0 mgT, F4.kp, b4⟩)
 have GTr := Zix (P := l.prog) (w := w) (base := base) (fR := f5) F7 T KI GNd F6 b6 m6 F8 b8 m8
 have GSb := Zj0 (P := l.prog) (w := w) (base := base) F10 T TD KI F8 b8 m8 F9 b9 m9 85
 have GE := Zdo (P := l.prog) (w := w) (base := base) F11 GTr F7 b7 m7 m5 85 GSb F10 b10 m10
 have GNm := Z9t (P := l.prog) (w := w) (base := base) F25 TN KI F17 b17 m17
 have GWh := Zdp (P := l.prog) (w := w) (base := base) (mg := mg) F26 T KI
 have GI := Zla (P := l.prog) (w := w) (base := base) F27 b27 m27 T KI z_list GNm F25 b25 m25 GWh F26 b26 m26 86
 have GR := Zgn (P := l.prog) (w := w) (base := base) F34 T 85 (by decide) GE F11 b11 m11 GI F27 b27 m27
 have GX := Zjg (P := l.prog) (w := w) (base := base) F23 b23 m23 U z_tuple F15 b15 m15 F22 b22 m22 8
 exact Zm2 F35 U z_list ⟨F12, b12, m12⟩ ⟨F24, b24, m24⟩ (Zgm F24 U F18 b18 m18 F19 b19 m19) ⟨F23, b23, m23⟩ GX ⟨F32, b32, m32⟩ ⟨F11, b11, m11⟩ GE ⟨F28, b28, m28⟩ (Za4 F28 b28 m28 T KI z_enumerate F20 b20 m20 34) ⟨F31, b31, m31⟩ (Zjx F31 U z_tuple z_list F30 b30 m30 F15 b15 m15 F22 b22 m22) ⟨F29, b29, m29⟩ (Zcb F29 b29 m29 T KI F20 b20 m20 F21 b21 m21 34) ⟨F34, b34, m34⟩ GR ⟨F33, b33, m33⟩ (Zjy F33 U z_tuple F15 b15 m15 F22 b22 m22)
theorem walk {l : PySem.W.OpenLaw} {q : Program} {loose : List Str} {XP : (Str -> Option Value) -> Heap -> Prop} {YP : World -> Heap -> Prop} {d : DefRec} {K : Params -> PySem.W.Frag} (hn : l.most = some 63) (hdf : d.params.defaults = [])
  (hY : ∀ (w : World) (h : Heap), YP w h -> (K w.params).In h)
  (F : ∀ (w : World) (mg : Str -> Option Value) (fa : Addr) (h : Heap), (K w.params).In h -> h.Ns mainGlobals mg -> mg d.name = some (.ref fa) →
   ∃ fd : FuncData, (∀ (s : Shared) (u : Value), BindsTo s fd ⟨[u], []⟩ [("_law_script", u)]) /\ ∀ base : Heap, (K w.params).In base -> base.Ns mainGlobals mg -> FnOk l.prog w (K w.params) mg base CX0 93 fa fd ["_law_script"] (Zgy (K w.params))) :
  PySem.W.WalkO q loose XP YP l.row.toRowW d [] (fun f vs => PySem.call f vs) :=
 L2.walk_of (n := 63) (k := 93) (x := "_law_script") (CX := fun _ => CX0) (sp := fun w => Zgy (K w.params)) hn (by decide) hdf ⟨rfl, rfl, by decide, by decide⟩ hY F (fun _ _ a ns hl _ hS => ⟨a, ns, rfl, hS, hl, fun _ => rfl⟩) fun _ _ _ _ _ z => z
end K02
open PySem PySem.W PyProof.Rows
set_option maxRecDepth 100000 in
set_option maxHeartbeats 0 in
theorem PySem.Challenge.cw_likepieces_k02_expressions_known_holds : PySem.Challenge.rw_likepieces_k02_expressions_known.Holds := by
 w_on
 refine holds_law K02.hdS fun sd => ?_
 refine holds_open (q := K02.hdQ) (loose := K02.hdL) (Yf := K02.hdH.obs) (Ya := K02.hdH.val)
  (XP := XL K02.hdQ []) (YP := InK K02.hdK) (N := K02.hdN) K02.hdT K02.hdH.of
  K02.hdH.keeps (fun s e => xl_of s (Bool.and_eq_true_iff.mp e).1) XL.keeps (by rfl) (by rfl)
  (by rfl) (fun s e => recFacts_of (Bool.and_eq_true_iff.mp e).2) (by rfl) sd (by decide +kernel)
  ⟨rfl, rfl, rfl, rfl, rfl, by decide +kernel⟩ ?hw ?hc
 (case hw => w_witness2)
 k_fill
 refine K02.walk (l := PySem.Challenge.rw_likepieces_k02_expressions_known) rfl rfl (K := K02.hdK) (fun w h Y => Y) ?F
 case F =>
  intro w mg fa h KX G hmg
  refine' K02.all_mk KX G hmg ?a0 ?l0 ?c0 ?k0 ?a1 ?l1 ?c1 ?k1 ?a2 ?l2 ?c2 ?k2 ?a3 ?l3 ?c3 ?k3 ?a4 ?l4 ?c4 ?k4 ?a5 ?l5 ?c5 ?k5 ?a6 ?l6 ?c6 ?k6 ?a7 ?l7 ?c7 ?k7 ?a8 ?l8 ?c8 ?k8 ?a9 ?l9 ?c9 ?k9 ?a10 ?l10 ?c10 ?k10 ?a11 ?l11 ?c11 ?k11 ?a12 ?l12 ?c12 ?k12 ?a13 ?l13 ?c13 ?k13 ?a14 ?l14 ?c14 ?k14 ?a15 ?l15 ?c15 ?k15 ?a16 ?l16 ?c16 ?k16 ?a17 ?l17 ?c17 ?k17 ?a18 ?l18 ?c18 ?k18 ?a19 ?l19 ?c19 ?k19 ?a20 ?l20 ?c20 ?k20 ?a21 ?l21 ?c21 ?k21 ?a22 ?l22 ?c22 ?k22 ?a23 ?l23 ?c23 ?k23 ?a24 ?l24 ?c24 ?k24 ?a25 ?l25 ?c25 ?k25 ?a26 ?l26 ?c26 ?k26 ?a27 ?l27 ?c27 ?k27 ?a28 ?l28 ?c28 ?k28 ?a29 ?l29 ?c29 ?k29 ?a30 ?l30 ?c30 ?k30 ?a31 ?l31 ?c31 ?k31 ?a32 ?l32 ?c32 ?k32 ?a33 ?l33 ?c33 ?k33 ?a34 ?l34 ?c34 ?k34 ?a35 ?l35 ?c35 ?k35 ?q_isinstance ?q_int ?q_bool ?q_str ?q_tuple ?q_len ?q_all ?q_list ?q_range ?q_enumerate ?gN ?gO ?gC ?gW ?lW ?vW ?gS ?lS ?vS ?gL ?gV ?gT ?gR ?lR ?eR ?lr0 ?vr0 ?lr1 ?vr1 ?lr2 ?vr2 ?lr3 ?vr3 ?lr4 ?vr4 ?lr5 ?vr5 ?lr6 ?vr6 ?lr7 ?vr7 ?lr8 ?vr8 ?lr9 ?vr9 ?lr10 ?vr10 ?smR ?ndF ?kt_NoneType_int ?kt_bool_int ?kt_int_int ?kt_str_int ?kt_tuple_int ?kt_list_int ?kt_NoneType_bool ?kt_bool_bool ?kt_int_bool ?kt_str_bool ?kt_tuple_bool ?kt_list_bool ?kt_NoneType_str ?kt_bool_str ?kt_int_str ?kt_str_str ?kt_tuple_str ?kt_list_str ?kt_NoneType_tuple ?kt_bool_tuple ?kt_int_tuple ?kt_str_tuple ?kt_tuple_tuple ?kt_list_tuple
  all_goals first | unfold K02.hA | unfold K02.hL | unfold K02.hC | unfold K02.hP | unfold K02.hZ | unfold K02.hI | skip
  (case a0 | l0 | c0 | k0 | a1 | l1 | c1 | k1 | a2 | l2 | c2 | k2 | a3 | l3 | c3 | k3 | a4 | l4 | c4 | k4 | a5 | l5 | c5 | k5 | a6 | l6 | c6 | k6 | a7 | l7 | c7 | k7 | a8 | l8 | c8 | k8 | a9 | l9 | c9 | k9 | a10 | l10 | c10 | k10 | a11 | l11 | c11 | k11 | a12 | l12 | c12 | k12 | a13 | l13 | c13 | k13 | a14 | l14 | c14 | k14 | a15 | l15 | c15 | k15 | a16 | l16 | c16 | k16 | a17 | l17 | c17 | k17 | a18 | l18 | c18 | k18 | a19 | l19 | c19 | k19 | a20 | l20 | c20 | k20 | a21 | l21 | c21 | k21 | a22 | l22 | c22 | k22 | a23 | l23 | c23 | k23 | a24 | l24 | c24 | k24 | a25 | l25 | c25 | k25 | a26 | l26 | c26 | k26 | a27 | l27 | c27 | k27 | a28 | l28 | c28 | k28 | a29 | l29 | c29 | k29 | a30 | l30 | c30 | k30 | a31 | l31 | c31 | k31 | a32 | l32 | c32 | k32 | a33 | l33 | c33 | k33 | a34 | l34 | c34 | k34 | a35 | l35 | c35 | k35 | q_isinstance | q_int | q_bool | q_str | q_tuple | q_len | q_all | q_list | q_range | q_enumerate | gN | gO | gC | gW | lW => k_is)
  (case vW => exact .cons ⟨_, rfl⟩ (.cons ⟨_, rfl⟩ (.cons ⟨_, rfl⟩ (.cons ⟨_, rfl⟩ (.cons ⟨_, rfl⟩ (.cons ⟨_, rfl⟩ (.cons ⟨_, rfl⟩ (.cons ⟨_, rfl⟩ (.cons ⟨_, rfl⟩ (.cons ⟨_, rfl⟩ (.cons ⟨_, rfl⟩ (.cons ⟨_, rfl⟩ (.cons ⟨_, rfl⟩ (.nil))))))))))))))
  (case gS | lS => k_is)
  (case vS => exact .cons ⟨_, rfl⟩ (.cons ⟨_, rfl⟩ (.cons ⟨_, rfl⟩ (.cons ⟨_, rfl⟩ (.cons ⟨_, rfl⟩ (.cons ⟨_, rfl⟩ (.nil)))))))
  (case gL | gV | gT | gR | lR => k_is)
  (case eR => exact .cons rfl (.cons rfl (.cons rfl (.cons rfl (.cons rfl (.cons rfl (.cons rfl (.cons rfl (.cons rfl (.cons rfl (.cons rfl (.nil))))))))))))
  (case lr0 => k_is)
  (case vr0 => exact .cons rfl (.cons ⟨_, rfl⟩ (.cons ⟨_, rfl⟩ .nil)))
  (case lr1 => k_is)
  (case vr1 => exact .cons rfl (.cons ⟨_, rfl⟩ (.cons ⟨_, rfl⟩ .nil)))
  (case lr2 => k_is)
  (case vr2 => exact .cons rfl (.cons ⟨_, rfl⟩ (.cons ⟨_, rfl⟩ .nil)))
  (case lr3 => k_is)
  (case vr3 => exact .cons rfl (.cons ⟨_, rfl⟩ (.cons ⟨_, rfl⟩ .nil)))
  (case lr4 => k_is)
  (case vr4 => exact .cons rfl (.cons ⟨_, rfl⟩ (.cons ⟨_, rfl⟩ .nil)))
  (case lr5 => k_is)
  (case vr5 => exact .cons rfl (.cons ⟨_, rfl⟩ (.cons ⟨_, rfl⟩ .nil)))
  (case lr6 => k_is)
  (case vr6 => exact .cons rfl (.cons ⟨_, rfl⟩ (.cons ⟨_, rfl⟩ .nil)))
  (case lr7 => k_is)
  (case vr7 => exact .cons rfl (.cons ⟨_, rfl⟩ (.cons ⟨_, rfl⟩ .nil)))
  (case lr8 => k_is)
  (case vr8 => exact .cons rfl (.cons ⟨_, rfl⟩ (.cons ⟨_, rfl⟩ .nil)))
  (case lr9 => k_is)
  (case vr9 => exact .cons rfl (.cons ⟨_, rfl⟩ (.cons ⟨_, rfl⟩ .nil)))
  (case lr10 => k_is)
  (case vr10 => exact .cons rfl (.cons ⟨_, rfl⟩ (.cons ⟨_, rfl⟩ .nil)))
  (case smR | ndF => decide)
  (case kt_NoneType_int | kt_bool_int | kt_int_int | kt_str_int | kt_tuple_int | kt_list_int | kt_NoneType_bool | kt_bool_bool | kt_int_bool | kt_str_bool | kt_tuple_bool | kt_list_bool | kt_NoneType_str | kt_bool_str | kt_int_str | kt_str_str | kt_tuple_str | kt_list_str | kt_NoneType_tuple | kt_bool_tuple | kt_int_tuple | kt_str_tuple | kt_tuple_tuple | kt_list_tuple => first | k_is | rfl | decide)
