import PyProof.Rows.All
import Wide.All
import OpenK.AllK
import Wide.FinOn
import Lean
import PyProof.EqAt
import PyProof.EqKinds
import PyProof.TupleCall
import PyProof.NeKinds
import PyProof.Rows.SortStr
import PyProof.Rows.SeqMore
import PyProof.Rows.CatFin
import PyProof.MeetsStr
import PyProof.Rows.SumAny
import PyProof.Rows.SortShell
import PyProof.Rows.SetFrom
import PyProof.DictWalks
import PyProof.Rows.SortReads
import KE.KDictSum
import PyProof.ZipIter
import PyProof.Rows.ZipGen
import PyProof.TupleOfGen
import PyProof.TupleOfStr
import KE.KIsAll
import PySem.Challenge.RW_likepieces_k54_texts_shown
import PyProof.Rows.StrJoin2
import PyProof.ReprLen
import PyProof.AttrMissSeq
import KE.KDictOf
set_option Elab.async false
set_option linter.all false
set_option maxRecDepth 100000
set_option maxHeartbeats 4000000
namespace L2
open PySem
def defArgs (s : Stmt) : Arguments := match s with
  | .FunctionDef _ a _ _ _ _ _ _ _ _ => a
  | _ => { posonlyargs := [], args := [], vararg := none, kwonlyargs := [], kw_defaults := [], kwarg := none, defaults := [] }
def defBody (s : Stmt) : List Stmt := match s with
  | .FunctionDef _ _ b _ _ _ _ _ _ _ => b
  | _ => []
def defScope (s : Stmt) : Scope := match s with
  | .FunctionDef _ _ _ _ _ _ sc _ _ _ => sc
  | _ => { kind := .function, names := [], isGenerator := false, isCoroutine := false }
end L2
namespace K54
open PySem L2
def top (i : Nat) : Stmt := PySem.Challenge.pw_likepieces_k54_texts_shown.main.body.getD i (.Pass ⟨0, 0, 0, 0⟩)
def hdQ : Program := { PySem.Challenge.pw_likepieces_k54_texts_shown with main := { PySem.Challenge.pw_likepieces_k54_texts_shown.main with body := [top 1, top 2, top 4, top 5, top 6, top 8, top 9, top 10, top 11, top 12, top 13, top 14, top 15, top 16, top 17, top 18, top 19, top 20, top 21, top 22, top 23, top 24, top 25, top 26, top 27, top 28, top 29, top 30, top 31, top 32] } }
def hdK : Params → PySem.W.Frag := fun P =>
  (nat_lit 2, ⟨.none, none, (.dict #[] 0), #[]⟩) ::
  (nat_lit 3, ⟨(.type "dict"), none, (.dict #[⟨(PySem.PyData.keyHash P "__name__"), (.str "__name__" 165), (.str "law_likepieces_k54_texts_shown" 227)⟩, ⟨(PySem.PyData.keyHash P "__doc__"), (.str "__doc__" 166), .none⟩, ⟨(PySem.PyData.keyHash P "__package__"), (.str "__package__" 167), .none⟩, ⟨(PySem.PyData.keyHash P "__loader__"), (.str "__loader__" 168), (.builtin "__main__.__loader__#opaque")⟩, ⟨(PySem.PyData.keyHash P "__spec__"), (.str "__spec__" 169), .none⟩, ⟨(PySem.PyData.keyHash P "__annotations__"), (.str "__annotations__" 170), (.ref 6)⟩, ⟨(PySem.PyData.keyHash P "__builtins__"), (.str "__builtins__" 171), (.ref 4)⟩, ⟨(PySem.PyData.keyHash P "__file__"), (.str "__file__" 173), (.str "/claim/cut.py" 172)⟩, ⟨(PySem.PyData.keyHash P "__cached__"), (.str "__cached__" 174), .none⟩, ⟨(PySem.PyData.keyHash P "head"), (.str "head" 194), (.ref 19)⟩, ⟨(PySem.PyData.keyHash P "parts"), (.str "parts" 200), (.ref 24)⟩, ⟨(PySem.PyData.keyHash P "node_words"), (.str "node_words" 208), (.ref 29)⟩, ⟨(PySem.PyData.keyHash P "show"), (.str "show" 220), (.ref 36)⟩, ⟨(PySem.PyData.keyHash P "show_program"), (.str "show_program" 226), (.ref 41)⟩, ⟨(PySem.PyData.keyHash P "_law_feed"), (.str "_law_feed" 235), (.ref 48)⟩, ⟨(PySem.PyData.keyHash P "_law_draw"), (.str "_law_draw" 247), (.ref 55)⟩, ⟨(PySem.PyData.keyHash P "_law_value"), (.str "_law_value" 255), (.ref 62)⟩, ⟨(PySem.PyData.keyHash P "_law_spelled"), (.str "_law_spelled" 265), (.ref 69)⟩, ⟨(PySem.PyData.keyHash P "_law_name"), (.str "_law_name" 280), (.ref 76)⟩, ⟨(PySem.PyData.keyHash P "_law_names"), (.str "_law_names" 290), (.ref 83)⟩, ⟨(PySem.PyData.keyHash P "_law_parts"), (.str "_law_parts" 296), (.ref 88)⟩, ⟨(PySem.PyData.keyHash P "_law_with"), (.str "_law_with" 302), (.ref 93)⟩, ⟨(PySem.PyData.keyHash P "_law_nodes"), (.str "_law_nodes" 308), (.ref 98)⟩, ⟨(PySem.PyData.keyHash P "_law_work"), (.str "_law_work" 314), (.ref 103)⟩, ⟨(PySem.PyData.keyHash P "_law_right"), (.str "_law_right" 320), (.ref 108)⟩, ⟨(PySem.PyData.keyHash P "_law_leaf"), (.str "_law_leaf" 331), (.ref 115)⟩, ⟨(PySem.PyData.keyHash P "_law_turned"), (.str "_law_turned" 337), (.ref 120)⟩, ⟨(PySem.PyData.keyHash P "_law_spoilt"), (.str "_law_spoilt" 349), (.ref 127)⟩, ⟨(PySem.PyData.keyHash P "_law_copied"), (.str "_law_copied" 355), (.ref 132)⟩, ⟨(PySem.PyData.keyHash P "_law_bound"), (.str "_law_bound" 361), (.ref 137)⟩, ⟨(PySem.PyData.keyHash P "_law_called"), (.str "_law_called" 367), (.ref 142)⟩, ⟨(PySem.PyData.keyHash P "_law_expr"), (.str "_law_expr" 373), (.ref 147)⟩, ⟨(PySem.PyData.keyHash P "_law_world"), (.str "_law_world" 385), (.ref 154)⟩, ⟨(PySem.PyData.keyHash P "_law_seeds"), (.str "_law_seeds" 397), (.ref 161)⟩, ⟨(PySem.PyData.keyHash P "_law_program"), (.str "_law_program" 403), (.ref 166)⟩, ⟨(PySem.PyData.keyHash P "_law_drawn"), (.str "_law_drawn" 409), (.ref 171)⟩, ⟨(PySem.PyData.keyHash P "_law_words"), (.str "_law_words" 415), (.ref 176)⟩, ⟨(PySem.PyData.keyHash P "_law_lines"), (.str "_law_lines" 421), (.ref 181)⟩, ⟨(PySem.PyData.keyHash P "law"), (.str "law" 427), (.ref 186)⟩] 39), #[]⟩) ::
  (nat_lit 15, ⟨(.type "tuple"), none, (.seq #[] 0), #[]⟩) ::
  (nat_lit 18, ⟨(.type "code"), none, (.fields #[(.str "head" 189), (.str "head" 190), (.str "/claim/cut.py" 191), (.int 2 0), (.int 1 0), (.int 0 0), (.int 0 0), (.int 3 0), (.ref 15), (.bool true), (.int 181 0), (.ref 16), .none, .none, .none, (.ref 17), (.int 192 0), (.int 2 0), (.str "/claim/cut.py" 193)]), #[]⟩) ::
  (nat_lit 19, ⟨(.type "function"), none, (.func (PySem.W.fnOf "head" "head" (defArgs (top 1)) (defBody (top 1)) (defScope (top 1)) .none .none .none (.str "likepieces.trees" 187) none (.ref 18) .none)), #[]⟩) ::
  (nat_lit 20, ⟨(.type "tuple"), none, (.seq #[] 0), #[]⟩) ::
  (nat_lit 23, ⟨(.type "code"), none, (.fields #[(.str "parts" 195), (.str "parts" 196), (.str "/claim/cut.py" 197), (.int 4 0), (.int 1 0), (.int 0 0), (.int 0 0), (.int 3 0), (.ref 20), (.bool true), (.int 181 0), (.ref 21), .none, .none, .none, (.ref 22), (.int 198 0), (.int 4 0), (.str "/claim/cut.py" 199)]), #[]⟩) ::
  (nat_lit 24, ⟨(.type "function"), none, (.func (PySem.W.fnOf "parts" "parts" (defArgs (top 2)) (defBody (top 2)) (defScope (top 2)) .none .none .none (.str "likepieces.trees" 187) none (.ref 23) .none)), #[]⟩) ::
  (nat_lit 25, ⟨(.type "tuple"), none, (.seq #[] 0), #[]⟩) ::
  (nat_lit 28, ⟨(.type "code"), none, (.fields #[(.str "node_words" 203), (.str "node_words" 204), (.str "/claim/cut.py" 205), (.int 7 0), (.int 1 0), (.int 0 0), (.int 0 0), (.int 3 0), (.ref 25), (.bool true), (.int 181 0), (.ref 26), .none, .none, .none, (.ref 27), (.int 206 0), (.int 7 0), (.str "/claim/cut.py" 207)]), #[]⟩) ::
  (nat_lit 29, ⟨(.type "function"), none, (.func (PySem.W.fnOf "node_words" "node_words" (defArgs (top 4)) (defBody (top 4)) (defScope (top 4)) .none .none .none (.str "likepieces.texts" 201) none (.ref 28) .none)), #[]⟩) ::
  (nat_lit 30, ⟨(.type "tuple"), none, (.seq #[] 0), #[]⟩) ::
  (nat_lit 32, ⟨(.type "tuple"), none, (.seq #[(.str "e" 212), (.str "words" 213), (.str "waiting" 214), (.str "here" 215), (.str "ahead" 216), (.str "behind" 217)] 0), #[]⟩) ::
  (nat_lit 33, ⟨(.type "tuple"), none, (.seq #[] 0), #[]⟩) ::
  (nat_lit 35, ⟨(.type "code"), none, (.fields #[(.str "show" 209), (.str "show" 210), (.str "/claim/cut.py" 211), (.int 17 0), (.int 1 0), (.int 0 0), (.int 0 0), (.int 3 0), (.ref 30), (.bool true), (.int 181 0), (.ref 31), .none, (.ref 32), (.ref 33), (.ref 34), (.int 218 0), (.int 17 0), (.str "/claim/cut.py" 219)]), #[]⟩) ::
  (nat_lit 36, ⟨(.type "function"), none, (.func (PySem.W.fnOf "show" "show" (defArgs (top 5)) (defBody (top 5)) (defScope (top 5)) .none .none .none (.str "likepieces.texts" 201) none (.ref 35) .none)), #[]⟩) ::
  (nat_lit 37, ⟨(.type "tuple"), none, (.seq #[] 0), #[]⟩) ::
  (nat_lit 40, ⟨(.type "code"), none, (.fields #[(.str "show_program" 221), (.str "show_program" 222), (.str "/claim/cut.py" 223), (.int 30 0), (.int 1 0), (.int 0 0), (.int 0 0), (.int 3 0), (.ref 37), (.bool true), (.int 181 0), (.ref 38), .none, .none, .none, (.ref 39), (.int 224 0), (.int 30 0), (.str "/claim/cut.py" 225)]), #[]⟩) ::
  (nat_lit 41, ⟨(.type "function"), none, (.func (PySem.W.fnOf "show_program" "show_program" (defArgs (top 6)) (defBody (top 6)) (defScope (top 6)) .none .none .none (.str "likepieces.texts" 201) none (.ref 40) .none)), #[]⟩) ::
  (nat_lit 42, ⟨(.type "tuple"), none, (.seq #[] 0), #[]⟩) ::
  (nat_lit 44, ⟨(.type "tuple"), none, (.seq #[(.str "_law_script" 232)] 0), #[]⟩) ::
  (nat_lit 45, ⟨(.type "tuple"), none, (.seq #[] 0), #[]⟩) ::
  (nat_lit 47, ⟨(.type "code"), none, (.fields #[(.str "_law_feed" 229), (.str "_law_feed" 230), (.str "/claim/cut.py" 231), (.int 35 0), (.int 1 0), (.int 0 0), (.int 0 0), (.int 3 0), (.ref 42), (.bool true), (.int 181 0), (.ref 43), .none, (.ref 44), (.ref 45), (.ref 46), (.int 233 0), (.int 35 0), (.str "/claim/cut.py" 234)]), #[]⟩) ::
  (nat_lit 48, ⟨(.type "function"), none, (.func (PySem.W.fnOf "_law_feed" "_law_feed" (defArgs (top 8)) (defBody (top 8)) (defScope (top 8)) .none .none .none (.str "law_likepieces_k54_texts_shown" 227) none (.ref 47) .none)), #[]⟩) ::
  (nat_lit 49, ⟨(.type "tuple"), none, (.seq #[] 0), #[]⟩) ::
  (nat_lit 51, ⟨(.type "tuple"), none, (.seq #[(.str "_law_feed_here" 239), (.str "_law_many" 240), (.str "_law_found" 241), (.str "_law_at" 242), (.str "_law_cell" 243), (.str "_law_number" 244)] 0), #[]⟩) ::
  (nat_lit 52, ⟨(.type "tuple"), none, (.seq #[] 0), #[]⟩) ::
  (nat_lit 54, ⟨(.type "code"), none, (.fields #[(.str "_law_draw" 236), (.str "_law_draw" 237), (.str "/claim/cut.py" 238), (.int 37 0), (.int 2 0), (.int 0 0), (.int 0 0), (.int 3 0), (.ref 49), (.bool true), (.int 181 0), (.ref 50), .none, (.ref 51), (.ref 52), (.ref 53), (.int 245 0), (.int 37 0), (.str "/claim/cut.py" 246)]), #[]⟩) ::
  (nat_lit 55, ⟨(.type "function"), none, (.func (PySem.W.fnOf "_law_draw" "_law_draw" (defArgs (top 9)) (defBody (top 9)) (defScope (top 9)) .none .none .none (.str "law_likepieces_k54_texts_shown" 227) none (.ref 54) .none)), #[]⟩) ::
  (nat_lit 56, ⟨(.type "tuple"), none, (.seq #[] 0), #[]⟩) ::
  (nat_lit 58, ⟨(.type "tuple"), none, (.seq #[(.str "_law_feed_here" 251), (.str "_law_way" 252)] 0), #[]⟩) ::
  (nat_lit 59, ⟨(.type "tuple"), none, (.seq #[] 0), #[]⟩) ::
  (nat_lit 61, ⟨(.type "code"), none, (.fields #[(.str "_law_value" 248), (.str "_law_value" 249), (.str "/claim/cut.py" 250), (.int 54 0), (.int 1 0), (.int 0 0), (.int 0 0), (.int 3 0), (.ref 56), (.bool true), (.int 181 0), (.ref 57), .none, (.ref 58), (.ref 59), (.ref 60), (.int 253 0), (.int 54 0), (.str "/claim/cut.py" 254)]), #[]⟩) ::
  (nat_lit 62, ⟨(.type "function"), none, (.func (PySem.W.fnOf "_law_value" "_law_value" (defArgs (top 10)) (defBody (top 10)) (defScope (top 10)) .none .none .none (.str "law_likepieces_k54_texts_shown" 227) none (.ref 61) .none)), #[]⟩) ::
  (nat_lit 63, ⟨(.type "tuple"), none, (.seq #[] 0), #[]⟩) ::
  (nat_lit 65, ⟨(.type "tuple"), none, (.seq #[(.str "_law_number" 259), (.str "_law_long" 260), (.str "_law_word" 261), (.str "_law_k" 262)] 0), #[]⟩) ::
  (nat_lit 66, ⟨(.type "tuple"), none, (.seq #[] 0), #[]⟩) ::
  (nat_lit 68, ⟨(.type "code"), none, (.fields #[(.str "_law_spelled" 256), (.str "_law_spelled" 257), (.str "/claim/cut.py" 258), (.int 61 0), (.int 2 0), (.int 0 0), (.int 0 0), (.int 3 0), (.ref 63), (.bool true), (.int 181 0), (.ref 64), .none, (.ref 65), (.ref 66), (.ref 67), (.int 263 0), (.int 61 0), (.str "/claim/cut.py" 264)]), #[]⟩) ::
  (nat_lit 69, ⟨(.type "function"), none, (.func (PySem.W.fnOf "_law_spelled" "_law_spelled" (defArgs (top 11)) (defBody (top 11)) (defScope (top 11)) .none .none .none (.str "law_likepieces_k54_texts_shown" 227) none (.ref 68) .none)), #[]⟩) ::
  (nat_lit 70, ⟨(.type "tuple"), none, (.seq #[] 0), #[]⟩) ::
  (nat_lit 72, ⟨(.type "tuple"), none, (.seq #[(.str "_law_feed_here" 269), (.str "_law_taken" 270), (.str "_law_words_here" 271), (.str "_law_way" 272), (.str "_law_long" 273), (.str "_law_number" 274), (.str "_law_name_here" 275), (.str "_law_word" 276), (.str "_law_at" 277)] 0), #[]⟩) ::
  (nat_lit 73, ⟨(.type "tuple"), none, (.seq #[] 0), #[]⟩) ::
  (nat_lit 75, ⟨(.type "code"), none, (.fields #[(.str "_law_name" 266), (.str "_law_name" 267), (.str "/claim/cut.py" 268), (.int 67 0), (.int 2 0), (.int 0 0), (.int 0 0), (.int 3 0), (.ref 70), (.bool true), (.int 181 0), (.ref 71), .none, (.ref 72), (.ref 73), (.ref 74), (.int 278 0), (.int 67 0), (.str "/claim/cut.py" 279)]), #[]⟩) ::
  (nat_lit 76, ⟨(.type "function"), none, (.func (PySem.W.fnOf "_law_name" "_law_name" (defArgs (top 12)) (defBody (top 12)) (defScope (top 12)) .none .none .none (.str "law_likepieces_k54_texts_shown" 227) none (.ref 75) .none)), #[]⟩) ::
  (nat_lit 77, ⟨(.type "tuple"), none, (.seq #[] 0), #[]⟩) ::
  (nat_lit 79, ⟨(.type "tuple"), none, (.seq #[(.str "_law_feed_here" 284), (.str "_law_many" 285), (.str "_law_names_here" 286), (.str "_law_k" 287)] 0), #[]⟩) ::
  (nat_lit 80, ⟨(.type "tuple"), none, (.seq #[] 0), #[]⟩) ::
  (nat_lit 82, ⟨(.type "code"), none, (.fields #[(.str "_law_names" 281), (.str "_law_names" 282), (.str "/claim/cut.py" 283), (.int 89 0), (.int 2 0), (.int 0 0), (.int 0 0), (.int 3 0), (.ref 77), (.bool true), (.int 181 0), (.ref 78), .none, (.ref 79), (.ref 80), (.ref 81), (.int 288 0), (.int 89 0), (.str "/claim/cut.py" 289)]), #[]⟩) ::
  (nat_lit 83, ⟨(.type "function"), none, (.func (PySem.W.fnOf "_law_names" "_law_names" (defArgs (top 13)) (defBody (top 13)) (defScope (top 13)) .none .none .none (.str "law_likepieces_k54_texts_shown" 227) none (.ref 82) .none)), #[]⟩) ::
  (nat_lit 84, ⟨(.type "tuple"), none, (.seq #[] 0), #[]⟩) ::
  (nat_lit 87, ⟨(.type "code"), none, (.fields #[(.str "_law_parts" 291), (.str "_law_parts" 292), (.str "/claim/cut.py" 293), (.int 94 0), (.int 1 0), (.int 0 0), (.int 0 0), (.int 3 0), (.ref 84), (.bool true), (.int 181 0), (.ref 85), .none, .none, .none, (.ref 86), (.int 294 0), (.int 94 0), (.str "/claim/cut.py" 295)]), #[]⟩) ::
  (nat_lit 88, ⟨(.type "function"), none, (.func (PySem.W.fnOf "_law_parts" "_law_parts" (defArgs (top 14)) (defBody (top 14)) (defScope (top 14)) .none .none .none (.str "law_likepieces_k54_texts_shown" 227) none (.ref 87) .none)), #[]⟩) ::
  (nat_lit 89, ⟨(.type "tuple"), none, (.seq #[] 0), #[]⟩) ::
  (nat_lit 92, ⟨(.type "code"), none, (.fields #[(.str "_law_with" 297), (.str "_law_with" 298), (.str "/claim/cut.py" 299), (.int 96 0), (.int 2 0), (.int 0 0), (.int 0 0), (.int 3 0), (.ref 89), (.bool true), (.int 181 0), (.ref 90), .none, .none, .none, (.ref 91), (.int 300 0), (.int 96 0), (.str "/claim/cut.py" 301)]), #[]⟩) ::
  (nat_lit 93, ⟨(.type "function"), none, (.func (PySem.W.fnOf "_law_with" "_law_with" (defArgs (top 15)) (defBody (top 15)) (defScope (top 15)) .none .none .none (.str "law_likepieces_k54_texts_shown" 227) none (.ref 92) .none)), #[]⟩) ::
  (nat_lit 94, ⟨(.type "tuple"), none, (.seq #[] 0), #[]⟩) ::
  (nat_lit 97, ⟨(.type "code"), none, (.fields #[(.str "_law_nodes" 303), (.str "_law_nodes" 304), (.str "/claim/cut.py" 305), (.int 98 0), (.int 1 0), (.int 0 0), (.int 0 0), (.int 3 0), (.ref 94), (.bool true), (.int 181 0), (.ref 95), .none, .none, .none, (.ref 96), (.int 306 0), (.int 98 0), (.str "/claim/cut.py" 307)]), #[]⟩) ::
  (nat_lit 98, ⟨(.type "function"), none, (.func (PySem.W.fnOf "_law_nodes" "_law_nodes" (defArgs (top 16)) (defBody (top 16)) (defScope (top 16)) .none .none .none (.str "law_likepieces_k54_texts_shown" 227) none (.ref 97) .none)), #[]⟩) ::
  (nat_lit 99, ⟨(.type "tuple"), none, (.seq #[] 0), #[]⟩) ::
  (nat_lit 102, ⟨(.type "code"), none, (.fields #[(.str "_law_work" 309), (.str "_law_work" 310), (.str "/claim/cut.py" 311), (.int 100 0), (.int 2 0), (.int 0 0), (.int 0 0), (.int 3 0), (.ref 99), (.bool true), (.int 181 0), (.ref 100), .none, .none, .none, (.ref 101), (.int 312 0), (.int 100 0), (.str "/claim/cut.py" 313)]), #[]⟩) ::
  (nat_lit 103, ⟨(.type "function"), none, (.func (PySem.W.fnOf "_law_work" "_law_work" (defArgs (top 17)) (defBody (top 17)) (defScope (top 17)) .none .none .none (.str "law_likepieces_k54_texts_shown" 227) none (.ref 102) .none)), #[]⟩) ::
  (nat_lit 104, ⟨(.type "tuple"), none, (.seq #[] 0), #[]⟩) ::
  (nat_lit 107, ⟨(.type "code"), none, (.fields #[(.str "_law_right" 315), (.str "_law_right" 316), (.str "/claim/cut.py" 317), (.int 107 0), (.int 2 0), (.int 0 0), (.int 0 0), (.int 3 0), (.ref 104), (.bool true), (.int 181 0), (.ref 105), .none, .none, .none, (.ref 106), (.int 318 0), (.int 107 0), (.str "/claim/cut.py" 319)]), #[]⟩) ::
  (nat_lit 108, ⟨(.type "function"), none, (.func (PySem.W.fnOf "_law_right" "_law_right" (defArgs (top 18)) (defBody (top 18)) (defScope (top 18)) .none .none .none (.str "law_likepieces_k54_texts_shown" 227) none (.ref 107) .none)), #[]⟩) ::
  (nat_lit 109, ⟨(.type "tuple"), none, (.seq #[] 0), #[]⟩) ::
  (nat_lit 111, ⟨(.type "tuple"), none, (.seq #[(.str "_law_feed_here" 324), (.str "_law_world_here" 325), (.str "_law_bound_here" 326), (.str "_law_way" 327), (.str "_law_some" 328)] 0), #[]⟩) ::
  (nat_lit 112, ⟨(.type "tuple"), none, (.seq #[] 0), #[]⟩) ::
  (nat_lit 114, ⟨(.type "code"), none, (.fields #[(.str "_law_leaf" 321), (.str "_law_leaf" 322), (.str "/claim/cut.py" 323), (.int 113 0), (.int 3 0), (.int 0 0), (.int 0 0), (.int 3 0), (.ref 109), (.bool true), (.int 181 0), (.ref 110), .none, (.ref 111), (.ref 112), (.ref 113), (.int 329 0), (.int 113 0), (.str "/claim/cut.py" 330)]), #[]⟩) ::
  (nat_lit 115, ⟨(.type "function"), none, (.func (PySem.W.fnOf "_law_leaf" "_law_leaf" (defArgs (top 19)) (defBody (top 19)) (defScope (top 19)) .none .none .none (.str "law_likepieces_k54_texts_shown" 227) none (.ref 114) .none)), #[]⟩) ::
  (nat_lit 116, ⟨(.type "tuple"), none, (.seq #[] 0), #[]⟩) ::
  (nat_lit 119, ⟨(.type "code"), none, (.fields #[(.str "_law_turned" 332), (.str "_law_turned" 333), (.str "/claim/cut.py" 334), (.int 121 0), (.int 3 0), (.int 0 0), (.int 0 0), (.int 3 0), (.ref 116), (.bool true), (.int 181 0), (.ref 117), .none, .none, .none, (.ref 118), (.int 335 0), (.int 121 0), (.str "/claim/cut.py" 336)]), #[]⟩) ::
  (nat_lit 120, ⟨(.type "function"), none, (.func (PySem.W.fnOf "_law_turned" "_law_turned" (defArgs (top 20)) (defBody (top 20)) (defScope (top 20)) .none .none .none (.str "law_likepieces_k54_texts_shown" 227) none (.ref 119) .none)), #[]⟩) ::
  (nat_lit 121, ⟨(.type "tuple"), none, (.seq #[] 0), #[]⟩) ::
  (nat_lit 123, ⟨(.type "tuple"), none, (.seq #[(.str "_law_e" 341), (.str "_law_at" 342), (.str "_law_leaf_here" 343), (.str "_law_inner" 344), (.str "_law_k" 345), (.str "_law_long" 346)] 0), #[]⟩) ::
  (nat_lit 124, ⟨(.type "tuple"), none, (.seq #[] 0), #[]⟩) ::
  (nat_lit 126, ⟨(.type "code"), none, (.fields #[(.str "_law_spoilt" 338), (.str "_law_spoilt" 339), (.str "/claim/cut.py" 340), (.int 125 0), (.int 3 0), (.int 0 0), (.int 0 0), (.int 3 0), (.ref 121), (.bool true), (.int 181 0), (.ref 122), .none, (.ref 123), (.ref 124), (.ref 125), (.int 347 0), (.int 125 0), (.str "/claim/cut.py" 348)]), #[]⟩) ::
  (nat_lit 127, ⟨(.type "function"), none, (.func (PySem.W.fnOf "_law_spoilt" "_law_spoilt" (defArgs (top 21)) (defBody (top 21)) (defScope (top 21)) .none .none .none (.str "law_likepieces_k54_texts_shown" 227) none (.ref 126) .none)), #[]⟩) ::
  (nat_lit 128, ⟨(.type "tuple"), none, (.seq #[] 0), #[]⟩) ::
  (nat_lit 131, ⟨(.type "code"), none, (.fields #[(.str "_law_copied" 350), (.str "_law_copied" 351), (.str "/claim/cut.py" 352), (.int 136 0), (.int 5 0), (.int 0 0), (.int 0 0), (.int 3 0), (.ref 128), (.bool true), (.int 181 0), (.ref 129), .none, .none, .none, (.ref 130), (.int 353 0), (.int 136 0), (.str "/claim/cut.py" 354)]), #[]⟩) ::
  (nat_lit 132, ⟨(.type "function"), none, (.func (PySem.W.fnOf "_law_copied" "_law_copied" (defArgs (top 22)) (defBody (top 22)) (defScope (top 22)) .none .none .none (.str "law_likepieces_k54_texts_shown" 227) none (.ref 131) .none)), #[]⟩) ::
  (nat_lit 133, ⟨(.type "tuple"), none, (.seq #[] 0), #[]⟩) ::
  (nat_lit 136, ⟨(.type "code"), none, (.fields #[(.str "_law_bound" 356), (.str "_law_bound" 357), (.str "/claim/cut.py" 358), (.int 154 0), (.int 6 0), (.int 0 0), (.int 0 0), (.int 3 0), (.ref 133), (.bool true), (.int 181 0), (.ref 134), .none, .none, .none, (.ref 135), (.int 359 0), (.int 154 0), (.str "/claim/cut.py" 360)]), #[]⟩) ::
  (nat_lit 137, ⟨(.type "function"), none, (.func (PySem.W.fnOf "_law_bound" "_law_bound" (defArgs (top 23)) (defBody (top 23)) (defScope (top 23)) .none .none .none (.str "law_likepieces_k54_texts_shown" 227) none (.ref 136) .none)), #[]⟩) ::
  (nat_lit 138, ⟨(.type "tuple"), none, (.seq #[] 0), #[]⟩) ::
  (nat_lit 141, ⟨(.type "code"), none, (.fields #[(.str "_law_called" 362), (.str "_law_called" 363), (.str "/claim/cut.py" 364), (.int 165 0), (.int 5 0), (.int 0 0), (.int 0 0), (.int 3 0), (.ref 138), (.bool true), (.int 181 0), (.ref 139), .none, .none, .none, (.ref 140), (.int 365 0), (.int 165 0), (.str "/claim/cut.py" 366)]), #[]⟩) ::
  (nat_lit 142, ⟨(.type "function"), none, (.func (PySem.W.fnOf "_law_called" "_law_called" (defArgs (top 24)) (defBody (top 24)) (defScope (top 24)) .none .none .none (.str "law_likepieces_k54_texts_shown" 227) none (.ref 141) .none)), #[]⟩) ::
  (nat_lit 143, ⟨(.type "tuple"), none, (.seq #[] 0), #[]⟩) ::
  (nat_lit 146, ⟨(.type "code"), none, (.fields #[(.str "_law_expr" 368), (.str "_law_expr" 369), (.str "/claim/cut.py" 370), (.int 174 0), (.int 5 0), (.int 0 0), (.int 0 0), (.int 3 0), (.ref 143), (.bool true), (.int 181 0), (.ref 144), .none, .none, .none, (.ref 145), (.int 371 0), (.int 174 0), (.str "/claim/cut.py" 372)]), #[]⟩) ::
  (nat_lit 147, ⟨(.type "function"), none, (.func (PySem.W.fnOf "_law_expr" "_law_expr" (defArgs (top 25)) (defBody (top 25)) (defScope (top 25)) .none .none .none (.str "law_likepieces_k54_texts_shown" 227) none (.ref 146) .none)), #[]⟩) ::
  (nat_lit 148, ⟨(.type "tuple"), none, (.seq #[] 0), #[]⟩) ::
  (nat_lit 150, ⟨(.type "tuple"), none, (.seq #[(.str "_law_names_here" 377), (.str "_law_lets" 378), (.str "_law_functions" 379), (.str "_law_works" 380), (.str "_law_room" 381), (.str "_law_toil" 382)] 0), #[]⟩) ::
  (nat_lit 151, ⟨(.type "tuple"), none, (.seq #[] 0), #[]⟩) ::
  (nat_lit 153, ⟨(.type "code"), none, (.fields #[(.str "_law_world" 374), (.str "_law_world" 375), (.str "/claim/cut.py" 376), (.int 201 0), (.int 6 0), (.int 0 0), (.int 0 0), (.int 3 0), (.ref 148), (.bool true), (.int 181 0), (.ref 149), .none, (.ref 150), (.ref 151), (.ref 152), (.int 383 0), (.int 201 0), (.str "/claim/cut.py" 384)]), #[]⟩) ::
  (nat_lit 154, ⟨(.type "function"), none, (.func (PySem.W.fnOf "_law_world" "_law_world" (defArgs (top 26)) (defBody (top 26)) (defScope (top 26)) .none .none .none (.str "law_likepieces_k54_texts_shown" 227) none (.ref 153) .none)), #[]⟩) ::
  (nat_lit 155, ⟨(.type "tuple"), none, (.seq #[] 0), #[]⟩) ::
  (nat_lit 157, ⟨(.type "tuple"), none, (.seq #[(.str "_law_feed_here" 389), (.str "_law_world_here" 390), (.str "_law_many" 391), (.str "_law_found" 392), (.str "_law_k" 393), (.str "_law_small" 394)] 0), #[]⟩) ::
  (nat_lit 158, ⟨(.type "tuple"), none, (.seq #[] 0), #[]⟩) ::
  (nat_lit 160, ⟨(.type "code"), none, (.fields #[(.str "_law_seeds" 386), (.str "_law_seeds" 387), (.str "/claim/cut.py" 388), (.int 203 0), (.int 3 0), (.int 0 0), (.int 0 0), (.int 3 0), (.ref 155), (.bool true), (.int 181 0), (.ref 156), .none, (.ref 157), (.ref 158), (.ref 159), (.int 395 0), (.int 203 0), (.str "/claim/cut.py" 396)]), #[]⟩) ::
  (nat_lit 161, ⟨(.type "function"), none, (.func (PySem.W.fnOf "_law_seeds" "_law_seeds" (defArgs (top 27)) (defBody (top 27)) (defScope (top 27)) .none .none .none (.str "law_likepieces_k54_texts_shown" 227) none (.ref 160) .none)), #[]⟩) ::
  (nat_lit 162, ⟨(.type "tuple"), none, (.seq #[] 0), #[]⟩) ::
  (nat_lit 165, ⟨(.type "code"), none, (.fields #[(.str "_law_program" 398), (.str "_law_program" 399), (.str "/claim/cut.py" 400), (.int 212 0), (.int 2 0), (.int 0 0), (.int 0 0), (.int 3 0), (.ref 162), (.bool true), (.int 181 0), (.ref 163), .none, .none, .none, (.ref 164), (.int 401 0), (.int 212 0), (.str "/claim/cut.py" 402)]), #[]⟩) ::
  (nat_lit 166, ⟨(.type "function"), none, (.func (PySem.W.fnOf "_law_program" "_law_program" (defArgs (top 28)) (defBody (top 28)) (defScope (top 28)) .none .none .none (.str "law_likepieces_k54_texts_shown" 227) none (.ref 165) .none)), #[]⟩) ::
  (nat_lit 167, ⟨(.type "tuple"), none, (.seq #[] 0), #[]⟩) ::
  (nat_lit 170, ⟨(.type "code"), none, (.fields #[(.str "_law_drawn" 404), (.str "_law_drawn" 405), (.str "/claim/cut.py" 406), (.int 234 0), (.int 2 0), (.int 0 0), (.int 0 0), (.int 3 0), (.ref 167), (.bool true), (.int 181 0), (.ref 168), .none, .none, .none, (.ref 169), (.int 407 0), (.int 234 0), (.str "/claim/cut.py" 408)]), #[]⟩) ::
  (nat_lit 171, ⟨(.type "function"), none, (.func (PySem.W.fnOf "_law_drawn" "_law_drawn" (defArgs (top 29)) (defBody (top 29)) (defScope (top 29)) .none .none .none (.str "law_likepieces_k54_texts_shown" 227) none (.ref 170) .none)), #[]⟩) ::
  (nat_lit 172, ⟨(.type "tuple"), none, (.seq #[] 0), #[]⟩) ::
  (nat_lit 175, ⟨(.type "code"), none, (.fields #[(.str "_law_words" 410), (.str "_law_words" 411), (.str "/claim/cut.py" 412), (.int 249 0), (.int 1 0), (.int 0 0), (.int 0 0), (.int 3 0), (.ref 172), (.bool true), (.int 181 0), (.ref 173), .none, .none, .none, (.ref 174), (.int 413 0), (.int 249 0), (.str "/claim/cut.py" 414)]), #[]⟩) ::
  (nat_lit 176, ⟨(.type "function"), none, (.func (PySem.W.fnOf "_law_words" "_law_words" (defArgs (top 30)) (defBody (top 30)) (defScope (top 30)) .none .none .none (.str "law_likepieces_k54_texts_shown" 227) none (.ref 175) .none)), #[]⟩) ::
  (nat_lit 177, ⟨(.type "tuple"), none, (.seq #[] 0), #[]⟩) ::
  (nat_lit 180, ⟨(.type "code"), none, (.fields #[(.str "_law_lines" 416), (.str "_law_lines" 417), (.str "/claim/cut.py" 418), (.int 259 0), (.int 1 0), (.int 0 0), (.int 0 0), (.int 3 0), (.ref 177), (.bool true), (.int 181 0), (.ref 178), .none, .none, .none, (.ref 179), (.int 419 0), (.int 259 0), (.str "/claim/cut.py" 420)]), #[]⟩) ::
  (nat_lit 181, ⟨(.type "function"), none, (.func (PySem.W.fnOf "_law_lines" "_law_lines" (defArgs (top 31)) (defBody (top 31)) (defScope (top 31)) .none .none .none (.str "law_likepieces_k54_texts_shown" 227) none (.ref 180) .none)), #[]⟩) ::
  (nat_lit 182, ⟨(.type "tuple"), none, (.seq #[] 0), #[]⟩) ::
  (nat_lit 185, ⟨(.type "code"), none, (.fields #[(.str "law" 422), (.str "law" 423), (.str "/claim/cut.py" 424), (.int 262 0), (.int 1 0), (.int 0 0), (.int 0 0), (.int 3 0), (.ref 182), (.bool true), (.int 181 0), (.ref 183), .none, .none, .none, (.ref 184), (.int 425 0), (.int 262 0), (.str "/claim/cut.py" 426)]), #[]⟩) ::
  (nat_lit 186, ⟨(.type "function"), none, (.func (PySem.W.fnOf "law" "law" (defArgs (top 32)) (defBody (top 32)) (defScope (top 32)) .none .none .none (.str "law_likepieces_k54_texts_shown" 227) none (.ref 185) .none)), #[]⟩) :: []
def hdA : List Addr := [2, 3, 15, 18, 19, 20, 23, 24, 25, 28, 29, 30, 32, 33, 35, 36, 37, 40, 41, 42, 44, 45, 47, 48, 49, 51, 52, 54, 55, 56, 58, 59, 61, 62, 63, 65, 66, 68, 69, 70, 72, 73, 75, 76, 77, 79, 80, 82, 83, 84, 87, 88, 89, 92, 93, 94, 97, 98, 99, 102, 103, 104, 107, 108, 109, 111, 112, 114, 115, 116, 119, 120, 121, 123, 124, 126, 127, 128, 131, 132, 133, 136, 137, 138, 141, 142, 143, 146, 147, 148, 150, 151, 153, 154, 155, 157, 158, 160, 161, 162, 165, 166, 167, 170, 171, 172, 175, 176, 177, 180, 181, 182, 185, 186]
abbrev hdL : List Str := []
abbrev hdN : Nat := 1894
abbrev hdH : PySem.W.Hook := PySem.W.kHook hdK hdA (fun _ => by kernel_rfl)
theorem hdS : PySem.Challenge.rw_likepieces_k54_texts_shown.wellSaid = true := by decide +kernel
set_option maxHeartbeats 0 in
open PySem.W.Fast in
theorem hdT : PySem.W.LeftO (PySem.Challenge.rw_likepieces_k54_texts_shown).row.toRowW.prog hdQ hdL (fun s => PySem.W.xlAt hdQ [] s && PySem.W.recOk (PySem.W.RowW.records (PySem.Challenge.rw_likepieces_k54_texts_shown).row.toRowW) s) (PySem.W.Hook.obs hdH) (PySem.W.Hook.val hdH) hdN := by
  intro w
  unfold PySem.W.openEnds PySem.W.fencedOpening PySem.W.topFrom
  rw [te10274390034422433532, te1435165496053646825, te14289696077712309145, te14082659384304107361, te4187177175401517315, te14364793385576792824, te8920871248978507458, te5923862056798008813]
  kernel_rfl
end K54
-- CHANGE: your row's module here, as the last of these rows
set_option Elab.async false
set_option linter.all false
set_option maxRecDepth 100000
/-! THE HAND LAYER, for ints, bools, texts, own classes, LISTS and tuples (index, slices, in, append, pop ..), calls, loops. Paste it whole ahead of your own text; what your proof does not reach may be deleted. -/
namespace L2
open PySem PySem.Spec PyProof.Rows

/-- a key: an int or a str -/
abbrev Key := Sum Int Str
def keyIs : Key → Value → Bool
  | .inl k, v => Value.isInt k v
  | .inr x, v => Value.isStrOf x v
def keyH (w : World) : Key → Int
  | .inl k => hashInt k
  | .inr x => hashStr w x
theorem keyIs_shape : ∀ {k : Key} {v : Value}, keyIs k v = true → (∃ i t, k = Sum.inl i ∧ v = Value.int i t) ∨ (∃ x t, k = Sum.inr x ∧ v = Value.str x t)
  | .inl i, v, h => by
    obtain ⟨t, e⟩ := Value.isInt_shape (k := i) (v := v) h
    exact .inl ⟨i, t, rfl, e⟩
  | .inr x, v, h => by
    obtain ⟨t, e⟩ := Value.isStrOf_shape (x := x) (v := v) h
    exact .inr ⟨x, t, rfl, e⟩
theorem keyIs_int (i : Int) (t : Tok) : keyIs (.inl i) (.int i t) = true := by simp [keyIs, Value.isInt]
theorem keyIs_str (x : Str) (t : Tok) : keyIs (.inr x) (.str x t) = true := by simp [keyIs, Value.isStrOf]
theorem key_ll (a b : Int) : decide ((Sum.inl a : Key) = Sum.inl b) = (a == b) := by
  by_cases e : a = b
  · subst e; simp
  · have h : ¬ (Sum.inl a : Key) = Sum.inl b := fun q => e (Sum.inl.inj q)
    rw [decide_eq_false h]
    exact (beq_eq_false_iff_ne.mpr e).symm
theorem key_rr (a b : Str) : decide ((Sum.inr a : Key) = Sum.inr b) = decide (a = b) := by
  by_cases e : a = b
  · subst e; simp
  · have h : ¬ (Sum.inr a : Key) = Sum.inr b := fun q => e (Sum.inr.inj q)
    rw [decide_eq_false h, decide_eq_false e]
theorem key_lr (a : Int) (b : Str) : decide ((Sum.inl a : Key) = Sum.inr b) = false := decide_eq_false (fun q => nomatch q)
theorem key_rl (a : Str) (b : Int) : decide ((Sum.inr a : Key) = Sum.inl b) = false := decide_eq_false (fun q => nomatch q)

def mixKind (prog : Program) (w : World) : PySem.KeyKind prog w Key where
  is := keyIs
  hash := keyH w
  inj := fun v a b ha hb => by
    rcases keyIs_shape ha with ⟨i, t, rfl, rfl⟩ | ⟨x, t, rfl, rfl⟩
    · rcases keyIs_shape hb with ⟨j, u, rfl, e⟩ | ⟨y, u, rfl, e⟩
      · injection e with e1 _; rw [e1]
      · exact nomatch e
    · rcases keyIs_shape hb with ⟨j, u, rfl, e⟩ | ⟨y, u, rfl, e⟩
      · exact nomatch e
      · injection e with e1 _; rw [e1]
  byValue := fun k v h => by
    rcases keyIs_shape h with ⟨i, t, rfl, rfl⟩ | ⟨x, t, rfl, rfl⟩ <;> rfl
  pyHash := fun hv h => by
    rcases keyIs_shape hv with ⟨i, t, rfl, rfl⟩ | ⟨x, t, rfl, rfl⟩
    · exact wpAny_pyHash_int h
    · exact wpAny_pyHash_str h
  eqBool := fun hu hv h => by
    rcases keyIs_shape hu with ⟨i, t, rfl, rfl⟩ | ⟨x, t, rfl, rfl⟩
    · rcases keyIs_shape hv with ⟨j, u, rfl, rfl⟩ | ⟨y, u, rfl, rfl⟩
      · rw [key_ll] at h; exact wpAny_eqBool_int h
      · rw [key_lr] at h; exact SeqAt.EqAt.int_str i t y u _ _ _ _ h
    · rcases keyIs_shape hv with ⟨j, u, rfl, rfl⟩ | ⟨y, u, rfl, rfl⟩
      · rw [key_rl] at h; exact SeqAt.EqAt.str_int x t j u _ _ _ _ h
      · rw [key_rr] at h; exact wpAny_eqBool_str h
  «strs» := fun k x t v h => by
    rcases keyIs_shape h with ⟨i, u, rfl, e⟩ | ⟨y, u, rfl, e⟩
    · exact nomatch e
    · injection e with e1 _
      subst e1
      cases v <;> rfl

theorem mixKind_int (prog : Program) (w : World) (i : Int) (t : Tok) : (mixKind prog w).is (.inl i) (.int i t) = true := keyIs_int i t
theorem mixKind_str (prog : Program) (w : World) (x : Str) (t : Tok) : (mixKind prog w).is (.inr x) (.str x t) = true := keyIs_str x t
end L2

namespace L2
open PySem PySem.Spec PyProof.Rows

/-- a value, without the heap -/
inductive V where
  | non | bl (b : Bool) | int (i : Int) | str (x : Str) | byt (b : Array UInt8) | flt (b : UInt64) | ref (a : Addr) | ty (n : String)
  deriving DecidableEq

def RelV : V → Value → Prop
  | .non, u => u = Value.none
  | .bl b, u => u = Value.bool b
  | .int i, u => ∃ t, u = Value.int i t
  | .str x, u => ∃ t, u = Value.str x t
  | .byt b, u => ∃ t, u = Value.bytes b t
  | .flt b, u => ∃ t, u = Value.float b t
  | .ref a, u => u = Value.ref a
  | .ty n, u => u = Value.type n

abbrev Vals : List V → List Value → Prop := Paired RelV
theorem Vals.length {xs : List V} {us : List Value} (r : Vals xs us) : xs.length = us.length := Paired.length r
theorem Vals.get : ∀ {xs : List V} {us : List Value} {i : Nat} {x : V}, Vals xs us → xs[i]? = some x → ∃ u, us[i]? = some u ∧ RelV x u
  | _, _, _, _, .nil, e => by simp at e
  | _, _, 0, _, .cons r _, e => by simp at e; subst e; exact ⟨_, rfl, r⟩
  | _, _, i + 1, x, .cons _ t, e => by
    obtain ⟨u, h1, h2⟩ := Vals.get (i := i) (x := x) t (by simpa using e)
    exact ⟨u, by simpa using h1, h2⟩
theorem Vals.set {x : V} {u : Value} (r : RelV x u) : ∀ {xs : List V} {us : List Value} (i : Nat), Vals xs us → Vals (xs.set i x) (us.set i u)
  | _, _, _, .nil => .nil
  | _, _, 0, .cons _ t => .cons r t
  | _, _, i + 1, .cons q t => .cons q (Vals.set r i t)
theorem Vals.append : ∀ {xs ys : List V} {us ws : List Value}, Vals xs us → Vals ys ws → Vals (xs ++ ys) (us ++ ws)
  | _, _, _, _, .nil, s => s
  | _, _, _, _, .cons r t, s => .cons r (Vals.append t s)
theorem Vals.take : ∀ {xs : List V} {us : List Value} (n : Nat), Vals xs us → Vals (xs.take n) (us.take n)
  | _, _, 0, _ => .nil
  | _, _, _ + 1, .nil => .nil
  | _, _, n + 1, .cons r t => .cons r (Vals.take n t)
theorem Vals.drop : ∀ {xs : List V} {us : List Value} (n : Nat), Vals xs us → Vals (xs.drop n) (us.drop n)
  | _, _, 0, r => r
  | _, _, _ + 1, .nil => .nil
  | _, _, n + 1, .cons _ t => Vals.drop n t

def RelO : Option V → Option Value → Prop
  | some v, some u => RelV v u
  | none, none => True
  | _, _ => False
def KV {κ : Type} : List (κ × V) → List (κ × Value) → Prop := Paired fun (p : κ × V) (q : κ × Value) => p.1 = q.1 ∧ RelV p.2 q.2

/-- a key of a dict (00_mix): an int or a text -/
def kV : Key → V
  | .inl i => .int i
  | .inr x => .str x

/-- what stands at a tracked address -/
inductive HO where
  /-- a list -/
  | lst (xs : List V)
  /-- a tuple (never changes) -/
  | tup (xs : List V)
  /-- a dict whose keys are ints and texts; one whose keys are tuples of ints and texts (the empty one is both) -/
  | dK (kvs : List (Key × V)) | dT (kvs : List (List Key × V))
  /-- a set of ints: its members, its size -/
  | set (S : Int → Bool) (n : Nat)
  /-- an instance of the class at C, its dict at dx, its attributes -/
  | ins (C dx : Addr) (fs : List (Str × V))
  /-- the dict of the instance at x -/
  | own (x : Addr)
  /-- the dict of an exception -/
  | xd (fs : List (Str × V))
  /-- a bound method, f of x -/
  | met (f x : Addr)
  /-- a range object lo, lo + 1, .. below hi -/
  | rng (lo hi : Int)
  /-- a thing that is known to the object (the script; a dict while a loop walks it): read, never written while it is so -/
  | frz (o : Obj) (u : HO)
  /-- a code object's table -/
  | tbl (ps : Array Value)
  /-- any other thing, by what is true of its one object (a def of one's own: SetO a S n := HO.ext fun h => ..) -/
  | ext (φ : Heap → Prop)

abbrev Hp := Addr → Option HO
def upd (H : Hp) (a : Addr) (o : HO) : Hp := fun b => if b = a then some o else H b
theorem upd_same {H : Hp} {a : Addr} {o : HO} : upd H a o a = some o := by unfold upd; rw [if_pos rfl]
theorem upd_ne {H : Hp} {a b : Addr} {o : HO} (h : b ≠ a) : upd H a o b = H b := by unfold upd; rw [if_neg h]
/-- two objects of different content stand apart -/
theorem ne_of {H : Hp} {a b : Addr} {o u : HO} (h : H a = some o) (h' : H b = some u) (d : o ≠ u) : a ≠ b := by
  intro e; subst e; rw [h] at h'; exact d (Option.some.inj h')
theorem ne_of_none {H : Hp} {a b : Addr} {o : HO} (h : H a = some o) (h' : H b = none) : a ≠ b := by
  intro e; subst e; rw [h] at h'; cases h'

section
variable (P : Program) (w : World)
def ObjOk (H : Hp) (h : Heap) (a : Addr) : HO → Prop
  | .lst xs => xs.length ≤ sizeLine ∧ ∃ (its : List Value) (n : Nat), Vals xs its ∧ h.get? a = some { cls := .type "list", data := .seq its.toArray n }
  | .tup xs => xs.length ≤ sizeLine ∧ ∃ its : List Value, Vals xs its ∧ IsTup h a its.toArray
  | .dK kvs => kvs.length ≤ sizeLine ∧ (a == sysModules) = false ∧ ∃ vs, KV kvs vs ∧ h.DictOf (mixKind P w) a vs
  | .dT kvs => kvs.length ≤ sizeLine ∧ (a == sysModules) = false ∧ ∃ xs : List (List Key × Addr × Value),
      Paired (fun (p : List Key × V) (q : List Key × Addr × Value) => p.1 = q.1 ∧ H q.2.1 = some (.tup (p.1.map kV)) ∧ RelV p.2 q.2.2) kvs xs ∧
      ∃ o es ep, h.get? a = some o ∧ o.ExactDict ∧ o.data = .dict es ep ∧ es.toList = xs.map (entryOfKey (tupleKind (mixKind P w))) ∧ (xs.map (·.1)).Nodup
  | .set S n => h.SetOf (intKind P w) a S n
  | .ins C dx fs => H dx = some (.own a) ∧ fs.length ≤ 1000 ∧ dx ≠ a ∧ h.get? a = some (PySem.W.instObj C dx) ∧
      ∃ mA, h.Ns1 dx mA ∧ (∀ f, RelO (fs.lookup f) (mA f)) ∧ PySem.Within mA (fs.map (·.1))
  | .own _ => ∃ o, h.get? a = some o
  | .xd fs => ∃ mA, h.Ns1 a mA ∧ ∀ f, RelO (fs.lookup f) (mA f)
  | .rng lo hi => ∃ t u v, h.get? a = some { cls := .type "range", data := .fields #[.int lo t, .int hi u, .int 1 v] }
  | .frz o u => h.get? a = some o ∧ ObjOk H h a u
  | .tbl ps => h.get? a = some { cls := .none, data := .fields ps }
  | .met f x => h.get? a = some (PySem.W.methodObj (.ref f) (.ref x))
  | .ext φ => φ h ∧ (∃ o, h.get? a = some o) ∧ ∀ h1 h2 : Heap, φ h1 → (∀ o, h1.get? a = some o → h2.get? a = some o) → φ h2
/-- the abstract heap is held -/
def HOk (H : Hp) (h : Heap) : Prop := ∀ a o, H a = some o → ObjOk P w H h a o
end

section
variable {P : Program} {w : World} {H H' : Hp} {h h' : Heap} {a : Addr} {o : HO}
theorem ObjOk.lt (x : ObjOk P w H h a o) : a < h.objs.size := by
  cases o with
  | lst xs => obtain ⟨_, _, _, _, e⟩ := x; exact Heap.lt_size e
  | tup xs => obtain ⟨_, _, _, p⟩ := x; exact p.lt
  | dK kvs => obtain ⟨_, _, _, _, o, _, _, e, _⟩ := x; exact Heap.lt_size e
  | dT kvs => obtain ⟨_, _, _, _, o, _, _, e, _⟩ := x; exact Heap.lt_size e
  | set S n => obtain ⟨o, _, _, _, e, _⟩ := x; exact Heap.lt_size e
  | ins C dx fs => obtain ⟨_, _, _, e, _⟩ := x; exact Heap.lt_size e
  | own y => obtain ⟨_, e⟩ := x; exact Heap.lt_size e
  | xd fs => obtain ⟨_, ⟨_, _, _, e, _⟩, _⟩ := x; exact Heap.lt_size e
  | rng lo hi => obtain ⟨_, _, _, e⟩ := x; exact Heap.lt_size e
  | frz ob u => obtain ⟨e, _⟩ := x; exact Heap.lt_size e
  | tbl ps => exact Heap.lt_size (show h.get? a = some _ from x)
  | met f y => exact Heap.lt_size (show h.get? a = some _ from x)
  | ext φ => obtain ⟨_, ⟨_, e⟩, _⟩ := x; exact Heap.lt_size e
theorem Paired.mapP {α β : Type} {F G : α → β → Prop} : ∀ {l₁ : List α} {l₂ : List β}, Paired F l₁ l₂ → (∀ a b, F a b → G a b) → Paired G l₁ l₂
  | _, _, .nil, _ => .nil
  | _, _, .cons r t, f => .cons (f _ _ r) (Paired.mapP t f)
/-- what an object's description leans on: its own object, its own dict, the tuples -/
theorem ObjOk.stay (x : ObjOk P w H h a o) (k : ∀ b u, (b = a ∨ H b = some (.own a)) → h.get? b = some u → h'.get? b = some u)
    (ho : ∀ b, H b = some (.own a) → H' b = some (.own a)) (ht : ∀ b xs, H b = some (.tup xs) → H' b = some (.tup xs)) : ObjOk P w H' h' a o := by
  induction o with
  | lst xs => obtain ⟨z, its, n, r, e⟩ := x; exact ⟨z, its, n, r, k _ _ (.inl rfl) e⟩
  | tup xs => obtain ⟨z, its, r, ob, e, c⟩ := x; exact ⟨z, its, r, ob, k _ _ (.inl rfl) e, c⟩
  | dK kvs => obtain ⟨z, y, vs, r, ob, es, ep, e, c⟩ := x; exact ⟨z, y, vs, r, ob, es, ep, k _ _ (.inl rfl) e, c⟩
  | dT kvs =>
    obtain ⟨z, y, xs, r, ob, es, ep, e, c⟩ := x
    exact ⟨z, y, xs, Paired.mapP r fun p q z => ⟨z.1, ht _ _ z.2.1, z.2.2⟩, ob, es, ep, k _ _ (.inl rfl) e, c⟩
  | set S n => obtain ⟨ob, es, ep, t, e, c⟩ := x; exact ⟨ob, es, ep, t, k _ _ (.inl rfl) e, c⟩
  | ins C dx fs =>
    obtain ⟨d, z, ne, e, mA, ⟨od, es, ep, e2, c⟩, r⟩ := x
    exact ⟨ho _ d, z, ne, k _ _ (.inl rfl) e, mA, ⟨od, es, ep, k _ _ (.inr d) e2, c⟩, r⟩
  | own y => obtain ⟨ob, e⟩ := x; exact ⟨ob, k _ _ (.inl rfl) e⟩
  | xd fs => obtain ⟨mA, ⟨od, es, ep, e, c⟩, r⟩ := x; exact ⟨mA, ⟨od, es, ep, k _ _ (.inl rfl) e, c⟩, r⟩
  | rng lo hi => obtain ⟨t, u, v, e⟩ := x; exact ⟨t, u, v, k _ _ (.inl rfl) e⟩
  | frz ob u ih => obtain ⟨e, q⟩ := x; exact ⟨k _ _ (.inl rfl) e, ih q⟩
  | tbl ps =>
    have e : h.get? a = some { cls := .none, data := .fields ps } := x
    show h'.get? a = some { cls := .none, data := .fields ps }
    exact k a _ (.inl rfl) e
  | met f y =>
    have e : h.get? a = some (PySem.W.methodObj (.ref f) (.ref y)) := x
    show h'.get? a = some (PySem.W.methodObj (.ref f) (.ref y))
    exact k a _ (.inl rfl) e
  | ext φ => obtain ⟨p, ⟨o, e⟩, st⟩ := x; exact ⟨st _ _ p fun o q => k _ _ (.inl rfl) q, ⟨o, k _ _ (.inl rfl) e⟩, st⟩
theorem HOk.lt (x : HOk P w H h) (e : H a = some o) : a < h.objs.size := (x a o e).lt
theorem HOk.fresh (x : HOk P w H h) (e : h.objs.size ≤ a) : H a = none := by
  cases q : H a with
  | none => rfl
  | some u => exact absurd (Nat.lt_of_lt_of_le (x.lt q) e) (Nat.lt_irrefl _)
/-- every object of the heap is kept -/
theorem HOk.kept (x : HOk P w H h) (k : ∀ b u, h.get? b = some u → h'.get? b = some u) : HOk P w H h' := fun a o e =>
  (x a o e).stay (fun b u _ q => k b u q) (fun _ q => q) fun _ _ q => q
/-- a new object is laid and tracked -/
theorem HOk.laid (x : HOk P w H h) (k : ∀ b u, h.get? b = some u → h'.get? b = some u) (hp : h.objs.size ≤ a) (new : ObjOk P w (upd H a o) h' a o) : HOk P w (upd H a o) h' := fun b u e => by
  have hn := x.fresh hp
  by_cases hb : b = a
  · subst hb; rw [upd_same] at e; cases e; exact new
  · rw [upd_ne hb] at e
    exact (x b u e).stay (fun c v _ q => k c v q) (fun c q => by rw [upd_ne (ne_of_none q hn)]; exact q) fun c xs q => by rw [upd_ne (ne_of_none q hn)]; exact q
end

/-- what may be read as u: it is u, or a known u -/
def Rd (H : Hp) (a : Addr) (u : HO) : Prop := H a = some u ∨ ∃ o, H a = some (.frz o u)
theorem Rd.of {H : Hp} {a : Addr} {u : HO} (h : H a = some u) : Rd H a u := .inl h
theorem Rd.ok {P : Program} {w : World} {H : Hp} {h : Heap} {a : Addr} {u : HO} (r : Rd H a u) (x : HOk P w H h) : ObjOk P w H h a u := by
  rcases r with r | ⟨o, r⟩
  · exact x a u r
  · obtain ⟨_, q⟩ := x a _ r
    exact q
/-- what may be written -/
def Mut : Option HO → Prop
  | some (.lst _) => True
  | some (.dK _) => True
  | some (.dT _) => True
  | some (.set _ _) => True
  | some (.ins _ _ _) => True
  | some (.ext _) => True
  | _ => False
section
variable {P : Program} {w : World} {H : Hp} {h h' : Heap} {x e : Addr} {o' : HO}
/-- the object at e is changed: x itself, or the dict of the instance x -/
theorem HOk.write (ok : HOk P w H h) (mu : Mut (H x)) (he : e = x ∨ H e = some (.own x)) (k : ∀ b u, b ≠ e → h.get? b = some u → h'.get? b = some u) (heo : ∃ u, h'.get? e = some u)
    (new : ObjOk P w (upd H x o') h' x o') : HOk P w (upd H x o') h' := fun b u q => by
  have nown : ∀ c y, H c = some (.own y) → c ≠ x := fun c y r z => by subst z; rw [r] at mu; exact mu
  have ntup : ∀ c xs, H c = some (.tup xs) → c ≠ x := fun c xs r z => by subst z; rw [r] at mu; exact mu
  by_cases hb : b = x
  · subst hb; rw [upd_same] at q; cases q; exact new
  · rw [upd_ne hb] at q
    by_cases hbe : b = e
    · have q' : H b = some (.own x) := by
        rcases he with z | z
        · exact absurd (hbe.trans z) hb
        · rw [hbe]; exact z
      rw [q] at q'; cases q'
      obtain ⟨v, hv⟩ := heo
      exact ⟨v, by rw [hbe]; exact hv⟩
    · refine (ok b u q).stay (fun c v hc r => k c v ?_ r) (fun c r => by rw [upd_ne (nown c b r)]; exact r) fun c xs r => by rw [upd_ne (ntup c xs r)]; exact r
      rcases hc with rfl | hc
      · exact hbe
      · rintro rfl
        rcases he with z | z
        · exact nown c b hc z
        · rw [hc] at z; cases z; exact hb rfl
end

/-! ### kept unless tracked; of the frames at fs (the callers') the slots may change (an exception that passes writes there); of the records at ex (iterators) nothing is said -/
structure Un (fs ex : List Addr) (H H' : Hp) (h h' : Heap) : Prop where
  keep : ∀ b o, h.get? b = some o → H b = none → b ∉ fs → b ∉ ex → h'.get? b = some o
  slot : ∀ b o, h.get? b = some o → H b = none → b ∈ fs → b ∉ ex → ∃ sl, h'.get? b = some { o with slots := sl }
  free : ∀ b o, h.get? b = some o → H b = none → b ∉ ex → H' b = none
  there : ∀ b o, h.get? b = some o → b ∉ ex → ∃ o', h'.get? b = some o'
  tups : ∀ b xs, H b = some (.tup xs) → H' b = some (.tup xs)
  frzs : ∀ b o u, H b = some (.frz o u) → H' b = some (.frz o u)
  tbls : ∀ b ps, H b = some (.tbl ps) → ∃ more, H' b = some (.tbl (ps ++ more))
section
variable {fs fs' ex ex' : List Addr} {H H1 H2 : Hp} {h h1 h2 h' : Heap} {a x e : Addr} {o : HO}
theorem Un.any (u : Un fs ex H H1 h h1) {b : Addr} {ob : Obj} (q : h.get? b = some ob) (n : H b = none) (hx : b ∉ ex) : ∃ sl, h1.get? b = some { ob with slots := sl } := by
  by_cases hb : b ∈ fs
  · exact u.slot b ob q n hb hx
  · exact ⟨ob.slots, u.keep b ob q n hb hx⟩
theorem Un.kept (k : ∀ b u, h.get? b = some u → h'.get? b = some u) : Un fs ex H H h h' :=
  ⟨fun b ob q _ _ _ => k b ob q, fun b ob q _ _ _ => ⟨ob.slots, k b ob q⟩, fun _ _ _ n _ => n, fun b ob q _ => ⟨ob, k b ob q⟩, fun _ _ q => q, fun _ _ _ q => q, fun _ ps q => ⟨#[], by rw [q]; simp⟩⟩
theorem Un.refl : Un fs ex H H h h := Un.kept fun _ _ q => q
theorem Un.laid (k : ∀ b u, h.get? b = some u → h'.get? b = some u) (hp : h.objs.size ≤ a) (hn : H a = none) : Un fs ex H (upd H a o) h h' where
  keep := fun b u q _ _ _ => k b u q
  slot := fun b u q _ _ _ => ⟨u.slots, k b u q⟩
  free := fun b u q n _ => by rw [upd_ne (Nat.ne_of_lt (Nat.lt_of_lt_of_le (Heap.lt_size q) hp))]; exact n
  there := fun b u q _ => ⟨u, k b u q⟩
  tups := fun b xs q => by rw [upd_ne (ne_of_none q hn)]; exact q
  frzs := fun b u xs q => by rw [upd_ne (ne_of_none q hn)]; exact q
  tbls := fun b ps q => ⟨#[], by rw [upd_ne (ne_of_none q hn), q]; simp⟩
theorem Un.write (mu : Mut (H x)) (he : e = x ∨ H e = some (.own x)) (k : ∀ b u, b ≠ e → h.get? b = some u → h'.get? b = some u) (heo : ∃ u, h'.get? e = some u) : Un fs ex H (upd H x o) h h' := by
  have hx : ∀ b, H b = none → b ≠ x := fun b n z => by subst z; rw [n] at mu; exact mu
  have hb : ∀ b, H b = none → b ≠ e := fun b n z => by
    subst z
    rcases he with r | r
    · exact hx b n r
    · rw [n] at r; cases r
  have hm : ∀ b u, H b = some u → ¬ Mut (some u) → b ≠ x := fun b u q nm z => by subst z; rw [q] at mu; exact nm mu
  refine ⟨fun b u q n _ _ => k b u (hb b n) q, fun b u q n _ _ => ⟨u.slots, k b u (hb b n) q⟩, fun b u q n _ => by rw [upd_ne (hx b n)]; exact n, fun b u q _ => ?_,
    fun b xs q => by rw [upd_ne (hm b _ q fun z => z)]; exact q, fun b u xs q => by rw [upd_ne (hm b _ q fun z => z)]; exact q, fun b ps q => ⟨#[], by rw [upd_ne (hm b _ q fun z => z), q]; simp⟩⟩
  by_cases hbe : b = e
  · subst hbe; exact heo
  · exact ⟨u, k b u hbe q⟩
end

/-! ### the heap without what is tracked -/
def trk (h : Heap) (H : Hp) : List Addr := (List.range h.objs.size).filter fun a => (H a).isSome
def hidT (h : Heap) (H : Hp) : Heap := PySem.W.hideAll h (trk h H)
theorem hidT_size (h : Heap) (H : Hp) : (hidT h H).objs.size = h.objs.size := PySem.W.hideAll_size _ _
theorem hidT_get {h : Heap} {H : Hp} {b : Addr} {o : Obj} (e : h.get? b = some o) (n : H b = none) : (hidT h H).get? b = some o :=
  PySem.W.hideAll_get _ e fun hm => by
    have q : (H b).isSome = true := (List.mem_filter.mp hm).2
    rw [n] at q; simp at q
theorem of_hidT {h : Heap} {H : Hp} {b : Addr} {o : Obj} (e : (hidT h H).get? b = some o) : h.get? b = some o ∧ H b = none := by
  have e' : h.get? b = some o := PySem.W.of_hideAll (trk h H) e
  refine ⟨e', ?_⟩
  cases q : H b with
  | none => rfl
  | some x =>
    have hm : b ∈ trk h H := List.mem_filter.mpr ⟨List.mem_range.mpr (Heap.lt_size e'), by simp [q]⟩
    have z : (hidT h H).get? b = none := PySem.W.hideAll_none (trk h H) hm
    rw [z] at e; cases e

/-! ### OpenK's ledger, filled with every new object but one -/
end L2

namespace L2
open PySem PySem.Spec PyProof.Rows

/-- the module's facts, over the base: the heap at the law's entry without what is tracked there -/
structure Mod (K : PySem.W.Frag) (mg : Str → Option Value) (base : Heap) : Prop where
  kin : K.In base
  glob : base.Ns mainGlobals mg
  blt : ∃ mb, base.Ns builtinsNs mb ∧ ∀ x : Str, x ≠ "__name__" → mb x = bootBuiltins x
  nolimit : base.NoLimit

/-- the context: a def's body (or a comprehension's block) running. base: fixed through the whole law; s₀, H₀: the entry; outer: the frames whose slots others may change (a def's callers); stack: all frames that run;
   ex: iterators that were made ahead of the entry and are walked here (a comprehension's); fn: the names whose cells were made at the entry (a def: all; a comprehension's block: its own); calm: not within an except suite; pn: pins that every state bears; xe: what is wanted of an exception that leaves the code -/
structure Cx where
  prog : Program
  w : World
  K : PySem.W.Frag
  mg : Str → Option Value
  base : Heap
  A : Around
  N : List Str
  s₀ : Shared
  H₀ : Hp
  env : Env
  outer : List Env
  stack : List Env
  ex : List Addr
  fn : Str → Bool
  calm : Bool
  pn : List (Addr × Obj)
  xe : Value → Shared → Prop
/-- the callers' frames -/
def frs (l : List Env) : List Addr := l.filterMap (·.frame)
abbrev Cx.fs (X : Cx) : List Addr := frs X.outer

def Vis (sc : Scope) (x : Str) : Prop := sc.names.lookup x = some .local ∨ sc.names.lookup x = some .cell ∨ sc.names.lookup x = some .free
def Loc (sc : Scope) (x : Str) : Prop := sc.names.lookup x = some .local ∨ sc.names.lookup x = some .cell
def Look (env : Env) (h : Heap) (m : Str → Option Value) (x : Str) (u : Value) : Prop :=
  (env.kindOf x = some .local ∧ m x = some u) ∨ ((env.kindOf x = some .cell ∨ env.kindOf x = some .free) ∧ ∃ c, env.cells.lookup x = some c ∧ h.IsCell c (some u))

structure Cx.Ok (X : Cx) : Prop where
  mod : Mod X.K X.mg X.base
  kind : X.env.scope.kind = .function
  glob : X.env.globals = mainGlobals
  blt : X.env.builtins = builtinsNs
  above : X.s₀.heap.objs.size ≤ X.env.locals
  inj : ∀ x y c, X.env.cells.lookup x = some c → X.env.cells.lookup y = some c → x = y
  has : ∀ x, (X.env.kindOf x = some .cell ∨ X.env.kindOf x = some .free) → ∃ c, X.env.cells.lookup x = some c
  cab : ∀ x c, X.fn x = true → X.env.cells.lookup x = some c → X.s₀.heap.objs.size ≤ c
  hd : X.calm = true → X.A.handled = none
  frames : X.A.frames = some X.stack
  stk : X.stack = X.outer ∨ (X.stack = X.env :: X.outer ∧ X.env.frame = some X.env.locals)
  exf : ∀ b ∈ X.ex, b ≠ X.env.locals ∧ ∀ x c, X.env.cells.lookup x = some c → c ≠ b
  bs : ∀ b o, X.base.get? b = some o → X.s₀.heap.get? b = some o ∧ X.H₀ b = none
  bsz : X.base.objs.size ≤ X.s₀.heap.objs.size
  noex : ∀ b o, X.base.get? b = some o → b ∉ X.ex
  exfs : ∀ b ∈ X.ex, b ∉ X.fs
  funs : X.s₀.heap.FunFrames X.base X.outer
  frf : ∀ b ∈ X.fs, X.H₀ b = none

structure Inv (X : Cx) (pins : List (Addr × Obj)) (σ : List (Option V)) (H : Hp) (s : Shared) : Prop where
  ok : X.Ok
  os : s.os = X.s₀.os
  bare : AllBare s.gens
  base : Un X.fs X.ex X.H₀ H X.s₀.heap s.heap
  loc : ∃ m, s.heap.Ns X.env.locals m ∧ ∀ (i : Nat) (x : Str) (v : V), X.N[i]? = some x → σ[i]? = some (some v) → Vis X.env.scope x → ∃ u, RelV v u ∧ Look X.env s.heap m x u
  cell : ∀ x c, X.env.cells.lookup x = some c → ∃ v, s.heap.IsCell c v
  free : H X.env.locals = none
  freeC : ∀ x c, X.env.cells.lookup x = some c → H c = none
  pin : ∀ p ∈ X.pn ++ pins, s.heap.get? p.1 = some p.2 ∧ H p.1 = none ∧ p.1 ≠ X.env.locals ∧ p.1 ∉ X.fs ∧ ∀ v, p.2.data ≠ .cell v
  hok : HOk X.prog X.w H s.heap
  len : σ.length = X.N.length

section
variable {X : Cx} {pins : List (Addr × Obj)} {σ : List (Option V)} {H H' : Hp} {s : Shared} {h' : Heap}

theorem Cx.Ok.nofr (ok : X.Ok) {b : Addr} {o : Obj} (e : X.base.get? b = some o) : b ∉ X.fs := fun hb => by
  have := (ok.funs.mem hb).1
  rw [e] at this; cases this
theorem Inv.bs (I : Inv X pins σ H s) : ∀ b o, X.base.get? b = some o → s.heap.get? b = some o ∧ H b = none := fun b o e =>
  ⟨I.base.keep b o (I.ok.bs b o e).1 (I.ok.bs b o e).2 (I.ok.nofr e) (I.ok.noex b o e), I.base.free b o (I.ok.bs b o e).1 (I.ok.bs b o e).2 (I.ok.noex b o e)⟩
theorem Inv.bk (I : Inv X pins σ H s) : ∀ b o, X.base.get? b = some o → s.heap.get? b = some o := fun b o e => (I.bs b o e).1
theorem Inv.mod (I : Inv X pins σ H s) : Mod X.K X.mg X.base := I.ok.mod
theorem Inv.kIn (I : Inv X pins σ H s) : X.K.In s.heap := I.ok.mod.kin.keeps I.bk
theorem Inv.lt (I : Inv X pins σ H s) : X.env.locals < s.heap.objs.size := let ⟨_, hn, _⟩ := I.loc; hn.lt
theorem Inv.sz (I : Inv X pins σ H s) : X.s₀.heap.objs.size ≤ s.heap.objs.size := Nat.le_trans I.ok.above (Nat.le_of_lt I.lt)
theorem Inv.nofs (I : Inv X pins σ H s) {a : Addr} (h : s.heap.objs.size ≤ a) : a ∉ X.fs := fun hb => by
  obtain ⟨_, o, ho, _⟩ := I.ok.funs.mem hb
  exact absurd (Nat.lt_of_lt_of_le (Heap.lt_size ho) (Nat.le_trans I.sz h)) (Nat.lt_irrefl _)
theorem Inv.cne (I : Inv X pins σ H s) : ∀ x c, X.env.cells.lookup x = some c → c ≠ X.env.locals := fun x c e z => by
  obtain ⟨v, o, ho, hd⟩ := I.cell x c e
  obtain ⟨m, ⟨o', es, ep, ho', hd', _⟩, _⟩ := I.loc
  rw [z, ho'] at ho; cases ho; rw [hd'] at hd; cases hd
theorem Inv.funs (I : Inv X pins σ H s) : s.heap.FunFrames X.base X.outer := by
  have all : ∀ (l : List Env), (∀ b ∈ frs l, b ∈ X.fs) → X.s₀.heap.FunFrames X.base l → s.heap.FunFrames X.base l := by
    intro l
    induction l with
    | nil => intro _ _; trivial
    | cons env r ih =>
      intro hs hl
      obtain ⟨hk, ⟨L, o, hf, hn, ho, hd⟩, hr⟩ := hl
      have hL : L ∈ X.fs := hs L (by unfold frs; rw [List.filterMap_cons, hf]; exact List.mem_cons_self)
      obtain ⟨sl, e⟩ := I.base.slot L o ho (I.ok.frf L hL) hL fun z => I.ok.exfs L z hL
      exact ⟨hk, ⟨L, _, hf, hn, e, hd⟩, ih (fun b hb => hs b (by unfold frs; rw [List.filterMap_cons, hf]; exact List.mem_cons_of_mem _ hb)) hr⟩
  exact all X.outer (fun _ hb => hb) I.ok.funs

/-- the frames that run, for a call -/
theorem Inv.stack (I : Inv X pins σ H s) : s.heap.FunFrames X.base X.stack := by
  rcases I.ok.stk with e | ⟨e, hf⟩
  · rw [e]; exact I.funs
  · rw [e]
    obtain ⟨m, hn, _⟩ := I.loc
    refine .cons (by rw [I.ok.kind]; decide) hf hn ?_ I.funs
    exact Heap.get?_none_of_le (Nat.le_trans I.ok.bsz I.ok.above)
theorem Inv.stkSub (I : Inv X pins σ H s) : ∀ b ∈ frs X.stack, b ∈ X.env.locals :: X.fs := fun b hb => by
  rcases I.ok.stk with e | ⟨e, hf⟩
  · rw [e] at hb; exact List.mem_cons_of_mem _ hb
  · rw [e] at hb
    unfold frs at hb
    rw [List.filterMap_cons, hf] at hb
    exact hb
theorem Inv.stkFree (I : Inv X pins σ H s) : ∀ b ∈ frs X.stack, H b = none := fun b hb => by
  rcases List.mem_cons.mp (I.stkSub b hb) with e | hb
  · rw [e]; exact I.free
  · obtain ⟨_, o, ho, _⟩ := I.ok.funs.mem hb
    exact I.base.free b o ho (I.ok.frf b hb) fun z => I.ok.exfs b z hb

/-- THE STEP: the untracked objects but the frame and the records at ch are kept (the callers' frames up to slots), the frame's map is kept, the new abstract heap is held -/
theorem Inv.step {g' : Array GenState} {t' : Nat} {d' : Drawn} {ch : List Addr} (I : Inv X pins σ H s)
    (hch : ∀ b ∈ ch, (b ∈ X.ex ∨ X.s₀.heap.objs.size ≤ b) ∧ b ≠ X.env.locals ∧ (∀ x c, X.env.cells.lookup x = some c → c ≠ b) ∧ ∀ p ∈ X.pn ++ pins, p.1 ≠ b)
    (keep : ∀ b o, b ≠ X.env.locals → b ∉ X.fs → b ∉ ch → s.heap.get? b = some o → H b = none → h'.get? b = some o)
    (slot : ∀ b o, b ≠ X.env.locals → b ∈ X.fs → b ∉ ch → s.heap.get? b = some o → H b = none → ∃ sl, h'.get? b = some { o with slots := sl }) (free : ∀ b o, b ∉ ch → s.heap.get? b = some o → H b = none → H' b = none)
    (there : ∀ b o, b ∉ ch → s.heap.get? b = some o → ∃ o', h'.get? b = some o')
    (tups : ∀ b xs, H b = some (.tup xs) → H' b = some (.tup xs)) (frzs : ∀ b o u, H b = some (.frz o u) → H' b = some (.frz o u)) (tbls : ∀ b ps, H b = some (.tbl ps) → ∃ more, H' b = some (.tbl (ps ++ more)))
    (ns : ∀ m, s.heap.Ns X.env.locals m → h'.Ns X.env.locals m) (hok : HOk X.prog X.w H' h') (hg : AllBare g') :
    Inv X pins σ H' { s with heap := h', gens := g', drawn := d', toks := t' } := by
  have neL : ∀ b o, X.s₀.heap.get? b = some o → b ≠ X.env.locals := fun b o e => Nat.ne_of_lt (Nat.lt_of_lt_of_le (Heap.lt_size e) I.ok.above)
  have neC : ∀ b o, X.s₀.heap.get? b = some o → b ∉ X.ex → b ∉ ch := fun b o e hx hb => by
    rcases (hch b hb).1 with z | z
    · exact hx z
    · exact absurd (Nat.lt_of_lt_of_le (Heap.lt_size e) z) (Nat.lt_irrefl _)
  have cellK : ∀ x c, X.env.cells.lookup x = some c → ∀ v, s.heap.IsCell c v → h'.IsCell c v := fun x c e v ⟨o, ho, hd⟩ => by
    have nch : c ∉ ch := fun z => (hch c z).2.2.1 x c e rfl
    by_cases hc : c ∈ X.fs
    · obtain ⟨sl, q⟩ := slot c o (I.cne x c e) hc nch ho (I.freeC x c e)
      exact ⟨_, q, hd⟩
    · exact ⟨o, keep c o (I.cne x c e) hc nch ho (I.freeC x c e), hd⟩
  refine ⟨I.ok, I.os, hg, ⟨fun b o e n hb hx => ?_, fun b o e n hb hx => ?_, fun b o e n hx => ?_, fun b o e hx => ?_, fun b xs e => tups b xs (I.base.tups b xs e), fun b o xs e => frzs b o xs (I.base.frzs b o xs e), fun b ps e => ?_⟩, ?_, fun x c e => ?_, ?_, fun x c e => ?_, fun p hp => ?_, hok, I.len⟩
  · exact keep b o (neL b o e) hb (neC b o e hx) (I.base.keep b o e n hb hx) (I.base.free b o e n hx)
  · obtain ⟨sl, e1⟩ := I.base.slot b o e n hb hx
    obtain ⟨sl', e2⟩ := slot b _ (neL b o e) hb (neC b o e hx) e1 (I.base.free b o e n hx)
    exact ⟨sl', e2⟩
  · obtain ⟨o', e1⟩ := I.base.there b o e hx
    exact free b o' (neC b o e hx) e1 (I.base.free b o e n hx)
  · obtain ⟨o', e1⟩ := I.base.there b o e hx
    exact there b o' (neC b o e hx) e1
  · obtain ⟨m1, e1⟩ := I.base.tbls b ps e
    obtain ⟨m2, e2⟩ := tbls b _ e1
    exact ⟨m1 ++ m2, by rw [e2, Array.append_assoc]⟩
  · obtain ⟨m, hn, hl⟩ := I.loc
    refine ⟨m, ns m hn, fun i x v e1 e2 e3 => ?_⟩
    obtain ⟨u, r, l⟩ := hl i x v e1 e2 e3
    refine ⟨u, r, ?_⟩
    rcases l with l | ⟨k, c, e, z⟩
    · exact .inl l
    · exact .inr ⟨k, c, e, cellK x c e _ z⟩
  · obtain ⟨v, z⟩ := I.cell x c e
    exact ⟨v, cellK x c e v z⟩
  · obtain ⟨m, ⟨o, _, _, ho, _⟩, _⟩ := I.loc
    exact free _ o (fun z => (hch _ z).2.1 rfl) ho I.free
  · obtain ⟨v, o, ho, hd⟩ := I.cell x c e
    exact free c o (fun z => (hch c z).2.2.1 x c e rfl) ho (I.freeC x c e)
  · obtain ⟨e, n, ne, nf, d⟩ := I.pin p hp
    have nch : p.1 ∉ ch := fun z => (hch p.1 z).2.2.2 p hp rfl
    exact ⟨keep p.1 p.2 ne nf nch e n, free p.1 p.2 nch e n, ne, nf, d⟩
/-- .. where the frame's own object is kept too -/
theorem Inv.un {t' : Nat} (I : Inv X pins σ H s) (u : Un X.fs [] H H' s.heap h') (hok : HOk X.prog X.w H' h') : Inv X pins σ H' { s with heap := h', toks := t' } := by
  obtain ⟨m, ⟨o, es, ep, ho, r⟩, _⟩ := id I.loc
  obtain ⟨sl, hL⟩ := u.any ho I.free (by simp)
  exact I.step (g' := s.gens) (d' := s.drawn) (ch := []) (fun _ z => nomatch z) (fun b o _ hb _ e n => u.keep b o e n hb (by simp)) (fun b o _ hb _ e n => u.slot b o e n hb (by simp)) (fun b o _ e n => u.free b o e n (by simp)) (fun b o _ e => u.there b o e (by simp)) u.tups u.frzs u.tbls (fun m' hm => by
    obtain ⟨o', es', ep', ho', r'⟩ := hm
    rw [ho] at ho'; cases ho'
    exact ⟨_, es', ep', hL, r'⟩) hok I.bare
/-- behind a call (or a comprehension's block): the slots of this frame may have changed too, the records at ch may have turned -/
theorem Inv.call {g' : Array GenState} {t' : Nat} {d' : Drawn} {ch : List Addr} (I : Inv X pins σ H s) (u : Un (frs X.stack) ch H H' s.heap h') (hok : HOk X.prog X.w H' h') (hg : AllBare g')
    (hch : ∀ b ∈ ch, (b ∈ X.ex ∨ X.s₀.heap.objs.size ≤ b) ∧ b ≠ X.env.locals ∧ (∀ x c, X.env.cells.lookup x = some c → c ≠ b) ∧ ∀ p ∈ X.pn ++ pins, p.1 ≠ b) :
    Inv X pins σ H' { s with heap := h', gens := g', drawn := d', toks := t' } := by
  obtain ⟨m, ⟨o, es, ep, ho, r⟩, _⟩ := id I.loc
  obtain ⟨sl, hL⟩ := u.any ho I.free fun z => (hch _ z).2.1 rfl
  exact I.step (ch := ch) hch (fun b o hL hb hc e n => u.keep b o e n (fun z => (List.mem_cons.mp (I.stkSub b z)).elim hL hb) hc) (fun b o _ _ hc e n => u.any e n hc) (fun b o hc e n => u.free b o e n hc) (fun b o hc e => u.there b o e hc) u.tups u.frzs u.tbls (fun m' hm => by
    obtain ⟨o', es', ep', ho', r'⟩ := hm
    rw [ho] at ho'; cases ho'
    exact ⟨_, es', ep', hL, r'⟩) hok hg
/-- an untracked record of ours (an iterator) has turned -/
theorem Inv.turned {t' : Nat} {it : Addr} (I : Inv X pins σ H s) (k : ∀ b o, b ≠ it → s.heap.get? b = some o → h'.get? b = some o) (hn : H it = none) (hL : it ≠ X.env.locals)
    (h1 : it ∈ X.ex ∨ X.s₀.heap.objs.size ≤ it) (h2 : ∀ x c, X.env.cells.lookup x = some c → c ≠ it) (h3 : ∀ p ∈ X.pn ++ pins, p.1 ≠ it) : Inv X pins σ H { s with heap := h', toks := t' } := by
  have nit : ∀ b u, H b = some u → b ≠ it := fun b u e z => by rw [z, hn] at e; cases e
  refine I.step (g' := s.gens) (d' := s.drawn) (ch := [it]) (fun b hb => ?_) (fun b o _ _ hc e _ => k b o (fun z => hc (by simp [z])) e) (fun b o _ _ hc e _ => ⟨o.slots, k b o (fun z => hc (by simp [z])) e⟩) (fun _ _ _ _ n => n)
    (fun b o hc e => ⟨o, k b o (fun z => hc (by simp [z])) e⟩) (fun _ _ e => e) (fun _ _ _ e => e) (fun b ps e => ⟨#[], by rw [e]; simp⟩) (fun m hm => ?_) (fun b u e => ?_) I.bare
  · have e : b = it := by simpa using hb
    subst e
    exact ⟨h1, hL, h2, h3⟩
  · obtain ⟨o, es, ep, ho, r⟩ := hm
    exact ⟨o, es, ep, k _ o (Ne.symm hL) ho, r⟩
  · refine (I.hok b u e).stay (fun c v hc q => k c v ?_ q) (fun _ q => q) fun _ _ q => q
    rcases hc with z | z
    · rw [z]; exact nit b u e
    · exact nit c _ z
theorem Inv.tok (I : Inv X pins σ H s) (t : Nat) : Inv X pins σ H { s with toks := t } := I.un (h' := s.heap) (t' := t) Un.refl I.hok
/-- all objects kept -/
theorem Inv.kept {t' : Nat} (I : Inv X pins σ H s) (k : ∀ b u, s.heap.get? b = some u → h'.get? b = some u) : Inv X pins σ H { s with heap := h', toks := t' } := I.un (Un.kept k) (I.hok.kept k)
/-- a new object laid and tracked -/
theorem Inv.laid {a : Addr} {o : HO} {t' : Nat} (I : Inv X pins σ H s) (k : ∀ b u, s.heap.get? b = some u → h'.get? b = some u) (hp : s.heap.objs.size ≤ a) (new : ObjOk X.prog X.w (upd H a o) h' a o) :
    Inv X pins σ (upd H a o) { s with heap := h', toks := t' } := I.un (Un.laid k hp (I.hok.fresh hp)) (I.hok.laid k hp new)
/-- an object written -/
theorem Inv.write {x e : Addr} {o : HO} {t' : Nat} (I : Inv X pins σ H s) (mu : Mut (H x)) (he : e = x ∨ H e = some (.own x)) (k : ∀ b u, b ≠ e → s.heap.get? b = some u → h'.get? b = some u) (heo : ∃ u, h'.get? e = some u)
    (new : ObjOk X.prog X.w (upd H x o) h' x o) : Inv X pins σ (upd H x o) { s with heap := h', toks := t' } := I.un (Un.write mu he k heo) (I.hok.write mu he k heo new)
theorem Inv.pins_of {pins' : List (Addr × Obj)} (I : Inv X pins σ H s) (h : ∀ p ∈ pins', s.heap.get? p.1 = some p.2 ∧ H p.1 = none ∧ p.1 ≠ X.env.locals ∧ p.1 ∉ X.fs ∧ ∀ v, p.2.data ≠ .cell v) : Inv X pins' σ H s :=
  ⟨I.ok, I.os, I.bare, I.base, I.loc, I.cell, I.free, I.freeC, fun p hp => (List.mem_append.mp hp).elim (fun z => I.pin p (List.mem_append_left _ z)) (h p), I.hok, I.len⟩

theorem nodup_ix {N : List Str} (hN : N.Nodup) {i j : Nat} {x : Str} (a : N[i]? = some x) (b : N[j]? = some x) : i = j := by
  obtain ⟨h1, e1⟩ := List.getElem?_eq_some_iff.mp a
  obtain ⟨h2, e2⟩ := List.getElem?_eq_some_iff.mp b
  exact (List.getElem_inj hN).mp (e1.trans e2.symm)

/-- a name is stored; what changed -/
theorem store_ok2 {M : Model} {A : Around} {E : Value → Shared → Prop} {i : Nat} {x : Str} {v : V} {u : Value} {Q : Unit → Shared → Prop} (I : Inv X pins σ H s) (hN : X.N.Nodup) (hi : X.N[i]? = some x) (hx : Loc X.env.scope x) (r : RelV v u)
    (h : ∀ s', Inv X pins (σ.set i (some v)) H s' → (∃ a, Heap.SameBut a s.heap s'.heap ∧ (a = X.env.locals ∨ X.env.cells.lookup x = some a)) → Q () s') (hf : X.fn x = true ∨ X.env.scope.names.lookup x = some .local := by first | exact .inl rfl | exact .inr rfl | assumption) : wpAny M A (storeName X.env x u) Q E s := by
  obtain ⟨m, hn, hl⟩ := id I.loc
  have hcls : (X.env.scope.kind == .class || (X.env.scope.kind == .module && X.env.locals != X.env.globals)) = false := by rw [I.ok.kind]; rfl
  have hiσ : i < σ.length := by rw [I.len]; exact (List.getElem?_eq_some_iff.mp hi).1
  have cne := I.cne
  have tracked : ∀ {a : Addr} {h' : Heap}, (∃ o, s.heap.get? a = some o ∧ H a = none) → Heap.SameBut a s.heap h' → HOk X.prog X.w H h' := fun {a h'} ha hs b ob e => by
    obtain ⟨_, _, hfree⟩ := ha
    refine (I.hok b ob e).stay (fun c w' hc q => (hs.2 c ?_).trans q) (fun _ q => q) fun _ _ q => q
    rintro rfl
    rcases hc with rfl | hc
    · rw [hfree] at e; cases e
    · rw [hfree] at hc; cases hc
  rcases hx with hk | hk
  · refine wpAny_storeName_local hk hn (fun h' hn' hs => ?_) hcls
    obtain ⟨oL, _, _, hoL, _⟩ := id hn
    refine h _ ⟨I.ok, I.os, I.bare, ⟨fun b o e n hb hx => ?_, fun b o e n hb hx => ?_, I.base.free, fun b o e hx => ?_, I.base.tups, I.base.frzs, I.base.tbls⟩, ⟨_, hn', fun j y v' e1 e2 e3 => ?_⟩, fun y c e => ?_, I.free, I.freeC, fun p hp => ?_, tracked ⟨oL, hoL, I.free⟩ hs, by simpa using I.len⟩ ⟨_, hs, .inl rfl⟩
    · exact (hs.2 b (Nat.ne_of_lt (Nat.lt_of_lt_of_le (Heap.lt_size e) I.ok.above))).trans (I.base.keep b o e n hb hx)
    · obtain ⟨sl, e1⟩ := I.base.slot b o e n hb hx
      exact ⟨sl, (hs.2 b (Nat.ne_of_lt (Nat.lt_of_lt_of_le (Heap.lt_size e) I.ok.above))).trans e1⟩
    · obtain ⟨o', e1⟩ := I.base.there b o e hx
      exact ⟨o', (hs.2 b (Nat.ne_of_lt (Nat.lt_of_lt_of_le (Heap.lt_size e) I.ok.above))).trans e1⟩
    · by_cases hj : j = i
      · subst hj
        rw [hi] at e1; cases e1
        rw [List.getElem?_set_self hiσ] at e2
        cases e2
        exact ⟨u, r, .inl ⟨hk, by simp⟩⟩
      · rw [List.getElem?_set_ne (Ne.symm hj)] at e2
        obtain ⟨u', r', q⟩ := hl j y v' e1 e2 e3
        refine ⟨u', r', ?_⟩
        rcases q with ⟨k, e⟩ | ⟨k, c, e, z⟩
        · refine .inl ⟨k, ?_⟩
          have : y ≠ x := fun e => hj (nodup_ix hN e1 (e ▸ hi))
          simp [this, e]
        · exact .inr ⟨k, c, e, z.sameBut hs (cne y c e)⟩
    · obtain ⟨w', z⟩ := I.cell y c e
      exact ⟨w', z.sameBut hs (cne y c e)⟩
    · obtain ⟨e, n, ne, nf, d⟩ := I.pin p hp
      exact ⟨(hs.2 p.1 ne).trans e, n, ne, nf, d⟩
  · have hfn : X.fn x = true := by
      rcases hf with z | z
      · exact z
      · rw [z] at hk; cases hk
    obtain ⟨c, hc⟩ := I.ok.has x (.inl hk)
    obtain ⟨w', z⟩ := I.cell x c hc
    refine wpAny_storeName_cell I.ok.kind hk hc z (fun h' hc' hs => ?_)
    obtain ⟨oc, hoc, hocd⟩ := id z
    refine h { s with heap := h' } ⟨I.ok, I.os, I.bare, ⟨fun b o e n hb hx => ?_, fun b o e n hb hx => ?_, I.base.free, fun b o e hx => ?_, I.base.tups, I.base.frzs, I.base.tbls⟩, ⟨m, hn.sameBut hs (Ne.symm (cne x c hc)), fun j y v' e1 e2 e3 => ?_⟩, fun y c' e => ?_, I.free, I.freeC, fun p hp => ?_, tracked ⟨oc, hoc, I.freeC x c hc⟩ hs, by simpa using I.len⟩ ⟨c, hs, .inr hc⟩
    · exact (hs.2 b (Nat.ne_of_lt (Nat.lt_of_lt_of_le (Heap.lt_size e) (I.ok.cab x c hfn hc)))).trans (I.base.keep b o e n hb hx)
    · obtain ⟨sl, e1⟩ := I.base.slot b o e n hb hx
      exact ⟨sl, (hs.2 b (Nat.ne_of_lt (Nat.lt_of_lt_of_le (Heap.lt_size e) (I.ok.cab x c hfn hc)))).trans e1⟩
    · obtain ⟨o', e1⟩ := I.base.there b o e hx
      exact ⟨o', (hs.2 b (Nat.ne_of_lt (Nat.lt_of_lt_of_le (Heap.lt_size e) (I.ok.cab x c hfn hc)))).trans e1⟩
    · by_cases hj : j = i
      · subst hj
        rw [hi] at e1; cases e1
        rw [List.getElem?_set_self hiσ] at e2
        cases e2
        exact ⟨u, r, .inr ⟨.inl hk, c, hc, hc'⟩⟩
      · rw [List.getElem?_set_ne (Ne.symm hj)] at e2
        obtain ⟨u', r', q⟩ := hl j y v' e1 e2 e3
        refine ⟨u', r', ?_⟩
        rcases q with q | ⟨k, c', e, z'⟩
        · exact .inl q
        · refine .inr ⟨k, c', e, z'.sameBut hs ?_⟩
          rintro rfl
          exact hj (nodup_ix hN e1 (I.ok.inj _ _ _ e hc ▸ hi))
    · by_cases hcc : c' = c
      · subst hcc; exact ⟨_, hc'⟩
      · obtain ⟨w2, z2⟩ := I.cell y c' e
        exact ⟨w2, z2.sameBut hs hcc⟩
    · obtain ⟨e, n, ne, nf, d⟩ := I.pin p hp
      refine ⟨(hs.2 p.1 ?_).trans e, n, ne, nf, d⟩
      intro q
      rw [q, hoc] at e
      have q' : oc = p.2 := Option.some.inj e
      exact d w' (by rw [← q']; exact hocd)
theorem store_ok {M : Model} {A : Around} {E : Value → Shared → Prop} {i : Nat} {x : Str} {v : V} {u : Value} {Q : Unit → Shared → Prop} (I : Inv X pins σ H s) (hN : X.N.Nodup) (hi : X.N[i]? = some x) (hx : Loc X.env.scope x) (r : RelV v u)
    (h : ∀ s', Inv X pins (σ.set i (some v)) H s' → Q () s') (hf : X.fn x = true ∨ X.env.scope.names.lookup x = some .local := by first | exact .inl rfl | exact .inr rfl | assumption) : wpAny M A (storeName X.env x u) Q E s :=
  store_ok2 I hN hi hx r (fun s' I' _ => h s' I') hf
/-- behind a call or a block, the state as it is -/
theorem Inv.call' {s' : Shared} {ch : List Addr} (I : Inv X pins σ H s) (ho : s'.os = s.os) (u : Un (frs X.stack) ch H H' s.heap s'.heap) (hok : HOk X.prog X.w H' s'.heap) (hg : AllBare s'.gens)
    (hch : ∀ b ∈ ch, (b ∈ X.ex ∨ X.s₀.heap.objs.size ≤ b) ∧ b ≠ X.env.locals ∧ (∀ x c, X.env.cells.lookup x = some c → c ≠ b) ∧ ∀ p ∈ X.pn ++ pins, p.1 ≠ b) : Inv X pins σ H' s' := by
  obtain ⟨h', g', d', t', o'⟩ := s'
  have e : o' = s.os := ho
  subst e
  exact I.call (g' := g') (t' := t') (d' := d') u hok hg hch
end

/-! ### the judgements -/
/-- an exception: its class, its own dict's address (where it has one), the abstract heap behind it -/
abbrev XK := Value → Option Addr → Hp → Prop
abbrev St := List (Option V)
abbrev VK := V → Hp → Prop
/-- an expression's reading; a test's; an argument list's -/
abbrev TE := St → Hp → VK → Prop
abbrev TT := St → Hp → (Bool → Hp → Prop) → Prop
abbrev TA := St → Hp → (List V → Hp → Prop) → Prop
/-- what is wanted behind a statement -/
structure Ends where
  nx : St → Hp → Prop
  rt : VK
  bk : St → Hp → Prop := fun _ _ => False
  ct : St → Hp → Prop := fun _ _ => False
abbrev TS := Ends → St → Hp → Prop

def EP (X : Cx) (pins : List (Addr × Obj)) (σ : St) (Q : VK) (u : Value) (s' : Shared) : Prop := ∃ v H', Inv X pins σ H' s' ∧ RelV v u ∧ Q v H'
def TP (X : Cx) (pins : List (Addr × Obj)) (σ : St) (Q : Bool → Hp → Prop) (b : Bool) (s' : Shared) : Prop := ∃ H', Inv X pins σ H' s' ∧ Q b H'
def AP (X : Cx) (pins : List (Addr × Obj)) (σ : St) (Q : List V → Hp → Prop) (us : List Value) (s' : Shared) : Prop := ∃ vs H', Inv X pins σ H' s' ∧ Vals vs us ∧ Q vs H'
def SP (X : Cx) (pins : List (Addr × Obj)) (D : Ends) (f : Flow) (s' : Shared) : Prop :=
  match f with
  | .next => ∃ σ' H', Inv X pins σ' H' s' ∧ D.nx σ' H'
  | .brk => ∃ σ' H', Inv X pins σ' H' s' ∧ D.bk σ' H'
  | .cont => ∃ σ' H', Inv X pins σ' H' s' ∧ D.ct σ' H'
  | .ret u => ∃ v σ' H', Inv X pins σ' H' s' ∧ RelV v u ∧ D.rt v H'

def PE (X : Cx) (e : Expr) (t : TE) : Prop :=
  ∀ (pins : List (Addr × Obj)) (s : Shared) (σ : St) (H : Hp) (Q : VK), Inv X pins σ H s → t σ H Q → wpAny (model X.prog X.w) X.A (eval e X.env) (EP X pins σ Q) X.xe s
def PT (X : Cx) (e : Expr) (t : TT) : Prop :=
  ∀ (pins : List (Addr × Obj)) (s : Shared) (σ : St) (H : Hp) (Q : Bool → Hp → Prop), Inv X pins σ H s → t σ H Q → wpAny (model X.prog X.w) X.A (isTrue e X.env (eval e X.env)) (TP X pins σ Q) X.xe s
/-- a test whatever its 'whole' is (and, or) -/
def PW (X : Cx) (e : Expr) (t : TT) : Prop :=
  ∀ (whole : Sem Value) (pins : List (Addr × Obj)) (s : Shared) (σ : St) (H : Hp) (Q : Bool → Hp → Prop), Inv X pins σ H s → t σ H Q → wpAny (model X.prog X.w) X.A (isTrue e X.env whole) (TP X pins σ Q) X.xe s
theorem PW.pt {X : Cx} {e : Expr} {t : TT} (h : PW X e t) : PT X e t := h _
/-- an argument list (no star), from the left -/
def PA (X : Cx) (es : List Expr) (t : TA) : Prop :=
  ∀ (pos : Pos) (pins : List (Addr × Obj)) (s : Shared) (σ : St) (H : Hp) (Q : List V → Hp → Prop), Inv X pins σ H s → t σ H Q → wpAny (model X.prog X.w) X.A (spliced (backTo pos (starEach es X.env))) (AP X pins σ Q) X.xe s
def PS (X : Cx) (st : Stmt) (t : TS) : Prop :=
  ∀ (pins : List (Addr × Obj)) (s : Shared) (σ : St) (H : Hp) (D : Ends), Inv X pins σ H s → t D σ H → wpAny (model X.prog X.w) X.A (exec st X.env) (SP X pins D) X.xe s
def PSs (X : Cx) (st : List Stmt) (t : TS) : Prop :=
  ∀ (pins : List (Addr × Obj)) (s : Shared) (σ : St) (H : Hp) (D : Ends), Inv X pins σ H s → t D σ H → wpAny (model X.prog X.w) X.A (execs st X.env) (SP X pins D) X.xe s
/-- weaken the end -/
theorem thn {α : Type} {t : Sem α} {Q Q' : α → Shared → Prop} {M : Model} {A : Around} {E : Value → Shared → Prop} {s : Shared} (h : wpAny M A t Q E s) (hQ : ∀ a s, Q a s → Q' a s) : wpAny M A t Q' E s := wpAny_mono h hQ fun _ _ x => x
end L2

namespace L2
open PySem PySem.Spec PyProof.Rows
section
variable {X : Cx}


/-! ### names and constants -/
def tVar (i : Nat) : TE := fun σ H Q => ∃ v, σ[i]? = some (some v) ∧ Q v H
def tC (v : V) : TE := fun _ H Q => Q v H
theorem pe_var {i : Nat} {x : Str} {pos : Pos} (hN : X.N[i]? = some x) (hv : Vis X.env.scope x) (hd : (x == ("__debug__" : Str)) = false := by decide) (hcd : (x == ("__classdict__" : Str)) = false := by decide) : PE X (.Name x pos) (tVar i) := by
  intro pins s σ H Q I h
  obtain ⟨v, e, h⟩ := h
  obtain ⟨m, hn, hl⟩ := I.loc
  obtain ⟨u, r, l⟩ := hl i x v hN e hv
  have fin : EP X pins σ Q u s := ⟨v, H, I, r, h⟩
  rcases l with ⟨hk, hm⟩ | ⟨hk, c, hc, hcell⟩
  · exact wpAny_Name (wpAny_loadName_local I.ok.kind hk hn hm fin) hd
  · rcases hk with hk | hk
    · exact wpAny_Name (wpAny_loadName_cell I.ok.kind hk hc hcell fin) hd
    · exact wpAny_Name (wpAny_loadName_free I.ok.kind hk hc hcell fin hcd) hd
theorem pe_int {i j pos} : PE X (.Constant (.int i) j pos) (tC (.int i)) := fun _ _ _ H _ I h => wpAny_Constant_int ⟨.int i, H, I.tok _, ⟨_, rfl⟩, h⟩
theorem pe_bl {b j pos} : PE X (.Constant (.bool b) j pos) (tC (.bl b)) := fun _ _ _ H _ I h => Constant_bool ⟨.bl b, H, I, rfl, h⟩
theorem pe_non {j pos} : PE X (.Constant .none j pos) (tC .non) := fun _ _ _ H _ I h => Constant_none ⟨.non, H, I, rfl, h⟩
theorem pe_str {x j pos} : PE X (.Constant (.str x) j pos) (tC (.str x)) := fun _ _ _ H _ I h => Calls.Constant_str ⟨.str x, H, I.tok _, ⟨_, rfl⟩, h⟩

/-- a global name of the def -/
def Gl (X : Cx) (x : Str) : Prop := X.env.kindOf x = some .globalImplicit
theorem ld_glob {E : Value → Shared → Prop} {pins : List (Addr × Obj)} {s : Shared} {σ : St} {H : Hp} {x : Str} {u : Value} {pos : Pos} {Q : Value → Shared → Prop} (I : Inv X pins σ H s) (hg : Gl X x) (hm : X.mg x = some u) (h : Q u s)
    (hd : (x == ("__debug__" : Str)) = false := by decide) : wpAny (model X.prog X.w) X.A (eval (.Name x pos) X.env) Q E s :=
  Calls.Name_function_global I.ok.kind hg (Calls.loadGlobal_global (by rw [I.ok.glob]; exact I.mod.glob.keeps I.bk) hm h) hd
theorem ld_blt {E : Value → Shared → Prop} {pins : List (Addr × Obj)} {s : Shared} {σ : St} {H : Hp} {x : Str} {u : Value} {pos : Pos} {Q : Value → Shared → Prop} (I : Inv X pins σ H s) (hg : Gl X x) (hm : X.mg x = none) (hv : bootBuiltins x = some u) (h : Q u s)
    (hn : x ≠ "__name__" := by decide) (hd : (x == ("__debug__" : Str)) = false := by decide) : wpAny (model X.prog X.w) X.A (eval (.Name x pos) X.env) Q E s := by
  obtain ⟨mb, h1, h2⟩ := I.mod.blt
  exact Calls.Name_function_global I.ok.kind hg (Calls.loadGlobal_builtin (by rw [I.ok.glob]; exact I.mod.glob.keeps I.bk) hm (by rw [I.ok.blt]; exact h1.keeps I.bk) ((h2 x hn).trans hv) h) hd
theorem pe_bltn {x : Str} {v : V} {u : Value} {pos : Pos} (hg : Gl X x) (hm : X.mg x = none) (hv : bootBuiltins x = some u) (r : RelV v u) (hn : x ≠ "__name__" := by decide) (hd : (x == ("__debug__" : Str)) = false := by decide) : PE X (.Name x pos) (tC v) :=
  fun _ _ _ H _ I h => ld_blt I hg hm hv ⟨v, H, I, r, h⟩ hn hd

/-! ### arithmetic -/
variable {a b : Expr} {ta tb : TE} {pos : Pos}

/-! ### comparisons -/
/-- a comparison as a value, as a test -/
def tB (t : TE) : TT := fun σ H Q => t σ H fun x H1 => ∃ c, x = .bl c ∧ Q c H1
/-- an expression whose value is a bool, as a test -/
theorem pt_val {e : Expr} {t : TE} (h : PE X e t) (he : ∀ whole, isTrue e X.env whole = (do let v ← whole; standAt e.pos; holding [v] (truthy v)) := by intro _; rfl) : PT X e (tB t) := by
  intro pins s σ H Q I hw
  refine isTrue_plain (thn (h pins s σ H _ I hw) fun v s1 ⟨x, H1, I1, r1, q1⟩ => ?_) (he _)
  obtain ⟨d, rfl, q⟩ := q1
  cases r1
  exact wpAny_truthy_bool ⟨H1, I1, q⟩

/-! ### and, or, not -/
variable {tA tB' : TT} {rest : List Expr}
def tAnd (t u : TT) : TT := fun σ H Q => t σ H fun c H1 => if c = true then u σ H1 Q else Q false H1
def tOr (t u : TT) : TT := fun σ H Q => t σ H fun c H1 => if c = true then Q true H1 else u σ H1 Q
def tNot (t : TT) : TT := fun σ H Q => t σ H fun c H1 => Q (!c) H1
theorem pw_and1 (ha : PT X a tA) : PW X (.BoolOp .And [a] pos) tA := by
  intro wh pins s σ H Q I h
  refine isTrue_and (thn (ha pins s σ H Q I h) fun c s1 e => ?_)
  cases c with
  | true => exact isTrue_and_nil e
  | false => exact e
theorem pw_or1 (ha : PT X a tA) : PW X (.BoolOp .Or [a] pos) tA := by
  intro wh pins s σ H Q I h
  refine isTrue_or (thn (ha pins s σ H Q I h) fun c s1 e => ?_)
  cases c with
  | false => exact isTrue_or_nil e
  | true => exact e
theorem pw_and (ha : PT X a tA) (hb : PW X (.BoolOp .And (b :: rest) pos) tB') : PW X (.BoolOp .And (a :: b :: rest) pos) (tAnd tA tB') := by
  intro wh pins s σ H Q I h
  refine isTrue_and (thn (ha pins s σ H _ I h) fun c s1 ⟨H1, I1, q1⟩ => ?_)
  cases c with
  | true => exact hb wh pins s1 σ H1 Q I1 q1
  | false => exact ⟨H1, I1, q1⟩
theorem pw_or (ha : PT X a tA) (hb : PW X (.BoolOp .Or (b :: rest) pos) tB') : PW X (.BoolOp .Or (a :: b :: rest) pos) (tOr tA tB') := by
  intro wh pins s σ H Q I h
  refine isTrue_or (thn (ha pins s σ H _ I h) fun c s1 ⟨H1, I1, q1⟩ => ?_)
  cases c with
  | true => exact ⟨H1, I1, q1⟩
  | false => exact hb wh pins s1 σ H1 Q I1 q1
theorem pt_not (ha : PT X a tA) : PT X (.UnaryOp .Not a pos) (tNot tA) := by
  intro pins s σ H Q I h
  exact isTrue_not (ha pins s σ H (fun c H1 => Q (!c) H1) I h)
/-- .. as values (bools) -/
def tAndV (ta tb : TE) : TE := fun σ H Q => ta σ H fun x H1 => ∃ c, x = .bl c ∧ if c = true then tb σ H1 Q else Q (.bl false) H1
theorem pe_one {op} {t : TE} (h : PE X a t) : PE X (.BoolOp op [a] pos) t := fun pins s σ H Q I hw => BoolOp_one (h pins s σ H Q I hw)
theorem pe_and (ha : PE X a ta) (hb : PE X (.BoolOp .And (b :: rest) pos) tb) : PE X (.BoolOp .And (a :: b :: rest) pos) (tAndV ta tb) := by
  intro pins s σ H Q I h
  refine BoolOp_and (thn (ha pins s σ H _ I h) fun v s1 ⟨x, H1, I1, r1, q1⟩ => ?_)
  obtain ⟨c, rfl, q1⟩ := q1
  cases r1
  refine wpAny_truthy_bool ?_
  cases c with
  | true => exact hb pins s1 σ H1 Q I1 q1
  | false => exact ⟨.bl false, H1, I1, rfl, q1⟩
end
end L2

namespace L2
open PySem PySem.Spec PyProof.Rows

/-! ### a list, a tuple that is read: tracked, frozen, or an object of the module -/
def SqL (K : PySem.W.Frag) (H : Hp) (a : Addr) (xs : List V) : Prop :=
  Rd H a (.lst xs) ∨
    ∃ (o : Obj) (its : Array Value) (n : Nat), K.lookup a = some o ∧ o.cls = .type "list" ∧ o.dict = none ∧ o.data = .seq its n ∧ its.size ≤ sizeLine ∧ Vals xs its.toList
def SqT (K : PySem.W.Frag) (H : Hp) (a : Addr) (xs : List V) : Prop :=
  Rd H a (.tup xs) ∨
    ∃ (o : Obj) (its : Array Value) (n : Nat), K.lookup a = some o ∧ o.cls = .type "tuple" ∧ o.data = .seq its n ∧ its.size ≤ sizeLine ∧ Vals xs its.toList
def absV : Value → Option V
  | .none => some .non
  | .bool b => some (.bl b)
  | .int i _ => some (.int i)
  | .str x _ => some (.str x)
  | .bytes b _ => some (.byt b)
  | .float b _ => some (.flt b)
  | .ref a => some (.ref a)
  | .type n => some (.ty n)
  | _ => none
theorem RelV.abs {x : V} {u : Value} (r : RelV x u) : absV u = some x := by
  cases x with
  | non => cases r; rfl
  | bl _ => cases r; rfl
  | int _ => obtain ⟨t, rfl⟩ := r; rfl
  | str _ => obtain ⟨t, rfl⟩ := r; rfl
  | byt _ => obtain ⟨t, rfl⟩ := r; rfl
  | flt _ => obtain ⟨t, rfl⟩ := r; rfl
  | ref _ => cases r; rfl
  | ty _ => cases r; rfl
theorem RelV.inj {x y : V} {u : Value} (r : RelV x u) (q : RelV y u) : x = y := Option.some.inj (r.abs.symm.trans q.abs)
theorem Vals.inj : ∀ {xs ys : List V} {us : List Value}, Vals xs us → Vals ys us → xs = ys
  | _, _, _, .nil, .nil => rfl
  | _, _, _, .cons r t, .cons r' t' => by rw [r.inj r', Vals.inj t t']
section
variable {X : Cx} {pins : List (Addr × Obj)} {σ : St} {H : Hp} {s : Shared} {a : Addr} {xs ys : List V}
theorem SqL.of {K : PySem.W.Frag} (h : H a = some (.lst xs)) : SqL K H a xs := .inl (.inl h)
theorem SqT.of {K : PySem.W.Frag} (h : H a = some (.tup xs)) : SqT K H a xs := .inl (.inl h)
theorem Inv.list (I : Inv X pins σ H s) (h : SqL X.K H a xs) : ∃ its : List Value, Vals xs its ∧ PlainL s.heap a its.toArray ∧ xs.length ≤ sizeLine := by
  rcases h with h | ⟨o, its, n, hk, hc, hd, hs, hz, r⟩
  · obtain ⟨z, its, n, r, e⟩ := h.ok I.hok
    exact ⟨its, r, ⟨_, n, e, rfl, rfl, rfl⟩, z⟩
  · refine ⟨its.toList, r, ⟨o, n, I.kIn a o hk, hc, hd, by simpa using hs⟩, ?_⟩
    have e := r.length
    simp only [Array.length_toList] at e
    omega
theorem Inv.tuple (I : Inv X pins σ H s) (h : SqT X.K H a xs) : ∃ its : List Value, Vals xs its ∧ IsTup s.heap a its.toArray ∧ xs.length ≤ sizeLine := by
  rcases h with h | ⟨o, its, n, hk, hc, hs, hz, r⟩
  · obtain ⟨z, its, r, p⟩ := h.ok I.hok
    exact ⟨its, r, p, z⟩
  · refine ⟨its.toList, r, ⟨o, I.kIn a o hk, hc, n, by simpa using hs⟩, ?_⟩
    have e := r.length
    simp only [Array.length_toList] at e
    omega
theorem Inv.list_inj (I : Inv X pins σ H s) (h : SqL X.K H a xs) (h' : SqL X.K H a ys) : xs = ys := by
  obtain ⟨its, r, ⟨o, n, e, _, _, d⟩, _⟩ := I.list h
  obtain ⟨its', r', ⟨o', n', e', _, _, d'⟩, _⟩ := I.list h'
  rw [e] at e'; cases e'
  rw [d] at d'
  injection d' with d1 _
  have : its = its' := by simpa using congrArg Array.toList d1
  subst this
  exact r.inj r'
theorem Inv.tuple_inj (I : Inv X pins σ H s) (h : SqT X.K H a xs) (h' : SqT X.K H a ys) : xs = ys := by
  obtain ⟨its, r, ⟨o, e, _, n, d⟩, _⟩ := I.tuple h
  obtain ⟨its', r', ⟨o', e', _, n', d'⟩, _⟩ := I.tuple h'
  rw [e] at e'; cases e'
  rw [d] at d'
  injection d' with d1 _
  have : its = its' := by simpa using congrArg Array.toList d1
  subst this
  exact r.inj r'
end

/-! ### another wish about exceptions -/
abbrev Cx.wish (X : Cx) (E : Value → Shared → Prop) : Cx := { X with xe := E }
/-- no exception leaves -/
abbrev Cx.nox (X : Cx) : Cx := X.wish fun _ _ => False
theorem Cx.Ok.wish {X : Cx} (ok : X.Ok) (E : Value → Shared → Prop) : (X.wish E).Ok :=
  ⟨ok.mod, ok.kind, ok.glob, ok.blt, ok.above, ok.inj, ok.has, ok.cab, ok.hd, ok.frames, ok.stk, ok.exf, ok.bs, ok.bsz, ok.noex, ok.exfs, ok.funs, ok.frf⟩
theorem Cx.Ok.unwish {X : Cx} {E : Value → Shared → Prop} (ok : (X.wish E).Ok) : X.Ok :=
  ⟨ok.mod, ok.kind, ok.glob, ok.blt, ok.above, ok.inj, ok.has, ok.cab, ok.hd, ok.frames, ok.stk, ok.exf, ok.bs, ok.bsz, ok.noex, ok.exfs, ok.funs, ok.frf⟩
section
variable {X : Cx} {pins : List (Addr × Obj)} {σ : St} {H : Hp} {s : Shared} {E : Value → Shared → Prop}
theorem Inv.wish (I : Inv X pins σ H s) (E : Value → Shared → Prop) : Inv (X.wish E) pins σ H s := ⟨I.ok.wish E, I.os, I.bare, I.base, I.loc, I.cell, I.free, I.freeC, I.pin, I.hok, I.len⟩
theorem Inv.unwish (I : Inv (X.wish E) pins σ H s) : Inv X pins σ H s := ⟨I.ok.unwish, I.os, I.bare, I.base, I.loc, I.cell, I.free, I.freeC, I.pin, I.hok, I.len⟩
theorem SP.unwish {D : Ends} {f : Flow} {s' : Shared} (h : SP (X.wish E) pins D f s') : SP X pins D f s' := by
  cases f with
  | next => obtain ⟨σ', H', I, q⟩ := h; exact ⟨σ', H', I.unwish, q⟩
  | brk => obtain ⟨σ', H', I, q⟩ := h; exact ⟨σ', H', I.unwish, q⟩
  | cont => obtain ⟨σ', H', I, q⟩ := h; exact ⟨σ', H', I.unwish, q⟩
  | ret u => obtain ⟨v, σ', H', I, r, q⟩ := h; exact ⟨v, σ', H', I.unwish, r, q⟩
theorem PSs.nox {st : List Stmt} {t : TS} (h : PSs X.nox st t) : PSs X st t := fun pins s σ H D I hw =>
  wpAny_mono (h pins s σ H D (I.wish _) hw) (fun _ _ q => q.unwish) fun _ _ z => False.elim z
end

/-! ### blocks and small statements -/
section
variable {X : Cx} {st : Stmt} {rest : List Stmt} {t u : TS} {e : Expr} {te : TE} {pos : Pos}
def tNext : TS := fun D σ H => D.nx σ H
def tSeq (t u : TS) : TS := fun D σ H => t { D with nx := u D } σ H
theorem pss_nil : PSs X [] tNext := fun _ _ σ H _ I h => wpAny_execs_nil ⟨σ, H, I, h⟩
theorem pss_cons (h1 : PS X st t) (h2 : PSs X rest u) : PSs X (st :: rest) (tSeq t u) := by
  intro pins s σ H D I h
  refine wpAny_execs_cons (thn (h1 pins s σ H { D with nx := u D } I h) fun f s1 q => ?_)
  cases f with
  | next =>
    obtain ⟨σ', H', I', q⟩ := q
    exact h2 pins s1 σ' H' D I' q
  | ret v => exact q
  | brk => exact q
  | cont => exact q
theorem pss_one (h1 : PS X st t) : PSs X [st] t := by
  intro pins s σ H D I h
  refine wpAny_execs_cons (thn (h1 pins s σ H D I h) fun f s1 q => ?_)
  cases f with
  | next => exact wpAny_execs_nil q
  | ret v => exact q
  | brk => exact q
  | cont => exact q
/-- in a def's body nothing is shown -/
theorem Inv.quiet {pins : List (Addr × Obj)} {σ : St} {H : Hp} {s : Shared} (I : Inv X pins σ H s) : interactive X.env = false := by simp [interactive, I.ok.kind]
/-- an expression whose value is dropped -/
def tDrop (te : TE) : TS := fun D σ H => te σ H fun _ H1 => D.nx σ H1
theorem ps_expr (he : PE X e te) (hs : swapsWith e none pos.line X.env = pure false := by rfl) : PS X (.Expr e pos) (tDrop te) := by
  intro pins s σ H D I h
  exact wpAny_Expr_any (thn (he pins s σ H _ I h) fun v s1 ⟨x, H1, I1, r1, q1⟩ => ⟨σ, H1, I1, q1⟩) I.quiet hs
def tRet (te : TE) : TS := fun D σ H => te σ H D.rt
theorem ps_ret (he : PE X e te) : PS X (.Return (some e) pos) (tRet te) := by
  intro pins s σ H D I h
  exact wpAny_Return_some (thn (he pins s σ H _ I h) fun v s1 ⟨x, H1, I1, r1, q1⟩ => ⟨x, σ, H1, I1, r1, q1⟩)
def tIfS (c : TT) (t u : TS) : TS := fun D σ H => c σ H fun b H1 => if b = true then t D σ H1 else u D σ H1
theorem ps_if {c : Expr} {a b : List Stmt} {tc : TT} (hc : PT X c tc) (ha : PSs X a t) (hb : PSs X b u) : PS X (.If c a b pos) (tIfS tc t u) := by
  intro pins s σ H D I h
  refine wpAny_If (thn (hc pins s σ H _ I h) fun d s1 ⟨H1, I1, q1⟩ => ?_)
  cases d with
  | true => exact ha pins s1 σ H1 D I1 q1
  | false => exact hb pins s1 σ H1 D I1 q1
end

/-! ### targets -/
abbrev TG := V → St → Hp → (St → Hp → Prop) → Prop
abbrev TGs := List V → St → Hp → (St → Hp → Prop) → Prop
def PG (X : Cx) (target : Expr) (t : TG) : Prop :=
  ∀ (pins : List (Addr × Obj)) (s : Shared) (σ : St) (H : Hp) (v : V) (u : Value) (Q : St → Hp → Prop), Inv X pins σ H s → RelV v u → t v σ H Q →
    wpAny (model X.prog X.w) X.A (assign target X.env u) (fun _ s' => ∃ σ' H', Inv X pins σ' H' s' ∧ Q σ' H') X.xe s
/-- several targets, one after another -/
def PGs (X : Cx) (ts : List Expr) (t : TGs) : Prop :=
  ∀ (pins : List (Addr × Obj)) (s : Shared) (σ : St) (H : Hp) (vs : List V) (us : List Value) (Q : St → Hp → Prop), Inv X pins σ H s → Vals vs us → t vs σ H Q →
    wpAny (model X.prog X.w) X.A (assignInOrder ((assignEach ts X.env).map (·.2)) us) (fun _ s' => ∃ σ' H', Inv X pins σ' H' s' ∧ Q σ' H') X.xe s
/-- o[i] = v, by values -/
abbrev TSet := V → V → V → Hp → (Hp → Prop) → Prop
def PSet (X : Cx) (t : TSet) : Prop :=
  ∀ (pins : List (Addr × Obj)) (s : Shared) (σ : St) (H : Hp) (o i v : V) (ov iv u : Value) (Q : Hp → Prop), Inv X pins σ H s → RelV o ov → RelV i iv → RelV v u → t o i v H Q →
    wpAny (model X.prog X.w) X.A (setItem ov iv u) (fun _ s' => ∃ H', Inv X pins σ H' s' ∧ Q H') X.xe s
section
variable {X : Cx} {pos : Pos}
def gName (i : Nat) : TG := fun v σ H Q => Q (σ.set i (some v)) H
theorem pg_name {i : Nat} {x : Str} (hN : X.N.Nodup) (hi : X.N[i]? = some x) (hx : Loc X.env.scope x) (hf : X.fn x = true ∨ X.env.scope.names.lookup x = some .local := by first | exact .inl rfl | exact .inr rfl | assumption) : PG X (.Name x pos) (gName i) := by
  intro pins s σ H v u Q I r h
  exact wpAny_assign_Name (store_ok I hN hi hx r (fun s' I' => ⟨_, H, I', h⟩) hf)
def gNil : TGs := fun vs σ H Q => vs = [] ∧ Q σ H
def gCons (t : TG) (u : TGs) : TGs := fun vs σ H Q => ∃ v r, vs = v :: r ∧ t v σ H fun σ' H' => u r σ' H' Q
theorem pgs_nil : PGs X [] gNil := by
  intro pins s σ H vs us Q I r h
  obtain ⟨e, h⟩ := h
  subst e
  cases r
  exact assignInOrder_nil ⟨σ, H, I, h⟩
theorem pgs_cons {e : Expr} {es : List Expr} {t : TG} {u : TGs} (h1 : PG X e t) (h2 : PGs X es u)
    (hs : (assignEach (e :: es) X.env).map (·.2) = assign e X.env :: (assignEach es X.env).map (·.2) := by rfl) : PGs X (e :: es) (gCons t u) := by
  intro pins s σ H vs us Q I r h
  obtain ⟨v, vr, e1, h⟩ := h
  subst e1
  cases r with
  | cons r rr =>
    rw [hs]
    refine assignInOrder_cons (thn (h1 pins s σ H _ _ _ I r h) fun _ s1 ⟨σ1, H1, I1, q1⟩ => ?_)
    exact h2 pins s1 σ1 H1 _ _ Q I1 rr q1
/-- (a, b, ..) = a tuple of that length -/
def gTup (K : PySem.W.Frag) (n : Nat) (t : TGs) : TG := fun v σ H Q => ∃ a xs, v = .ref a ∧ SqT K H a xs ∧ xs.length = n ∧ t xs σ H Q
theorem pg_tup {es : List Expr} {k : Nat} {t : TGs} {n : Nat} (hc : X.calm = true) (h : PGs X es t)
    (hn : (assignEach es X.env).length = n := by rfl) (hst : (assignEach es X.env).findIdx? (·.1) = none := by rfl) : PG X (.Tuple es k pos) (gTup X.K n t) := by
  intro pins s σ H v u Q I r hw
  obtain ⟨a, xs, e1, hq, hl, hw⟩ := hw
  subst e1
  cases r
  obtain ⟨its, rv, ht, hz⟩ := I.tuple hq
  refine assign_Tuple_tuple (I.ok.hd hc) ht (by simp [hn, ← hl, rv.length]) hst fun h' hx => ?_
  have I1 : Inv X pins σ H { s with heap := h' } := I.kept (t' := s.toks) fun b o e => hx b o (Nat.ne_of_lt (Heap.lt_size e)) e
  exact h pins _ σ H xs _ Q I1 (by simpa using rv) hw
/-- o[i] = .. -/
def gSub (to ti : TE) (t : TSet) : TG := fun v σ H Q => to σ H fun o H1 => ti σ H1 fun i H2 => t o i v H2 fun H3 => Q σ H3
theorem pg_sub {o i : Expr} {to ti : TE} {t : TSet} (ho : PE X o to) (hi : PE X i ti) (hs : PSet X t)
    (ha : ∀ v, assign (.Subscript o i pos) X.env v = (do
      let ov ← holding [v] (eval o X.env)
      let iv ← holding [v, ov] (eval i X.env)
      standAt pos
      holding [v, ov, iv] (setItem ov iv v)
      release [v, ov, iv] []) := by intro _; rfl) : PG X (.Subscript o i pos) (gSub to ti t) := by
  intro pins s σ H v u Q I r h
  rw [ha]
  refine wpAny_bind (wpAny_holding (thn (ho pins s σ H _ I h) fun ov s1 ⟨x, H1, I1, r1, q1⟩ => ?_))
  refine wpAny_bind (wpAny_holding (thn (hi pins s1 σ H1 _ I1 q1) fun iv s2 ⟨y, H2, I2, r2, q2⟩ => ?_))
  refine wpAny_bind (wpAny_standAt (wpAny_bind (wpAny_holding (thn (hs pins s2 σ H2 x y v ov iv u _ I2 r1 r2 r q2) fun _ s3 ⟨H3, I3, q3⟩ => ?_))))
  exact wpAny_release ⟨σ, H3, I3, q3⟩
/-- target = value -/
def tAsg (te : TE) (g : TG) : TS := fun D σ H => te σ H fun x H1 => g x σ H1 D.nx
theorem ps_asg {tg e : Expr} {te : TE} {g : TG} (he : PE X e te) (hg : PG X tg g) (hs : swapsWithSole [tg] e pos.line X.env = pure false := by rfl) (hw : swappedStores [tg] e X.env = pure none := by rfl)
    (h1 : (assignEach [tg] X.env).map (·.2) = [assign tg X.env] := by rfl) : PS X (.Assign [tg] e pos) (tAsg te g) := by
  intro pins s σ H D I h
  refine wpAny_Assign_stores (thn (he pins s σ H _ I h) fun v s1 ⟨x, H1, I1, r1, q1⟩ => ?_) hs hw
  rw [h1]
  exact thn (hg pins s1 σ H1 x v _ I1 r1 q1) fun _ s2 q => q
/-- name = value -/
theorem ps_set {i : Nat} {x : Str} {e : Expr} {te : TE} {pos' : Pos} (hN : X.N.Nodup) (hi : X.N[i]? = some x) (hx : Loc X.env.scope x) (he : PE X e te) (hs : swapsWith e (some (.Name x pos')) pos.line X.env = pure false := by rfl) (hf : X.fn x = true ∨ X.env.scope.names.lookup x = some .local := by first | exact .inl rfl | exact .inr rfl | assumption) :
    PS X (.Assign [.Name x pos'] e pos) (tAsg te (gName i)) := by
  intro pins s σ H D I h
  refine wpAny_Assign_Name (thn (he pins s σ H _ I h) fun v s1 ⟨y, H1, I1, r1, q1⟩ => ?_) hs
  exact store_ok I1 hN hi hx r1 (fun s2 I2 => ⟨_, H1, I2, q1⟩) hf
end

/-! ### while -/
section
variable {X : Cx} {pos : Pos}
/-- the invariant W with its measure -/
def tWhile (c : TT) (tb : TS) : TS := fun D σ H => ∃ W : Nat → St → Hp → Prop, (∃ m, W m σ H) ∧ ∀ m σ H, W m σ H →
  c σ H fun b H1 => if b = true then ∃ N : St → Hp → Prop, (∀ σ' H', N σ' H' → ∃ m', m' < m ∧ W m' σ' H') ∧ tb { D with nx := N, ct := N, bk := D.nx } σ H1 else D.nx σ H1
theorem ps_while {c : Expr} {body : List Stmt} {tc : TT} {tb : TS} (hp : PassesOwn (model X.prog X.w) X.A X.env X.xe) (hc : PT X c tc) (hb : PSs X body tb) : PS X (.While c body [] pos) (tWhile tc tb) := by
  intro pins s σ H D I h
  obtain ⟨W, ⟨m0, w0⟩, turn⟩ := h
  refine wpAny_While (codeAny_whileLoop (fun n s' => ∃ σ' H', Inv X pins σ' H' s' ∧ W n σ' H') ?_ m0 ⟨σ, H, I, w0⟩)
  rintro n s1 ⟨σ1, H1, I1, w1⟩
  refine wpAny_passesOwn hp (thn (hc pins s1 σ1 H1 _ I1 (turn n σ1 H1 w1)) fun b s2 ⟨H2, I2, q2⟩ => ?_)
  cases b with
  | true =>
    obtain ⟨N, hN, q2⟩ := q2
    rw [if_pos rfl]
    refine wpAny_passesOwn hp (thn (hb pins s2 σ1 H2 _ I2 q2) fun f s3 q3 => ?_)
    cases f with
    | next =>
      obtain ⟨σ3, H3, I3, n3⟩ := q3
      obtain ⟨m', hm, w3⟩ := hN σ3 H3 n3
      exact ⟨m', hm, σ3, H3, I3, w3⟩
    | cont =>
      obtain ⟨σ3, H3, I3, n3⟩ := q3
      obtain ⟨m', hm, w3⟩ := hN σ3 H3 n3
      exact ⟨m', hm, σ3, H3, I3, w3⟩
    | brk => exact q3
    | ret v => exact q3
  | false =>
    rw [if_neg Bool.false_ne_true]
    exact wpAny_execs_nil ⟨σ1, H2, I2, q2⟩
end

/-! ### what a loop or a comprehension walks -/
/-- at turn i: it yields x (the heap may grow), or it stops -/
structure It where
  go : Nat → Hp → Prop
  yld : Nat → Hp → V → Hp → Prop
  stop : Nat → Hp → Prop
/-- the iterator's own objects may turn: they are not the frame's, not pinned, younger than the entry (or a comprehension's own) -/
def FpOk (X : Cx) (pins : List (Addr × Obj)) (H : Hp) (b : Addr) : Prop :=
  H b = none ∧ b ≠ X.env.locals ∧ b ∉ X.fs ∧ (b ∈ X.ex ∨ X.s₀.heap.objs.size ≤ b) ∧ (∀ x c, X.env.cells.lookup x = some c → c ≠ b) ∧ ∀ p ∈ X.pn ++ pins, p.1 ≠ b
theorem Inv.fpOk {X : Cx} {pins : List (Addr × Obj)} {σ : St} {H H' : Hp} {s : Shared} {b : Addr} (I : Inv X pins σ H s) (hb : s.heap.objs.size ≤ b) (hn : H' b = none) : FpOk X pins H' b := by
  refine ⟨hn, Nat.ne_of_gt (Nat.lt_of_lt_of_le I.lt hb), I.nofs hb, .inr (Nat.le_trans I.sz hb), fun x c e z => ?_, fun p hp z => ?_⟩
  · obtain ⟨v, q⟩ := I.cell x c e
    exact absurd (Nat.lt_of_lt_of_le q.lt (by rw [z]; exact hb)) (Nat.lt_irrefl _)
  · exact absurd (Nat.lt_of_lt_of_le (Heap.lt_size (I.pin p hp).1) (by rw [z]; exact hb)) (Nat.lt_irrefl _)
structure Turn (P : Program) (w : World) (K : PySem.W.Frag) (tg : Expr) (J : It) (fp : List Addr) (it : Addr) (tn : Nat → Heap → Prop) : Prop where
  mem : it ∈ fp
  obj : ∀ i h, tn i h → ∀ b ∈ fp, ∃ o, h.get? b = some o ∧ ∀ v, o.data ≠ .cell v
  keep : ∀ i h h', tn i h → (∀ b ∈ fp, ∀ o, h.get? b = some o → h'.get? b = some o) → tn i h'
  item : ∀ (X : Cx), X.prog = P → X.w = w → X.K = K → X.calm = true → ∀ (i : Nat) (pins : List (Addr × Obj)) (s : Shared) (σ : St) (H : Hp) (E : Value → Shared → Prop), Inv X pins σ H s → (∀ b ∈ fp, FpOk X pins H b) → tn i s.heap → J.go i H →
    wpAny (model P w) X.A (pyNext (.ref it)) (fun r s1 => ∃ u, r = some u ∧
      wpAny (model P w) X.A (letOwnedTupleGo tg (.ref it) u) (fun _ s2 => ∃ x H', Inv X pins σ H' s2 ∧ RelV x u ∧ J.yld i H x H' ∧ tn (i + 1) s2.heap ∧ ∀ b ∈ fp, H' b = none) E s1) E s
  done : ∀ (X : Cx), X.prog = P → X.w = w → X.K = K → X.calm = true → ∀ (i : Nat) (pins : List (Addr × Obj)) (s : Shared) (σ : St) (H : Hp) (E : Value → Shared → Prop), Inv X pins σ H s → (∀ b ∈ fp, FpOk X pins H b) → tn i s.heap → J.stop i H →
    wpAny (model P w) X.A (pyNext (.ref it)) (fun r s1 => r = none ∧ Inv X pins σ H s1) E s
  self : ∀ (A : Around) (i : Nat) (s : Shared) (Q : Value → Shared → Prop) (E : Value → Shared → Prop), tn i s.heap → Q (.ref it) s → wpAny (model P w) A (pyIter (.ref it)) Q E s
abbrev TI := St → Hp → (It → Hp → Prop) → Prop
/-- an iterator has come -/
def PIE (X : Cx) (pins : List (Addr × Obj)) (σ : St) (tg : Expr) (R : It → Hp → Prop) (itv : Value) (s2 : Shared) : Prop :=
  ∃ (it : Addr) (fp : List Addr) (tn : Nat → Heap → Prop) (J : It) (H' : Hp), itv = .ref it ∧ Inv X pins σ H' s2 ∧ Turn X.prog X.w X.K tg J fp it tn ∧ tn 0 s2.heap ∧ (∀ b ∈ fp, FpOk X pins H' b) ∧ R J H'
def PI (X : Cx) (tg iter : Expr) (wi : TI) : Prop :=
  ∀ (pins : List (Addr × Obj)) (s : Shared) (σ : St) (H : Hp) (R : It → Hp → Prop), Inv X pins σ H s → wi σ H R →
    wpAny (model X.prog X.w) X.A (eval iter X.env) (fun v s1 => wpAny (model X.prog X.w) X.A (pyIter v) (PIE X pins σ tg R) X.xe s1) X.xe s

/-- the step ahead of the store is nothing for an iterator that keeps no tuple -/
theorem go_of {M : Model} {A : Around} {E : Value → Shared → Prop} {s : Shared} {tg : Expr} {it : Addr} {u : Value} {o : Obj} {n : String} {vs : Array Value} {Q : Unit → Shared → Prop} (ho : s.heap.get? it = some o) (hc : o.cls = .type n) (hd : o.data = .fields vs)
    (hn : ["enumerate", "zip", "dict_itemiterator", "dict_reverseitemiterator", "odict_iterator", "itertools.zip_longest", "itertools.pairwise"].contains n = false) (hQ : Q () s) : wpAny M A (letOwnedTupleGo tg (.ref it) u) Q E s := by
  unfold letOwnedTupleGo
  cases tg <;> first
    | exact wpAny_pure hQ
    | (cases u <;> first
        | exact wpAny_pure hQ
        | (refine wpAny_bind (wpAny_load ho ?_)
           rw [hc, hd]
           show wpAny M A (if (["enumerate", "zip", "dict_itemiterator", "dict_reverseitemiterator", "odict_iterator", "itertools.zip_longest", "itertools.pairwise"].contains n && vs[0]? == some (rawInt _)) = true then _ else _) Q E s
           rw [if_neg (by intro h; rw [hn, Bool.false_and] at h; cases h)]
           exact wpAny_pure hQ))

/-- the list at a, as it stands at each turn (a loop may append to it) -/
def Itl (K : PySem.W.Frag) (a : Addr) : It :=
  ⟨fun i H => ∃ xs x, SqL K H a xs ∧ xs[i]? = some x, fun i H x H' => H' = H ∧ ∀ xs, SqL K H a xs → xs[i]? = some x, fun i H => ∃ xs, SqL K H a xs ∧ xs.length ≤ i⟩
def Itt (K : PySem.W.Frag) (a : Addr) : It :=
  ⟨fun i H => ∃ xs x, SqT K H a xs ∧ xs[i]? = some x, fun i H x H' => H' = H ∧ ∀ xs, SqT K H a xs → xs[i]? = some x, fun i H => ∃ xs, SqT K H a xs ∧ xs.length ≤ i⟩
/-- lo, lo + 1, .. (n of them) -/
def Itr (lo : Int) (n : Nat) : It := ⟨fun i _ => i < n, fun i H x H' => H' = H ∧ x = .int (lo + i), fun i _ => n ≤ i⟩
theorem turn_list {P : Program} {w : World} {K : PySem.W.Frag} {tg : Expr} (a it : Addr) : Turn P w K tg (Itl K a) [it] it (fun i h => h.IsListIter it a i) where
  mem := by simp
  obj := fun i h st b hb => by
    have e : b = it := by simpa using hb
    subst e
    obtain ⟨o, e, c, d⟩ := st
    exact ⟨o, e, fun v z => by rw [d] at z; cases z⟩
  keep := fun i h h' st k => st.at fun o e => k it (by simp) o e
  item := by
    intro X hP hw hK hc i pins s σ H E I hf st hg
    subst hP hw hK
    obtain ⟨xs, x, hq, hx⟩ := hg
    obtain ⟨its, rv, p, hz⟩ := I.list hq
    obtain ⟨u, hu, ru⟩ := rv.get hx
    obtain ⟨f0, f1, f2, f3, f4, f5⟩ := hf it (by simp)
    refine wpAny_pyNext_list_item st p.isList (x := u) (by simpa using hu) fun h' st' sb => ?_
    have I1 : Inv X pins σ H { s with heap := h' } := I.turned (t' := s.toks) (fun b o hb e => (sb.2 b hb).trans e) f0 f1 f3 f4 f5
    obtain ⟨o, e, c, d⟩ := id st'
    exact ⟨u, rfl, go_of (s := { s with heap := h' }) e c d (by decide) ⟨x, H, I1, ru, ⟨rfl, fun ys hy => by rw [I.list_inj hy hq]; exact hx⟩, st', fun b hb => (hf b hb).1⟩⟩
  done := by
    intro X hP hw hK hc i pins s σ H E I hf st hg
    subst hP hw hK
    obtain ⟨xs, hq, hx⟩ := hg
    obtain ⟨its, rv, p, hz⟩ := I.list hq
    obtain ⟨f0, f1, f2, f3, f4, f5⟩ := hf it (by simp)
    have hl := rv.length
    exact wpAny_pyNext_list_end (I.ok.hd hc) st p.isList (by simp; omega) fun h' eb => ⟨rfl, I.turned (t' := s.toks) (fun b o hb e => eb b o hb e) f0 f1 f3 f4 f5⟩
  self := fun _ _ _ _ _ st h => wpAny_pyIter_listiter st h
theorem turn_tuple {P : Program} {w : World} {K : PySem.W.Frag} {tg : Expr} (a it : Addr) : Turn P w K tg (Itt K a) [it] it (fun i h => h.IsTupleIter it a i) where
  mem := by simp
  obj := fun i h st b hb => by
    have e : b = it := by simpa using hb
    subst e
    obtain ⟨o, e, c, d⟩ := st
    exact ⟨o, e, fun v z => by rw [d] at z; cases z⟩
  keep := fun i h h' st k => st.at fun o e => k it (by simp) o e
  item := by
    intro X hP hw hK hc i pins s σ H E I hf st hg
    subst hP hw hK
    obtain ⟨xs, x, hq, hx⟩ := hg
    obtain ⟨its, rv, p, hz⟩ := I.tuple hq
    obtain ⟨u, hu, ru⟩ := rv.get hx
    obtain ⟨f0, f1, f2, f3, f4, f5⟩ := hf it (by simp)
    refine wpAny_pyNext_tuple_item st (show s.heap.IsTuple a its.toArray from p) (x := u) (by simpa using hu) fun h' st' sb => ?_
    have I1 : Inv X pins σ H { s with heap := h' } := I.turned (t' := s.toks) (fun b o hb e => (sb.2 b hb).trans e) f0 f1 f3 f4 f5
    obtain ⟨o, e, c, d⟩ := id st'
    exact ⟨u, rfl, go_of (s := { s with heap := h' }) e c d (by decide) ⟨x, H, I1, ru, ⟨rfl, fun ys hy => by rw [I.tuple_inj hy hq]; exact hx⟩, st', fun b hb => (hf b hb).1⟩⟩
  done := by
    intro X hP hw hK hc i pins s σ H E I hf st hg
    subst hP hw hK
    obtain ⟨xs, hq, hx⟩ := hg
    obtain ⟨its, rv, p, hz⟩ := I.tuple hq
    obtain ⟨f0, f1, f2, f3, f4, f5⟩ := hf it (by simp)
    have hl := rv.length
    exact wpAny_pyNext_tuple_end (I.ok.hd hc) st (show s.heap.IsTuple a its.toArray from p) (by simp; omega) fun h' eb => ⟨rfl, I.turned (t' := s.toks) (fun b o hb e => eb b o hb e) f0 f1 f3 f4 f5⟩
  self := fun _ _ _ _ _ st h => wpAny_pyIter_tupleiter st h
theorem turn_range {P : Program} {w : World} {K : PySem.W.Frag} {tg : Expr} (it : Addr) (lo : Int) (n : Nat) : Turn P w K tg (Itr lo n) [it] it (fun i h => IsRangeIter h it (lo + (i : Nat) * 1) ((n : Int) - (i : Nat)) 1) where
  mem := by simp
  obj := fun i h st b hb => by
    have e : b = it := by simpa using hb
    subst e
    exact ⟨_, st, fun v z => by
      have z' : Data.fields _ = Data.cell v := z
      cases z'⟩
  keep := fun i h h' st k => k it (by simp) _ st
  item := by
    intro X hP hw hK hc i pins s σ H E I hf st hg
    subst hP hw hK
    obtain ⟨f0, f1, f2, f3, f4, f5⟩ := hf it (by simp)
    have W := Walks.range (prog := X.prog) (w := X.w) (I.ok.hd hc) it lo 1 n
    refine W.item i s _ _ hg st fun v h' tk hv st' kk => ?_
    obtain ⟨t, rfl⟩ := hv
    have I1 : Inv X pins σ H { s with heap := h', toks := tk } := I.turned (fun b o hb e => kk b o (by simpa using hb) e) f0 f1 f3 f4 f5
    refine ⟨_, rfl, go_of (s := { s with heap := h', toks := tk }) (n := "range_iterator") st' rfl rfl (by decide) ⟨.int (lo + i), H, I1, ⟨t, ?_⟩, ⟨rfl, rfl⟩, st', fun b hb => (hf b hb).1⟩⟩
    rw [Int.mul_one]
  done := by
    intro X hP hw hK hc i pins s σ H E I hf st hg
    subst hP hw hK
    obtain ⟨f0, f1, f2, f3, f4, f5⟩ := hf it (by simp)
    exact wpAny_pyNext_range_end (I.ok.hd hc) st (by have : n ≤ i := hg; omega) fun h' eb => ⟨rfl, I.turned (t' := s.toks) (fun b o hb e => eb b o hb e) f0 f1 f3 f4 f5⟩
  self := fun _ _ _ _ _ st h => wpAny_pyIter_rangeiter st h
end L2

namespace L2
open PySem PySem.Spec PyProof.Rows
section
variable {X : Cx} {tg : Expr}
def iList (K : PySem.W.Frag) (tl : TE) : TI := fun σ H R => tl σ H fun x H1 => ∃ a, x = .ref a ∧ (∃ xs, SqL K H1 a xs) ∧ R (Itl K a) H1
def iTup (K : PySem.W.Frag) (tl : TE) : TI := fun σ H R => tl σ H fun x H1 => ∃ a, x = .ref a ∧ (∃ xs, SqT K H1 a xs) ∧ R (Itt K a) H1
theorem pi_list {l : Expr} {tl : TE} (hl : PE X l tl) : PI X tg l (iList X.K tl) := by
  intro pins s σ H R I h
  refine thn (hl pins s σ H _ I h) fun v s1 ⟨x, H1, I1, r1, q1⟩ => ?_
  obtain ⟨a, e, ⟨xs, hq⟩, q⟩ := q1
  subst e
  cases r1
  obtain ⟨its, rv, p, hz⟩ := I1.list hq
  refine wpAny_pyIter_list p.isList ?_
  refine ⟨s1.heap.objs.size, [s1.heap.objs.size], _, _, H1, rfl, I1.kept (t' := s1.toks) fun b o e => Heap.get?_push_of_some _ e, turn_list a _, ⟨_, Heap.get?_push_size _ rfl, rfl, rfl⟩, fun b hb => ?_, q⟩
  have e : b = s1.heap.objs.size := by simpa using hb
  subst e
  exact I1.fpOk (Nat.le_refl _) (I1.hok.fresh (Nat.le_refl _))
theorem pi_tup {l : Expr} {tl : TE} (hl : PE X l tl) : PI X tg l (iTup X.K tl) := by
  intro pins s σ H R I h
  refine thn (hl pins s σ H _ I h) fun v s1 ⟨x, H1, I1, r1, q1⟩ => ?_
  obtain ⟨a, e, ⟨xs, hq⟩, q⟩ := q1
  subst e
  cases r1
  obtain ⟨its, rv, p, hz⟩ := I1.tuple hq
  refine wpAny_pyIter_tuple (show s1.heap.IsTuple a its.toArray from p) ?_
  refine ⟨s1.heap.objs.size, [s1.heap.objs.size], _, _, H1, rfl, I1.kept (t' := s1.toks) fun b o e => Heap.get?_push_of_some _ e, turn_tuple a _, ⟨_, Heap.get?_push_size _ rfl, rfl, rfl⟩, fun b hb => ?_, q⟩
  have e : b = s1.heap.objs.size := by simpa using hb
  subst e
  exact I1.fpOk (Nat.le_refl _) (I1.hok.fresh (Nat.le_refl _))
/-- a range object just made, walked -/
theorem range_it {pins : List (Addr × Obj)} {σ : St} {H : Hp} {s : Shared} {R : It → Hp → Prop} {E : Value → Shared → Prop} {lo hi : Int} {t u v : Tok} {tk : Nat} (I : Inv X pins σ H s) (h1 : -(2 ^ 62) ≤ lo) (h2 : lo < 2 ^ 62) (h3 : -(2 ^ 62) ≤ hi) (h4 : hi < 2 ^ 62)
    (q : R (Itr lo (hi - lo).toNat) H) : wpAny (model X.prog X.w) X.A (pyIter (.ref s.heap.objs.size)) (PIE X pins σ tg R) E { s with heap := s.heap.push { cls := .type "range", data := .fields #[.int lo t, .int hi u, .int 1 v] }, toks := tk } := by
  refine wpAny_pyIter_range (IsRange.new ..) (small_one h1 h2 h3 h4) ?_
  have I1 : Inv X pins σ H { s with heap := s.heap.push { cls := .type "range", data := .fields #[.int lo t, .int hi u, .int 1 v] }, toks := tk } := I.kept fun b o e => Heap.get?_push_of_some _ e
  refine ⟨(s.heap.push { cls := .type "range", data := .fields #[.int lo t, .int hi u, .int 1 v] }).objs.size, [(s.heap.push { cls := .type "range", data := .fields #[.int lo t, .int hi u, .int 1 v] }).objs.size], _, _, H, rfl,
    I1.kept (t' := tk) fun b o e => Heap.get?_push_of_some _ e, turn_range _ lo (hi - lo).toNat, ?_, fun b hb => ?_, q⟩
  · have e1 : lo + ((0 : Nat) : Int) * 1 = lo := by simp
    have e2 : (((hi - lo).toNat : Nat) : Int) - ((0 : Nat) : Int) = Builtin.Range.rangeSize lo hi 1 := by rw [rangeSize_one]; split <;> omega
    show IsRangeIter _ _ (lo + ((0 : Nat) : Int) * 1) ((((hi - lo).toNat : Nat) : Int) - ((0 : Nat) : Int)) 1
    rw [e1, e2]
    exact Heap.get?_push_size _ rfl
  · have e : b = (s.heap.push { cls := .type "range", data := .fields #[.int lo t, .int hi u, .int 1 v] }).objs.size := by simpa using hb
    subst e
    exact I1.fpOk (Nat.le_refl _) (I1.hok.fresh (Nat.le_refl _))
def iRng1 (ta : TA) : TI := fun σ H R => ta σ H fun vs H1 => ∃ j : Int, vs = [.int j] ∧ -(2 ^ 62) ≤ j ∧ j < 2 ^ 62 ∧ R (Itr 0 j.toNat) H1
theorem pi_range1 {a : Expr} {ta : TA} {p pos : Pos} (hg : Gl X "range") (hm : X.mg "range" = none) (ha : PA X [a] ta) (hs : starEach [a] X.env = [(false, eval a X.env)] := by rfl) : PI X tg (.Call (.Name "range" p) [a] [] pos) (iRng1 ta) := by
  intro pins s σ H R I h
  refine Call_ (ld_blt I hg hm boot_range (PyProof.Rows.callWith_type1 (thn (ha pos pins s σ H _ I h) fun us s1 ⟨vs, H1, I1, r1, q1⟩ => ?_) hs rfl))
  obtain ⟨j, e, q1, q2, q⟩ := q1
  subst e
  cases r1 with
  | cons r rr =>
    cases rr
    obtain ⟨t, rfl⟩ := r
    exact call_range_1 (range_it I1 (by omega) (by omega) q1 q2 (by simpa using q))

/-! ### for -/
/-- W: the invariant by the turn and a measure; N: what the body is to reach -/
def tFor (wi : TI) (g : TG) (tb : TS) : TS := fun D σ H => wi σ H fun J H1 => ∃ W : Nat → Nat → St → Hp → Prop, (∃ m, W 0 m σ H1) ∧ ∀ i m σ H, W i m σ H →
  (J.stop i H ∧ D.nx σ H) ∨ (J.go i H ∧ ∃ N : St → Hp → Prop, (∀ σ' H', N σ' H' → ∃ m', m' < m ∧ W (i + 1) m' σ' H') ∧ ∀ x H', J.yld i H x H' → g x σ H' fun σ2 H2 => tb { D with nx := N, ct := N, bk := D.nx } σ2 H2)
/-- the records at fp as they stand -/
def pinsAt (fp : List Addr) (h : Heap) : List (Addr × Obj) := fp.filterMap fun b => (h.get? b).map fun o => (b, o)
theorem mem_pinsAt {fp : List Addr} {h : Heap} {b : Addr} {o : Obj} (hb : b ∈ fp) (e : h.get? b = some o) : (b, o) ∈ pinsAt fp h := List.mem_filterMap.mpr ⟨b, hb, by rw [e]; rfl⟩
theorem of_pinsAt {fp : List Addr} {h : Heap} {p : Addr × Obj} (hp : p ∈ pinsAt fp h) : p.1 ∈ fp ∧ h.get? p.1 = some p.2 := by
  obtain ⟨b, hb, e⟩ := List.mem_filterMap.mp hp
  cases q : h.get? b with
  | none => rw [q] at e; cases e
  | some o =>
    rw [q] at e
    have e' : (b, o) = p := Option.some.inj e
    subst e'
    exact ⟨hb, q⟩
theorem Inv.pinned {pins : List (Addr × Obj)} {σ : St} {H : Hp} {s : Shared} {fp : List Addr} (I : Inv X pins σ H s) (hf : ∀ b ∈ fp, FpOk X pins H b) (ho : ∀ b ∈ fp, ∃ o, s.heap.get? b = some o ∧ ∀ v, o.data ≠ .cell v) : Inv X (pins ++ pinsAt fp s.heap) σ H s :=
  I.pins_of fun p hp => (List.mem_append.mp hp).elim (fun z => I.pin p (List.mem_append_right _ z)) fun z => by
    obtain ⟨hb, e⟩ := of_pinsAt z
    obtain ⟨f0, f1, f2, _⟩ := hf p.1 hb
    obtain ⟨o, e', d⟩ := ho p.1 hb
    rw [e] at e'; cases e'
    exact ⟨e, f0, f1, f2, d⟩
theorem Inv.unpinned {pins pl : List (Addr × Obj)} {σ : St} {H : Hp} {s : Shared} (I : Inv X (pins ++ pl) σ H s) : Inv X pins σ H s := I.pins_of fun p hp => I.pin p (List.mem_append_right _ (List.mem_append_left _ hp))
theorem ps_for {iter : Expr} {body : List Stmt} {wi : TI} {g : TG} {tb : TS} {pos : Pos} (hp : PassesOwn (model X.prog X.w) X.A X.env X.xe) (hc : X.calm = true) (hi : PI X tg iter wi) (hg : PG X tg g) (hb : PSs X body tb)
    (hs : ∀ x, foldedSetIterable iter X.env x = pure x := by intro _; rfl) : PS X (.For tg iter body [] pos) (tFor wi g tb) := by
  intro pins s σ H D I h
  refine wpAny_For (thn (hi pins s σ H _ I h) fun v s1 h1 => thn h1 fun itv s2 h2 => ?_) hs
  obtain ⟨it, fp, tn, J, H2, e, I2, T, st2, f2, W, ⟨m0, w0⟩, turn⟩ := h2
  subst e
  -- what stays true of the iterator's objects through the loop
  have stat : ∀ {H' : Hp}, (∀ b ∈ fp, H' b = none) → ∀ b ∈ fp, FpOk X pins H' b := fun hn b hb => ⟨hn b hb, (f2 b hb).2⟩
  refine codeAny_forLoop_any (fun n s' => ∃ i σ' H', Inv X pins σ' H' s' ∧ tn i s'.heap ∧ (∀ b ∈ fp, H' b = none) ∧ W i n σ' H') ?_ m0 ⟨0, σ, H2, I2, st2, fun b hb => (f2 b hb).1, w0⟩
  rintro n s3 ⟨i, σ3, H3, I3, st3, fr3, w3⟩
  rcases turn i n σ3 H3 w3 with ⟨stop, qn⟩ | ⟨go, N, hN, step⟩
  · refine wpAny_passesOwn hp (thn (T.done X rfl rfl rfl hc i pins s3 σ3 H3 X.xe I3 (stat fr3) st3 stop) fun r s4 ⟨hr, I4⟩ => ?_)
    subst hr
    exact wpAny_execs_nil ⟨σ3, H3, I4, qn⟩
  · refine wpAny_passesOwn hp (thn (T.item X rfl rfl rfl hc i pins s3 σ3 H3 X.xe I3 (stat fr3) st3 go) fun r s4 ⟨u, hr, h4⟩ => ?_)
    subst hr
    refine wpAny_passesOwn hp (thn h4 fun _ s5 ⟨x, H5, I5, r5, y5, st5, fr5⟩ => ?_)
    have I5' := I5.pinned (stat fr5) (T.obj _ _ st5)
    refine wpAny_passesOwn hp (thn (hg _ s5 σ3 H5 x u _ I5' r5 (step x H5 y5)) fun _ s6 ⟨σ6, H6, I6, q6⟩ => ?_)
    refine wpAny_passesOwn hp (thn (hb _ s6 σ6 H6 _ I6 q6) fun f s7 q7 => ?_)
    have again : ∀ {σ7 : St} {H7 : Hp}, Inv X (pins ++ pinsAt fp s5.heap) σ7 H7 s7 → N σ7 H7 → ∃ m, m < n ∧ ∃ i σ' H', Inv X pins σ' H' s7 ∧ tn i s7.heap ∧ (∀ b ∈ fp, H' b = none) ∧ W i m σ' H' := fun {σ7 H7} I7 n7 => by
      obtain ⟨m', hm, w7⟩ := hN σ7 H7 n7
      refine ⟨m', hm, i + 1, σ7, H7, I7.unpinned, T.keep _ _ _ st5 fun b hb o e => (I7.pin (b, o) (List.mem_append_right _ (List.mem_append_right _ (mem_pinsAt hb e)))).1, fun b hb => ?_, w7⟩
      obtain ⟨o, e, d⟩ := T.obj _ _ st5 b hb
      exact (I7.pin (b, o) (List.mem_append_right _ (List.mem_append_right _ (mem_pinsAt hb e)))).2.1
    cases f with
    | next => obtain ⟨σ7, H7, I7, n7⟩ := q7; exact again I7 n7
    | cont => obtain ⟨σ7, H7, I7, n7⟩ := q7; exact again I7 n7
    | brk => obtain ⟨σ7, H7, I7, q7⟩ := q7; exact ⟨σ7, H7, I7.unpinned, q7⟩
    | ret v => obtain ⟨x7, σ7, H7, I7, r7, q7⟩ := q7; exact ⟨x7, σ7, H7, I7.unpinned, r7, q7⟩
end

/-! ### the forms one uses -/
/-- over a list that the body leaves as it is -/
theorem for_list {K : PySem.W.Frag} {a : Addr} {xs : List V} {g : TG} {tb : TS} {D : Ends} {σ : St} {H : Hp} (Pv : Nat → St → Hp → Prop) (h0 : Pv 0 σ H) (hl : ∀ i σ H, i ≤ xs.length → Pv i σ H → SqL K H a xs)
    (hs : ∀ i x σ H, xs[i]? = some x → Pv i σ H → g x σ H fun σ2 H2 => tb { D with nx := Pv (i + 1), ct := Pv (i + 1), bk := D.nx } σ2 H2) (hd : ∀ σ H, Pv xs.length σ H → D.nx σ H) :
    ∃ W : Nat → Nat → St → Hp → Prop, (∃ m, W 0 m σ H) ∧ ∀ i m σ H, W i m σ H →
      ((Itl K a).stop i H ∧ D.nx σ H) ∨ ((Itl K a).go i H ∧ ∃ N : St → Hp → Prop, (∀ σ' H', N σ' H' → ∃ m', m' < m ∧ W (i + 1) m' σ' H') ∧ ∀ x H', (Itl K a).yld i H x H' → g x σ H' fun σ2 H2 => tb { D with nx := N, ct := N, bk := D.nx } σ2 H2) := by
  refine ⟨fun i m σ H => m = xs.length - i ∧ i ≤ xs.length ∧ Pv i σ H, ⟨xs.length, by simp, Nat.zero_le _, h0⟩, ?_⟩
  rintro i m σ H ⟨rfl, hi, p⟩
  have q := hl i σ H hi p
  by_cases hlt : i < xs.length
  · refine .inr ⟨⟨xs, xs[i], q, by simp [hlt]⟩, Pv (i + 1), fun σ' H' p' => ⟨xs.length - (i + 1), by omega, rfl, hlt, p'⟩, fun x H' y => ?_⟩
    obtain ⟨e, y⟩ := y
    subst e
    exact hs i x σ _ (y xs q) p
  · have e : i = xs.length := by omega
    subst e
    exact .inl ⟨⟨xs, q, Nat.le_refl _⟩, hd σ H p⟩
theorem for_range {lo : Int} {n : Nat} {g : TG} {tb : TS} {D : Ends} {σ : St} {H : Hp} (Pv : Nat → St → Hp → Prop) (h0 : Pv 0 σ H)
    (hs : ∀ i σ H, i < n → Pv i σ H → g (.int (lo + i)) σ H fun σ2 H2 => tb { D with nx := Pv (i + 1), ct := Pv (i + 1), bk := D.nx } σ2 H2) (hd : ∀ σ H, Pv n σ H → D.nx σ H) :
    ∃ W : Nat → Nat → St → Hp → Prop, (∃ m, W 0 m σ H) ∧ ∀ i m σ H, W i m σ H →
      ((Itr lo n).stop i H ∧ D.nx σ H) ∨ ((Itr lo n).go i H ∧ ∃ N : St → Hp → Prop, (∀ σ' H', N σ' H' → ∃ m', m' < m ∧ W (i + 1) m' σ' H') ∧ ∀ x H', (Itr lo n).yld i H x H' → g x σ H' fun σ2 H2 => tb { D with nx := N, ct := N, bk := D.nx } σ2 H2) := by
  refine ⟨fun i m σ H => m = n - i ∧ i ≤ n ∧ Pv i σ H, ⟨n, by simp, Nat.zero_le _, h0⟩, ?_⟩
  rintro i m σ H ⟨rfl, hi, p⟩
  by_cases hlt : i < n
  · refine .inr ⟨hlt, Pv (i + 1), fun σ' H' p' => ⟨n - (i + 1), by omega, rfl, hlt, p'⟩, fun x H' y => ?_⟩
    obtain ⟨e, y⟩ := y
    subst e y
    exact hs i σ _ hlt p
  · have e : i = n := by omega
    subst e
    exact .inl ⟨Nat.le_refl _, hd σ H p⟩
/-- while, by a word and a measure of the state -/
theorem while_by {c : TT} {tb : TS} {D : Ends} {σ : St} {H : Hp} (Pv : St → Hp → Prop) (μ : St → Hp → Nat) (h0 : Pv σ H)
    (hs : ∀ σ H, Pv σ H → c σ H fun b H1 => if b = true then tb { D with nx := fun σ' H' => Pv σ' H' ∧ μ σ' H' < μ σ H, ct := fun σ' H' => Pv σ' H' ∧ μ σ' H' < μ σ H, bk := D.nx } σ H1 else D.nx σ H1)
    (mono : ∀ σ H Q Q', (∀ b H1, Q b H1 → Q' b H1) → c σ H Q → c σ H Q') : tWhile c tb D σ H := by
  refine ⟨fun m σ H => m = μ σ H ∧ Pv σ H, ⟨_, rfl, h0⟩, ?_⟩
  rintro m σ H ⟨rfl, p⟩
  refine mono σ H _ _ (fun b H1 q => ?_) (hs σ H p)
  cases b with
  | true => exact ⟨_, fun σ' H' ⟨p', l⟩ => ⟨_, l, rfl, p'⟩, q⟩
  | false => exact q
end L2

namespace L2
open PySem PySem.Spec PyProof.Rows

abbrev R2 := V → V → Hp → VK → Prop
/-- a two-place operation on values: f is binaryOp op, inplaceOp op or compareOp op -/
def OpR (X : Cx) (f : Value → Value → Sem Value) (r : R2) : Prop :=
  ∀ (pins : List (Addr × Obj)) (s : Shared) (σ : St) (H : Hp) (x y : V) (v u : Value) (Q : VK), Inv X pins σ H s → RelV x v → RelV y u → r x y H Q →
    wpAny (model X.prog X.w) X.A (f v u) (EP X pins σ Q) X.xe s
/-- a one-place operation -/
def UnR (X : Cx) (f : Value → Sem Value) (r : V → Hp → VK → Prop) : Prop :=
  ∀ (pins : List (Addr × Obj)) (s : Shared) (σ : St) (H : Hp) (x : V) (v : Value) (Q : VK), Inv X pins σ H s → RelV x v → r x H Q →
    wpAny (model X.prog X.w) X.A (f v) (EP X pins σ Q) X.xe s
/-- a call of a value that is known (a builtin, a type) with values -/
def CallR (X : Cx) (f : Value) (r : List V → Hp → VK → Prop) : Prop :=
  ∀ (pins : List (Addr × Obj)) (s : Shared) (σ : St) (H : Hp) (xs : List V) (us : List Value) (Q : VK), Inv X pins σ H s → Vals xs us → r xs H Q →
    wpAny (model X.prog X.w) X.A (call f us) (EP X pins σ Q) X.xe s
/-- a value's truth -/
def TruR (X : Cx) (r : V → Hp → (Bool → Hp → Prop) → Prop) : Prop :=
  ∀ (pins : List (Addr × Obj)) (s : Shared) (σ : St) (H : Hp) (x : V) (v : Value) (Q : Bool → Hp → Prop), Inv X pins σ H s → RelV x v → r x H Q →
    wpAny (model X.prog X.w) X.A (truthy v) (TP X pins σ Q) X.xe s

def tOp (r : R2) (ta tb : TE) : TE := fun σ H Q => ta σ H fun x H1 => tb σ H1 fun y H2 => r x y H2 Q
def tUn (r : V → Hp → VK → Prop) (ta : TE) : TE := fun σ H Q => ta σ H fun x H1 => r x H1 Q
/-- ints in, under C, and a value out -/
def rI (C : Int → Int → Prop) (g : Int → Int → V) : R2 := fun x y H Q => ∃ i j, x = .int i ∧ y = .int j ∧ C i j ∧ Q (g i j) H
def rI0 (g : Int → Int → V) : R2 := fun x y H Q => ∃ i j, x = .int i ∧ y = .int j ∧ Q (g i j) H
def rU (g : Int → V) : V → Hp → VK → Prop := fun x H Q => ∃ i, x = .int i ∧ Q (g i) H

section
variable {X : Cx} {a b c : Expr} {ta tb tc : TE} {pos : Pos}

theorem binT (ha : PE X a ta) (hb : PE X b tb) {pins : List (Addr × Obj)} {s : Shared} {σ : St} {H : Hp} {R : V → V → Hp → Prop} (I : Inv X pins σ H s)
    (h : ta σ H fun x H1 => tb σ H1 fun y H2 => R x y H2) {Q : Value → Shared → Prop} {f : Value → Value → Sem Value}
    (hf : ∀ v u s2 x y H2, Inv X pins σ H2 s2 → RelV x v → RelV y u → R x y H2 → wpAny (model X.prog X.w) X.A (f v u) Q X.xe s2) :
    wpAny (model X.prog X.w) X.A (eval a X.env) (fun v s₁ => wpAny (model X.prog X.w) X.A (eval b X.env) (fun u s₂ => wpAny (model X.prog X.w) X.A (f v u) Q X.xe s₂) X.xe s₁) X.xe s := by
  refine thn (ha pins s σ H _ I h) fun v s1 ⟨x, H1, I1, r1, q1⟩ => ?_
  refine thn (hb pins s1 σ H1 _ I1 q1) fun u s2 ⟨y, H2, I2, r2, q2⟩ => ?_
  exact hf v u s2 x y H2 I2 r1 r2 q2

theorem pe_op {op : Operator} {r : R2} (ho : OpR X (binaryOp op) r) (ha : PE X a ta) (hb : PE X b tb) : PE X (.BinOp a op b pos) (tOp r ta tb) := by
  intro pins s σ H Q I h
  exact wpAny_BinOp (binT ha hb I h fun v u s2 x y H2 I2 rx ry q => ho pins s2 σ H2 x y v u Q I2 rx ry q)
theorem pe_un {op : UnaryOp} {r : V → Hp → VK → Prop} (ho : UnR X (unaryOp op) r) (ha : PE X a ta) : PE X (.UnaryOp op a pos) (tUn r ta) := by
  intro pins s σ H Q I h
  exact UnaryOp_ (thn (ha pins s σ H _ I h) fun v s1 ⟨x, H1, I1, r1, q1⟩ => ho pins s1 σ H1 x v Q I1 r1 q1)

/-! ### ints -/
theorem opI {f : Value → Value → Sem Value} {C : Int → Int → Prop} {g : Int → Int → Int}
    (rule : ∀ (i j : Int) (t u : Tok) (s : Shared) (Q : Value → Shared → Prop) (E : Value → Shared → Prop), C i j → Q (.int (g i j) s.toks) { s with toks := s.toks + 1 } → wpAny (model X.prog X.w) X.A (f (.int i t) (.int j u)) Q E s) :
    OpR X f (rI C fun i j => .int (g i j)) := by
  intro pins s σ H x y v u Q I rx ry h
  obtain ⟨i, j, rfl, rfl, hc, q⟩ := h
  obtain ⟨t, rfl⟩ := rx
  obtain ⟨t', rfl⟩ := ry
  exact rule i j t t' s _ _ hc ⟨.int (g i j), H, I.tok _, ⟨_, rfl⟩, q⟩
theorem opI0 {f : Value → Value → Sem Value} {g : Int → Int → Int}
    (rule : ∀ (i j : Int) (t u : Tok) (s : Shared) (Q : Value → Shared → Prop) (E : Value → Shared → Prop), Q (.int (g i j) s.toks) { s with toks := s.toks + 1 } → wpAny (model X.prog X.w) X.A (f (.int i t) (.int j u)) Q E s) :
    OpR X f (rI0 fun i j => .int (g i j)) := by
  intro pins s σ H x y v u Q I rx ry h
  obtain ⟨i, j, rfl, rfl, q⟩ := h
  obtain ⟨t, rfl⟩ := rx
  obtain ⟨t', rfl⟩ := ry
  exact rule i j t t' s _ _ ⟨.int (g i j), H, I.tok _, ⟨_, rfl⟩, q⟩
theorem opB0 {f : Value → Value → Sem Value} {g : Int → Int → Bool}
    (rule : ∀ (i j : Int) (t u : Tok) (s : Shared) (Q : Value → Shared → Prop) (E : Value → Shared → Prop), Q (.bool (g i j)) s → wpAny (model X.prog X.w) X.A (f (.int i t) (.int j u)) Q E s) :
    OpR X f (rI0 fun i j => .bl (g i j)) := by
  intro pins s σ H x y v u Q I rx ry h
  obtain ⟨i, j, rfl, rfl, q⟩ := h
  obtain ⟨t, rfl⟩ := rx
  obtain ⟨t', rfl⟩ := ry
  exact rule i j t t' s _ _ ⟨.bl (g i j), H, I, rfl, q⟩

def CPow (i j : Int) : Prop := 0 ≤ j ∧ j ≤ 1000000 ∧ i.natAbs < 2 ^ 64
def CMul (i j : Int) : Prop := (-(2 ^ 64) < i ∧ i < 2 ^ 64) ∨ (-(2 ^ 64) < j ∧ j < 2 ^ 64)
theorem CMul.ok {i j : Int} (h : CMul i j) : IntMulOk i j := by
  rcases h with ⟨h1, h2⟩ | ⟨h1, h2⟩
  · exact .of_left (intBits_le_64 h1 h2)
  · exact .of_right (intBits_le_64 h1 h2)

theorem op_add : OpR X (binaryOp .Add) (rI0 fun i j => .int (i + j)) := opI0 fun _ _ _ _ _ _ _ q => add_int q
theorem op_sub : OpR X (binaryOp .Sub) (rI0 fun i j => .int (i - j)) := opI0 fun _ _ _ _ _ _ _ q => sub_int q
theorem op_mul : OpR X (binaryOp .Mult) (rI CMul fun i j => .int (i * j)) := opI fun _ _ _ _ _ _ _ hc q => mul_int q hc.ok
/-- % by a positive divisor of any size -/
theorem op_mod : OpR X (binaryOp .Mod) (rI (fun _ j => 0 < j) fun i j => .int (i % j)) := opI fun i j _ _ _ _ _ hc q => by
  have h1 : (0 : Int) < j := hc
  exact mod_int' (by omega) (by rw [Int.fmod_eq_emod_of_nonneg i (by omega)]; exact q)
theorem op_pow : OpR X (binaryOp .Pow) (rI CPow fun i j => .int (i ^ j.toNat)) := opI fun _ _ _ _ _ _ _ hc q => pow_int_small hc.1 hc.2.1 hc.2.2 q


theorem unI {f : Value → Sem Value} {g : Int → Int}
    (rule : ∀ (i : Int) (t : Tok) (s : Shared) (Q : Value → Shared → Prop) (E : Value → Shared → Prop), Q (.int (g i) s.toks) { s with toks := s.toks + 1 } → wpAny (model X.prog X.w) X.A (f (.int i t)) Q E s) :
    UnR X f (rU fun i => .int (g i)) := by
  intro pins s σ H x v Q I rx h
  obtain ⟨i, rfl, q⟩ := h
  obtain ⟨t, rfl⟩ := rx
  exact rule i t s _ _ ⟨.int (g i), H, I.tok _, ⟨_, rfl⟩, q⟩
theorem un_neg : UnR X (unaryOp .USub) (rU fun i => .int (-i)) := unI fun _ _ _ _ _ q => neg_int q

/-! ### bools among ints: n += (a < b) -/
end

/-! ### comparisons -/
/-- the scalars that == tells apart as data does -/
def scal : V → V → Bool
  | .non, .non => true | .non, .int _ => true | .int _, .non => true | .non, .bl _ => true | .bl _, .non => true | .non, .str _ => true | .str _, .non => true
  | .int _, .int _ => true | .bl _, .bl _ => true | .str _, .str _ => true | .byt _, .byt _ => true
  | .int _, .str _ => true | .str _, .int _ => true | .bl _, .str _ => true | .str _, .bl _ => true
  | _, _ => false
def rEq : R2 := fun x y H Q => scal x y = true ∧ Q (.bl (decide (x = y))) H
def rNe : R2 := fun x y H Q => scal x y = true ∧ Q (.bl (!decide (x = y))) H

theorem dec_int {i j : Int} : decide (V.int i = V.int j) = (i == j) := by
  rw [Bool.eq_iff_iff]
  simp
theorem dec_bl {i j : Bool} : decide (V.bl i = V.bl j) = (i == j) := by
  rw [Bool.eq_iff_iff]
  simp
theorem dec_str {i j : Str} : decide (V.str i = V.str j) = (i == j) := by
  rw [Bool.eq_iff_iff]
  simp
theorem dec_byt {i j : Array UInt8} : decide (V.byt i = V.byt j) = (i.toList == j.toList) := by
  rw [Bool.eq_iff_iff]
  cases i
  cases j
  simp

section
variable {X : Cx} {a b c : Expr} {ta tb tc : TE} {pos : Pos}
theorem fin_bl {pins : List (Addr × Obj)} {σ : St} {H : Hp} {s : Shared} {Q : VK} {k k' : Bool} (I : Inv X pins σ H s) (q : Q (.bl k) H) (e : k = k') : EP X pins σ Q (.bool k') s := by
  subst e
  exact ⟨.bl k, H, I, rfl, q⟩
theorem op_eq : OpR X (compareOp .Eq) rEq := by
  intro pins s σ H x y v u Q I rx ry h
  obtain ⟨hs, q⟩ := h
  cases x with
  | non =>
    cases rx
    cases y with
    | non => cases ry; exact PySem.EqNone.eq_none_none (fin_bl I q (by simp))
    | bl j => cases ry; exact PySem.EqNone.eq_none_bool (fin_bl I q (by simp))
    | int j => obtain ⟨t', rfl⟩ := ry; exact PySem.EqNone.eq_none_int (fin_bl I q (by simp))
    | str j => obtain ⟨t', rfl⟩ := ry; exact PySem.EqNone.eq_none_str (fin_bl I q (by simp))
    | _ => exact absurd (show false = true from hs) Bool.false_ne_true
  | bl i =>
    cases rx
    cases y with
    | non => cases ry; exact PySem.EqNone.eq_bool_none (fin_bl I q (by simp))
    | bl j => cases ry; exact eq_bool (fin_bl I q dec_bl)
    | str j => obtain ⟨t', rfl⟩ := ry; exact PySem.EqMixed.eq_bool_str (fin_bl I q (by simp))
    | _ => exact absurd (show false = true from hs) Bool.false_ne_true
  | int i =>
    obtain ⟨t, rfl⟩ := rx
    cases y with
    | non => cases ry; exact PySem.EqNone.eq_int_none (fin_bl I q (by simp))
    | int j => obtain ⟨t', rfl⟩ := ry; exact eq_int (fin_bl I q dec_int)
    | str j => obtain ⟨t', rfl⟩ := ry; exact PySem.EqMixed.eq_int_str (fin_bl I q (by simp))
    | _ => exact absurd (show false = true from hs) Bool.false_ne_true
  | str i =>
    obtain ⟨t, rfl⟩ := rx
    cases y with
    | non => cases ry; exact PySem.EqNone.eq_str_none (fin_bl I q (by simp))
    | bl j => cases ry; exact PySem.EqMixed.eq_str_bool (fin_bl I q (by simp))
    | int j => obtain ⟨t', rfl⟩ := ry; exact PySem.EqMixed.eq_str_int (fin_bl I q (by simp))
    | str j => obtain ⟨t', rfl⟩ := ry; exact eq_str (fin_bl I q dec_str)
    | _ => exact absurd (show false = true from hs) Bool.false_ne_true
  | byt i =>
    obtain ⟨t, rfl⟩ := rx
    cases y with
    | byt j => obtain ⟨t', rfl⟩ := ry; exact PySem.W.eq_bytes (fin_bl I q dec_byt)
    | _ => exact absurd (show false = true from hs) Bool.false_ne_true
  | _ => cases y <;> exact absurd (show false = true from hs) Bool.false_ne_true
theorem op_ne : OpR X (compareOp .NotEq) rNe := by
  intro pins s σ H x y v u Q I rx ry h
  obtain ⟨hs, q⟩ := h
  cases x with
  | non =>
    cases rx
    cases y with
    | non => cases ry; exact PySem.EqNone.ne_none_none (fin_bl I q (by simp))
    | bl j => cases ry; exact PySem.EqNone.ne_none_bool (fin_bl I q (by simp))
    | int j => obtain ⟨t', rfl⟩ := ry; exact PySem.EqNone.ne_none_int (fin_bl I q (by simp))
    | str j => obtain ⟨t', rfl⟩ := ry; exact PySem.EqNone.ne_none_str (fin_bl I q (by simp))
    | _ => exact absurd (show false = true from hs) Bool.false_ne_true
  | bl i =>
    cases rx
    cases y with
    | non => cases ry; exact PySem.EqNone.ne_bool_none (fin_bl I q (by simp))
    | bl j => cases ry; exact ne_bool (fin_bl I q (congrArg not dec_bl))
    | str j => obtain ⟨t', rfl⟩ := ry; exact PySem.EqMixed.ne_bool_str (fin_bl I q (by simp))
    | _ => exact absurd (show false = true from hs) Bool.false_ne_true
  | int i =>
    obtain ⟨t, rfl⟩ := rx
    cases y with
    | non => cases ry; exact PySem.EqNone.ne_int_none (fin_bl I q (by simp))
    | int j => obtain ⟨t', rfl⟩ := ry; exact ne_int (fin_bl I q (congrArg not dec_int))
    | str j => obtain ⟨t', rfl⟩ := ry; exact PySem.EqMixed.ne_int_str (fin_bl I q (by simp))
    | _ => exact absurd (show false = true from hs) Bool.false_ne_true
  | str i =>
    obtain ⟨t, rfl⟩ := rx
    cases y with
    | non => cases ry; exact PySem.EqNone.ne_str_none (fin_bl I q (by simp))
    | bl j => cases ry; exact PySem.EqMixed.ne_str_bool (fin_bl I q (by simp))
    | int j => obtain ⟨t', rfl⟩ := ry; exact PySem.EqMixed.ne_str_int (fin_bl I q (by simp))
    | str j => obtain ⟨t', rfl⟩ := ry; exact ne_str (fin_bl I q (congrArg not dec_str))
    | _ => exact absurd (show false = true from hs) Bool.false_ne_true
  | byt i =>
    obtain ⟨t, rfl⟩ := rx
    cases y with
    | byt j => obtain ⟨t', rfl⟩ := ry; exact PySem.W.ne_bytes (fin_bl I q (congrArg not dec_byt))
    | _ => exact absurd (show false = true from hs) Bool.false_ne_true
  | _ => cases y <;> exact absurd (show false = true from hs) Bool.false_ne_true

theorem op_lt : OpR X (compareOp .Lt) (rI0 fun i j => .bl (decide (i < j))) := opB0 fun _ _ _ _ _ _ _ q => lt_int q
theorem op_le : OpR X (compareOp .LtE) (rI0 fun i j => .bl (decide (i ≤ j))) := opB0 fun _ _ _ _ _ _ _ q => le_int q
theorem op_gt : OpR X (compareOp .Gt) (rI0 fun i j => .bl (decide (j < i))) := opB0 fun _ _ _ _ _ _ _ q => gt_int q
theorem op_ge : OpR X (compareOp .GtE) (rI0 fun i j => .bl (decide (j ≤ i))) := opB0 fun _ _ _ _ _ _ _ q => ge_int q




theorem nomark (b : Expr) {op : CmpOp} (h : op ≠ .In := by decide) (h2 : op ≠ .NotIn := by decide) : behindInMarks op b = false := by
  have e1 : (op == CmpOp.In) = false := by cases op <;> first | rfl | exact absurd rfl h
  have e2 : (op == CmpOp.NotIn) = false := by cases op <;> first | rfl | exact absurd rfl h2
  cases b <;> simp [behindInMarks, e1, e2]
/-- a comparison as a value; hm: nomark b, or (for in, not in) by with_unfolding_all rfl -/
theorem pe_cmpR {op : CmpOp} {r : R2} (ho : OpR X (compareOp op) r) (ha : PE X a ta) (hb : PE X b tb) (hm : behindInMarks op b = false) : PE X (.Compare a [op] [b] pos) (tOp r ta tb) := by
  intro pins s σ H Q I h
  exact wpAny_Compare1 (binT ha hb I h fun v u s2 x y H2 I2 rx ry q => ho pins s2 σ H2 x y v u Q I2 rx ry q) hm
/-- a reading of a value as a test -/
def tTest (t : TE) : TT := fun σ H Q => t σ H fun x H' => ∃ k, x = .bl k ∧ Q k H'
theorem pt_cmpR {op : CmpOp} {r : R2} (ho : OpR X (compareOp op) r) (ha : PE X a ta) (hb : PE X b tb) (hm : behindInMarks op b = false) : PT X (.Compare a [op] [b] pos) (tTest (tOp r ta tb)) := by
  intro pins s σ H Q I h
  refine wpAny_isTrue_Compare1 (thn (ha pins s σ H _ I h) fun v s1 ⟨x, H1, I1, r1, q1⟩ => thn (hb pins s1 σ H1 _ I1 q1) fun u s2 ⟨y, H2, I2, r2, q2⟩ =>
    thn (ho pins s2 σ H2 x y v u _ I2 r1 r2 q2) fun c s3 ⟨z, H3, I3, r3, k, e, q3⟩ => ?_) hm
  subst e
  cases r3
  exact wpAny_truthy_bool ⟨H3, I3, q3⟩
/-- a op1 b op2 c -/
def tChain (r r' : R2) (ta tb tc : TE) : TE := fun σ H Q => ta σ H fun x H1 => tb σ H1 fun y H2 => r x y H2 fun z H3 => ∃ k, z = .bl k ∧
  (if k = true then tc σ H3 fun w' H4 => r' y w' H4 Q else Q (.bl false) H3)
theorem pt_chain {op op' : CmpOp} {r r' : R2} (ho : OpR X (compareOp op) r) (ho' : OpR X (compareOp op') r') (ha : PE X a ta) (hb : PE X b tb) (hc : PE X c tc)
    (hm : lastMarks [op, op'] [b, c] = false := by with_unfolding_all rfl) : PT X (.Compare a [op, op'] [b, c] pos) (tTest (tChain r r' ta tb tc)) := by
  intro pins s σ H Q I h
  refine isTrue_chain (thn (ha pins s σ H _ I h) fun v s1 ⟨x, H1, I1, r1, q1⟩ => test_link (thn (hb pins s1 σ H1 _ I1 q1) fun u s2 ⟨y, H2, I2, r2, q2⟩ =>
    thn (ho pins s2 σ H2 x y v u _ I2 r1 r2 q2) fun d s3 ⟨z, H3, I3, r3, k, e, q3⟩ => ?_)) hm
  subst e
  cases r3
  refine wpAny_truthy_bool ?_
  cases k with
  | false =>
    obtain ⟨k', e', q'⟩ := q3
    cases e'
    exact ite_ff ⟨H3, I3, q'⟩
  | true =>
    refine ite_tt (test_last (thn (hc pins s3 σ H3 _ I3 q3) fun w' s4 ⟨z', H4, I4, r4, q4⟩ => thn (ho' pins s4 σ H4 y z' u w' _ I4 r2 r4 q4) fun d' s5 ⟨z2, H5, I5, r5, k2, e2, q5⟩ => ?_))
    subst e2
    cases r5
    exact wpAny_truthy_bool ⟨H5, I5, q5⟩

/-! ### truth -/
/-- a value's truth by the abstract heap -/
def TruV (K : PySem.W.Frag) (x : V) (H : Hp) (k : Bool) : Prop :=
  match x with
  | .non => k = false
  | .bl b => k = b
  | .int i => k = (i != 0)
  | .str y => y.length ≤ sizeLine ∧ k = ((y.length : Int) != 0)
  | .byt y => y.size ≤ sizeLine ∧ k = ((y.size : Int) != 0)
  | .ref p => (∃ xs, SqL K H p xs ∧ k = !xs.isEmpty) ∨ (∃ xs, SqT K H p xs ∧ k = !xs.isEmpty) ∨ ∃ kvs, H p = some (.dK kvs) ∧ k = !kvs.isEmpty
  | _ => False
theorem isEmpty_kv {κ : Type} {kvs : List (κ × V)} {vs : List (κ × Value)} (r : KV kvs vs) : (!vs.isEmpty) = !kvs.isEmpty := by
  cases r <;> rfl
theorem isEmpty_of {xs : List V} {its : List Value} (r : Vals xs its) : (!its.toArray.isEmpty) = !xs.isEmpty := by
  cases r <;> simp
theorem line63 : (sizeLine : Nat) < 2 ^ 63 := by rw [sizeLine_eq]; decide
theorem tru_ok : TruR X (fun x H Q => ∃ k, TruV X.K x H k ∧ Q k H) := by
  intro pins s σ H x v Q I rx h
  obtain ⟨k, e, q⟩ := h
  have hl := line63
  have hs : sizeLine = 16777216 := sizeLine_eq
  cases x with
  | non =>
    cases rx
    have e' : k = false := e
    subst e'
    exact truthy_none ⟨H, I, q⟩
  | bl b =>
    cases rx
    have e' : k = b := e
    subst e'
    exact wpAny_truthy_bool ⟨H, I, q⟩
  | int i =>
    obtain ⟨t, rfl⟩ := rx
    have e' : k = (i != 0) := e
    subst e'
    exact PySem.P.truthy_int ⟨H, I, q⟩
  | str y =>
    obtain ⟨t, rfl⟩ := rx
    obtain ⟨hy, e'⟩ : y.length ≤ sizeLine ∧ k = ((y.length : Int) != 0) := e
    subst e'
    exact PySem.P.truthy_str (by omega) ⟨H, I.tok _, q⟩
  | byt y =>
    obtain ⟨t, rfl⟩ := rx
    obtain ⟨hy, e'⟩ : y.size ≤ sizeLine ∧ k = ((y.size : Int) != 0) := e
    subst e'
    exact PySem.W.truthy_bytes (by omega) ⟨H, I.tok _, q⟩
  | ref p =>
    cases rx
    have e' : (∃ xs, SqL X.K H p xs ∧ k = !xs.isEmpty) ∨ (∃ xs, SqT X.K H p xs ∧ k = !xs.isEmpty) ∨ ∃ kvs, H p = some (.dK kvs) ∧ k = !kvs.isEmpty := e
    rcases e' with ⟨xs, hx, e'⟩ | ⟨xs, hx, e'⟩ | ⟨kvs, hx, e'⟩
    · subst e'
      obtain ⟨its, r, pl, hz⟩ := I.list hx
      have hlen := r.length
      exact wpAny_truthy_list pl.isList (by simp only [List.size_toArray]; omega) ⟨H, I.tok _, by rw [isEmpty_of r]; exact q⟩
    · subst e'
      obtain ⟨its, r, pl, hz⟩ := I.tuple hx
      have hlen := r.length
      exact truthy_tuple pl (by simp only [List.size_toArray]; omega) ⟨H, I.tok _, by rw [isEmpty_of r]; exact q⟩
    · subst e'
      obtain ⟨hz, hS, vs, r, m⟩ : kvs.length ≤ sizeLine ∧ (p == sysModules) = false ∧ ∃ vs, KV kvs vs ∧ s.heap.DictOf (mixKind X.prog X.w) p vs := I.hok p _ hx
      have hlen : kvs.length = vs.length := Paired.length r
      exact wpAny_truthy_dict hS m (by omega) ⟨H, I.tok _, by rw [isEmpty_kv r]; exact q⟩
  | _ => exact (show False from e).elim
/-- any expression whose test is its value's truth (a name, a call, a subscript, a field ..: he by fun _ => rfl) -/
theorem pt_truth (ha : PE X a ta) (he : ∀ whole, isTrue a X.env whole = (do let v ← whole; standAt a.pos; holding [v] (truthy v))) :
    PT X a (fun σ H Q => ta σ H fun x H' => ∃ k, TruV X.K x H' k ∧ Q k H') := by
  intro pins s σ H Q I h
  exact isTrue_plain (thn (ha pins s σ H _ I h) fun v s1 ⟨x, H1, I1, r1, q1⟩ => tru_ok pins s1 σ H1 x v Q I1 r1 q1) (he _)

/-! ### strs and bytes -/
theorem op_add_str : OpR X (binaryOp .Add) (fun x y H Q => ∃ i j, x = .str i ∧ y = .str j ∧ i.length + j.length ≤ sizeLine ∧ Q (.str (i ++ j)) H) := by
  intro pins s σ H x y v u Q I rx ry h
  obtain ⟨i, j, rfl, rfl, hz, q⟩ := h
  obtain ⟨t, rfl⟩ := rx
  obtain ⟨t', rfl⟩ := ry
  exact add_str (fun t' tk => ⟨.str (i ++ j), H, I.tok _, ⟨_, rfl⟩, q⟩) hz


/-! ### scalar builtins, by CallR -/
theorem vals1 {x : V} {us : List Value} (r : Vals [x] us) : ∃ u, us = [u] ∧ RelV x u := by
  cases r with
  | cons r1 r2 => cases r2; exact ⟨_, rfl, r1⟩
theorem vals2 {x y : V} {us : List Value} (r : Vals [x, y] us) : ∃ u w', us = [u, w'] ∧ RelV x u ∧ RelV y w' := by
  cases r with
  | cons r1 r2 =>
    cases r2 with
    | cons r3 r4 => cases r4; exact ⟨_, _, rfl, r1, r3⟩
theorem call_int1 : CallR X (.type "int") (fun xs H Q => (∃ i, xs = [.int i] ∧ Q (.int i) H) ∨ ∃ k, xs = [.bl k] ∧ Q (.int (if k then 1 else 0)) H) := by
  intro pins s σ H xs us Q I r h
  rcases h with ⟨i, rfl, q⟩ | ⟨k, rfl, q⟩
  · obtain ⟨u, rfl, t, rfl⟩ := vals1 r
    exact call_int_int ⟨.int i, H, I, ⟨_, rfl⟩, q⟩
  · obtain ⟨u, rfl, r1⟩ := vals1 r
    cases r1
    exact call_int_bool ⟨.int (if k then 1 else 0), H, I.tok _, ⟨_, rfl⟩, q⟩
end
end L2

namespace L2
open PySem PySem.Spec PyProof.Rows

/-! ### an instance, its attributes a map -/
structure ObjM (h : Heap) (x dx C : Addr) (mA : Str → Option Value) : Prop where
  obj : h.get? x = some (PySem.W.instObj C dx)
  ns : h.Ns1 dx mA
  ne : dx ≠ x

theorem lookIn_ns {h : Heap} {dx : Addr} {mA : Str → Option Value} (n : h.Ns1 dx mA) : ∃ od, h.get? dx = some od ∧ ∀ name, PySem.W.lookIn name od = some (mA name) := by
  obtain ⟨o, es, ep, ho, hd, hk, _, hm⟩ := n
  refine ⟨o, ho, fun name => ?_⟩
  have e := hm name
  unfold nsFind findBy at e
  rw [← Array.find?_toList] at e
  unfold PySem.W.lookIn
  rw [hd]
  dsimp only
  split
  · rename_i y q
    rw [q] at e
    exact congrArg some e
  · rename_i q
    rw [q] at e
    have a : es.toList.any (·.refKey) = false := by
      rw [List.any_eq_false]
      intro y hy
      obtain ⟨z, t, hkey⟩ := hk y (Array.mem_toList_iff.mp hy)
      simp [DictEntry.refKey, hkey]
    have a' : ¬ es.toList.any (·.refKey) = true := by rw [a]; exact Bool.false_ne_true
    rw [if_neg a']
    exact congrArg some e

theorem ObjM.look {h : Heap} {x dx C : Addr} {mA : Str → Option Value} (I : ObjM h x dx C mA) : ∃ od, PySem.W.InstAt h x (PySem.W.instObj C dx) C (some od) ∧ ∀ name, PySem.W.lookIn name od = some (mA name) :=
  let ⟨od, ho, hl⟩ := lookIn_ns I.ns
  ⟨od, ⟨I.obj, rfl, rfl, ho⟩, hl⟩

section
variable {prog : Program} {w : World} {A : Around} {E : Value → Shared → Prop} {s : Shared} {K : PySem.W.Frag} {x dx C f : Addr} {mA : Str → Option Value} {name : Str} {v : Value}





end

/-! ### the attributes as a list of pairs -/

theorem RelO.some_of {v : V} {o : Option Value} (r : RelO (some v) o) : ∃ u, o = some u ∧ RelV v u := by
  cases o with
  | none => exact (show False from r).elim
  | some u => exact ⟨u, rfl, r⟩

section
variable {P : Program} {w : World} {H H' : Hp} {h h' : Heap} {a C dx : Addr} {fs fs' : List (Str × V)}
theorem ins_get (hok : HOk P w H h) (e : H a = some (.ins C dx fs)) : ∃ mA, ObjM h a dx C mA ∧ (∀ f, RelO (fs.lookup f) (mA f)) ∧ PySem.Within mA (fs.map (·.1)) ∧ fs.length ≤ 1000 ∧ H dx = some (.own a) := by
  obtain ⟨d, z, ne, ob, mA, n, r, q⟩ := (show ObjOk P w H h a (.ins C dx fs) from hok a _ e)
  exact ⟨mA, ⟨ob, n, ne⟩, r, q, z, d⟩
end

/-! ### what of the text a class must have -/
structure Cls (K : PySem.W.Frag) (C : Addr) : Prop where
  pg : PySem.W.plainGet K C Str.empty = true
  hd : PySem.W.hasDictIn K C = true
  po : PySem.W.plainOver K C = true
  sa : PySem.W.findIn K (.ref C) "__setattr__" = some (some (.builtin "object.__setattr__"))
theorem Cls.get {K : PySem.W.Frag} {C : Addr} (c : Cls K C) (f : Str) : PySem.W.plainGet K C f = true := c.pg

section
variable {X : Cx} {pins : List (Addr × Obj)} {σ : St} {H : Hp} {s : Shared} {a C dx : Addr} {fs : List (Str × V)} {f : Str} {v : V} {A : Around} {E : Value → Shared → Prop}






end

/-! ### readings and rules -/

section
variable {X : Cx} {o e value : Expr} {f : Str} {pos pos' tpos : Pos} {ta tv : TE}

end

/-! ### isinstance -/
section
variable {X : Cx} {pins : List (Addr × Obj)} {σ : St} {H : Hp} {s : Shared} {A : Around} {E : Value → Shared → Prop} {Q : Value → Shared → Prop} {c : Value} {b : Bool}
/-- the type of a value, as the fragment's deciders take it; for an instance its class -/
inductive TyOf (K : PySem.W.Frag) (H : Hp) : V → Value → Prop where
  | non : TyOf K H .non (.type "NoneType")
  | bl (x : Bool) : TyOf K H (.bl x) (.type "bool")
  | int (i : Int) : TyOf K H (.int i) (.type "int")
  | str (x : Str) : TyOf K H (.str x) (.type "str")
  | flt (x : UInt64) : TyOf K H (.flt x) (.type "float")
  | lst {a : Addr} {xs : List V} (e : H a = some (.lst xs)) : TyOf K H (.ref a) (.type "list")
  | frz {a : Addr} {o : Obj} {xs : List V} (e : H a = some (.frz o (.lst xs))) : TyOf K H (.ref a) (.type "list")
  | tup {a : Addr} {xs : List V} (e : H a = some (.tup xs)) : TyOf K H (.ref a) (.type "tuple")
  | dK {a : Addr} {kvs : List (Key × V)} (e : H a = some (.dK kvs)) : TyOf K H (.ref a) (.type "dict")
  | dT {a : Addr} {kvs : List (List Key × V)} (e : H a = some (.dT kvs)) : TyOf K H (.ref a) (.type "dict")
  | ins {a C dx : Addr} {fs : List (Str × V)} (e : H a = some (.ins C dx fs)) (cl : Cls K C) (ha : PySem.W.findIn K (.ref C) "__class__" = some (some (.builtin "object.__class__")))
      (hn : PySem.W.specialIn K (.builtin "object.__class__") "__get__" = some (some (.builtin "getset_descriptor.__get__"))) (htk : PySem.W.takesIn K (.builtin "object.__class__") = some true)
      (hm : PySem.W.mroIn K C (.type "object") = some true) : TyOf K H (.ref a) (.ref C)
/-- isinstance(x, c) for one class c, a built-in or an own one: kitOne's answer -/
theorem isinst_ok {x : V} {u t : Value} (I : Inv X pins σ H s) (rx : RelV x u) (ty : TyOf X.K H x t) (e : PySem.W.kitOne X.K t c = some b) (h : ∀ tk, Q (.bool b) { s with toks := tk }) :
    wpAny (model X.prog X.w) A (call (.builtin "isinstance") [u, c]) Q E s := by
  cases ty with
  | non => cases (show u = Value.none from rx); exact PySem.W.kia_one PySem.W.kitx_none I.kIn True.intro e (fun z => nomatch z) h
  | bl y => cases (show u = Value.bool y from rx); exact PySem.W.kia_one PySem.W.kitx_bool I.kIn True.intro e (fun z => nomatch z) h
  | int i => obtain ⟨t, q⟩ := (show ∃ t, u = Value.int i t from rx); cases q; exact PySem.W.kia_one PySem.W.kitx_int I.kIn True.intro e (fun z => nomatch z) h
  | str y => obtain ⟨t, q⟩ := (show ∃ t, u = Value.str y t from rx); cases q; exact PySem.W.kia_one PySem.W.kitx_str I.kIn True.intro e (fun z => nomatch z) h
  | flt y => obtain ⟨t, q⟩ := (show ∃ t, u = Value.float y t from rx); cases q; exact PySem.W.kia_one PySem.W.kitx_float I.kIn True.intro e (fun z => nomatch z) h
  | @lst a xs ea =>
    cases (show u = Value.ref a from rx)
    obtain ⟨_, _, n, _, h1⟩ := (show ObjOk X.prog X.w H s.heap a (.lst xs) from I.hok a _ ea)
    exact PySem.W.kia_one PySem.W.kitx_list I.kIn ⟨_, h1, rfl⟩ e (fun z => nomatch z) h
  | @frz a ob xs ea =>
    cases (show u = Value.ref a from rx)
    obtain ⟨_, _, _, n, _, h1⟩ := (show ObjOk X.prog X.w H s.heap a (.frz ob (.lst xs)) from I.hok a _ ea)
    exact PySem.W.kia_one PySem.W.kitx_list I.kIn ⟨_, h1, rfl⟩ e (fun z => nomatch z) h
  | @tup a xs ea =>
    cases (show u = Value.ref a from rx)
    obtain ⟨_, _, _, p⟩ := (show ObjOk X.prog X.w H s.heap a (.tup xs) from I.hok a _ ea)
    obtain ⟨o, h1, h2, _⟩ := p
    exact PySem.W.kia_one PySem.W.kitx_tuple I.kIn ⟨o, h1, h2⟩ e (fun z => nomatch z) h
  | @dK a kvs ea =>
    cases (show u = Value.ref a from rx)
    obtain ⟨_, _, vs, _, p⟩ := (show ObjOk X.prog X.w H s.heap a (.dK kvs) from I.hok a _ ea)
    obtain ⟨o, es, ep, h1, h2, _⟩ := p
    exact PySem.W.kia_one PySem.W.kitx_dict I.kIn ⟨o, h1, h2.1⟩ e (fun z => nomatch z) h
  | @dT a kvs ea =>
    cases (show u = Value.ref a from rx)
    obtain ⟨_, _, xs, _, o, es, ep, h1, h2, _⟩ := (show ObjOk X.prog X.w H s.heap a (.dT kvs) from I.hok a _ ea)
    exact PySem.W.kia_one PySem.W.kitx_dict I.kIn ⟨o, h1, h2.1⟩ e (fun z => nomatch z) h
  | @ins a C dx fs ea cl ha hn htk hm =>
    cases (show u = Value.ref a from rx)
    obtain ⟨mA, O, _⟩ := ins_get I.hok ea
    obtain ⟨od, J, _⟩ := O.look
    exact PySem.W.kia_one (PySem.W.kitx_own (cl.get _) cl.hd ha hn htk hm) I.kIn J e (fun z => nomatch z) h
end
end L2

namespace L2
open PySem PySem.Spec PyProof.Rows

/-! ### room -/
structure Room (k : Nat) (A : Around) : Prop where
  hd : A.handled = none
  gd : A.guards = some []
  dp : A.depth + 3 * k + 5 < recursionLimit
  un : A.units + 16 * k + 200 < cLine
theorem Room.mono {j k : Nat} {A : Around} (r : Room k A) (h : j ≤ k) : Room j A := ⟨r.hd, r.gd, by have := r.dp; omega, by have := r.un; omega⟩
theorem Room.deeper {k : Nat} {A : Around} (r : Room (k + 1) A) (env : Env) : Room k (A.deeper env) :=
  ⟨r.hd, r.gd, by have := r.dp; show A.depth + 1 + 3 * k + 5 < _; omega, by have := r.un; show A.units + 3 + 16 * k + 200 < _; omega⟩
theorem Room.depth {k : Nat} {A : Around} (r : Room k A) : A.depth < recursionLimit := by have := r.dp; omega
theorem Room.units {k : Nat} {A : Around} (r : Room k A) : A.units + 64 < cLine := by have := r.un; omega
theorem Room.units0 {k : Nat} {A : Around} (r : Room k A) : A.units < cLine := by have := r.un; omega

/-! ### argument lists and displays -/
def tNil : TA := fun _ H Q => Q [] H
def tCons (ta : TE) (tr : TA) : TA := fun σ H Q => ta σ H fun x H1 => tr σ H1 fun xs H2 => Q (x :: xs) H2
section
variable {X : Cx} {e : Expr} {es : List Expr} {te : TE} {t : TA} {pos : Pos}
theorem pa_nil : PA X [] tNil := fun _ _ _ _ H Q I h => Calls.spliced_nil ⟨[], H, I, .nil, h⟩
theorem pa_cons (ha : PE X e te) (hr : PA X es t) (hs : starEach (e :: es) X.env = (false, eval e X.env) :: starEach es X.env := by rfl) : PA X (e :: es) (tCons te t) := by
  intro pos pins s σ H Q I h
  rw [hs]
  show wpAny _ _ (spliced ((false, eval e X.env) :: backTo pos (starEach es X.env))) _ _ s
  refine Calls.spliced_cons (thn (ha pins s σ H _ I h) fun u s1 ⟨x, H1, I1, r1, q1⟩ => ?_)
  exact thn (hr pos pins s1 σ H1 _ I1 q1) fun us s2 ⟨xs, H2, I2, r2, q2⟩ => ⟨x :: xs, H2, I2, .cons r1 r2, q2⟩

/-- a tuple, a list of written items -/
def tTup (t : TA) : TE := fun σ H Q => t σ H fun xs H1 => xs.length ≤ sizeLine ∧ ∀ p, H1 p = none → Q (.ref p) (upd H1 p (.tup xs))
def tLst (t : TA) : TE := fun σ H Q => t σ H fun xs H1 => xs.length ≤ sizeLine ∧ ∀ p, H1 p = none → Q (.ref p) (upd H1 p (.lst xs))
theorem pe_tup {x1} (h : PA X es t) : PE X (.Tuple es x1 pos) (tTup t) := by
  intro pins s σ H Q I hq
  refine wpAny_Tuple_spliced (thn (h pos pins s σ H _ I hq) fun us s1 ⟨xs, H1, I1, r, z, q⟩ => ⟨by rw [← r.length]; exact z, ?_⟩)
  have hf : H1 s1.heap.objs.size = none := I1.hok.fresh (Nat.le_refl _)
  refine ⟨.ref s1.heap.objs.size, upd H1 s1.heap.objs.size (.tup xs), I1.laid (t' := s1.toks) (fun b u e => Heap.get?_push_of_some _ e) (Nat.le_refl _) ?_, rfl, q _ hf⟩
  exact ⟨z, us, r, ⟨_, Heap.get?_push_size _ rfl, rfl, _, rfl⟩⟩
theorem pe_lst (h : PA X es t) : PE X (.List es pos) (tLst t) := by
  intro pins s σ H Q I hq
  refine wpAny_List_spliced (thn (h pos pins s σ H _ I hq) fun us s1 ⟨xs, H1, I1, r, z, q⟩ => ⟨by rw [← r.length]; exact z, ?_⟩)
  have hf : H1 s1.heap.objs.size = none := I1.hok.fresh (Nat.le_refl _)
  refine ⟨.ref s1.heap.objs.size, upd H1 s1.heap.objs.size (.lst xs), I1.laid (t' := s1.toks) (fun b u e => Heap.get?_push_of_some _ e) (Nat.le_refl _) ?_, rfl, q _ hf⟩
  exact ⟨z, us, 0, r, Heap.get?_push_size _ rfl⟩
end

/-! ### what a def promises -/
/-- a def's promise: the bound arguments in the parameters' order, the heap, the wanted end, the wanted exception -/
abbrev Sp := List V → Hp → VK → XK → Prop
/-- how an exception lies behind a call (file 08 gives it): the callers' frames, abstract heap and state ahead of the call, the wish, the exception, the state -/
abbrev CXT := List Env → Hp → Shared → XK → Value → Shared → Prop

/-- the state at a call -/
structure Env0 (P : Program) (w : World) (K : PySem.W.Frag) (mg : Str → Option Value) (base : Heap) (A : Around) (outer : List Env) (s : Shared) (H : Hp) : Prop where
  frames : A.frames = some outer
  mod : Mod K mg base
  bs : ∀ b o, base.get? b = some o → s.heap.get? b = some o ∧ H b = none
  bsz : base.objs.size ≤ s.heap.objs.size
  funs : s.heap.FunFrames base outer
  frf : ∀ b ∈ frs outer, H b = none
  hok : HOk P w H s.heap
  bare : AllBare s.gens
/-- a call's end -/
def CE (outer : List Env) (P : Program) (w : World) (H : Hp) (s : Shared) (Q : VK) (u : Value) (s' : Shared) : Prop :=
  ∃ v H', s'.os = s.os ∧ AllBare s'.gens ∧ Un (frs outer) [] H H' s.heap s'.heap ∧ HOk P w H' s'.heap ∧ RelV v u ∧ Q v H'
def CR (CX : CXT) (outer : List Env) (P : Program) (w : World) (H : Hp) (s : Shared) (Q : VK) (E : XK) (r : Result) (s' : Shared) : Prop :=
  match r with
  | .ok (.ret u) => CE outer P w H s Q u s'
  | .ok _ => False
  | .error e => CX outer H s E e s'
structure FnOk (P : Program) (w : World) (K : PySem.W.Frag) (mg : Str → Option Value) (base : Heap) (CX : CXT) (k : Nat) (f : Addr) (fd : FuncData) (ps : List Str) (sp : Sp) : Prop where
  len : ∀ vs H Q E, sp vs H Q E → vs.length = ps.length
  run : ∀ (A : Around) (outer : List Env) (s : Shared) (H : Hp) (args : Args) (us : List Value) (vs : List V) (Q : VK) (E : XK), Room k A → Env0 P w K mg base A outer s H → BindsTo s fd args (ps.zip us) → Vals vs us → sp vs H Q E →
    codeAny (model P w) A (.call (.ref f) args) (CR CX outer P w H s Q E) s


section
variable {X : Cx} {pins : List (Addr × Obj)} {σ : St} {H : Hp} {s s' : Shared}
/-- from a body: what a callee wants -/
theorem Inv.env0 (I : Inv X pins σ H s) : Env0 X.prog X.w X.K X.mg X.base X.A X.stack s H :=
  ⟨I.ok.frames, I.ok.mod, I.bs, Nat.le_trans I.ok.bsz I.sz, I.stack, I.stkFree, I.hok, I.bare⟩
/-- behind a call -/
theorem Inv.after {Q : VK} {u : Value} (I : Inv X pins σ H s) (h : CE X.stack X.prog X.w H s Q u s') : EP X pins σ Q u s' := by
  obtain ⟨v, H', os, bare, un, hok, r, q⟩ := h
  obtain ⟨hh, g, d, t, os'⟩ := s'
  obtain rfl : os' = s.os := os
  exact ⟨v, H', I.call (h' := hh) (g' := g) (d' := d) (t' := t) (ch := []) un hok bare (fun b z => absurd z (by simp)), r, q⟩
end

/-! ### calls -/
/-- f(..): the written arguments, then the defaults dvs; E: what is wanted of an exception -/
def tCall (sp : Sp) (dvs : List V) (E : XK) (t : TA) : TE := fun σ H Q => t σ H fun vs H1 => sp (vs ++ dvs) H1 Q E

/-- how the parameters are bound: us the positional arguments, kw the keywords' values by name, ds the defaults that fill up -/
def Binds (K : PySem.W.Frag) (fd : FuncData) (ps : List Str) (ds : List Value) : Prop :=
  ∀ (s : Shared) (us : List Value), K.In s.heap → (us ++ ds).length = ps.length → BindsTo s fd ⟨us, []⟩ (ps.zip (us ++ ds))
/-- every parameter is given -/
theorem Binds.all {K : PySem.W.Frag} {fd : FuncData} {ps : List Str} (h : ∀ us : List Value, us.length = ps.length → bindArgs fd ⟨us, []⟩ = pure (ps.zip us)) : Binds K fd ps [] := fun s us _ hl => by
  rw [List.append_nil] at hl ⊢
  exact .of_eq (h us hl)

/-- an exception of a callee reaches what this body wants of exceptions -/
def Passes (CX : CXT) (X : Cx) (E : XK) : Prop := ∀ (pins : List (Addr × Obj)) (σ : St) (H : Hp) (s : Shared) (e : Value) (s' : Shared), Inv X pins σ H s → CX X.stack H s E e s' → X.xe e s'

section
variable {X : Cx} {CX : CXT} {k : Nat} {f C : Addr} {fd : FuncData} {ps : List Str} {sp : Sp} {dvs : List V} {ds : List Value} {E : XK} {x m : Str} {p pos apos : Pos} {e o : Expr} {es : List Expr} {ta : TE} {t : TA}

/-- the callee runs -/
theorem run_fn {pins : List (Addr × Obj)} {σ : St} {H : Hp} {s : Shared} {Q : VK} {us : List Value} {vs : List V} (F : FnOk X.prog X.w X.K X.mg X.base CX k f fd ps sp) (hr : Room k X.A) (hb : Binds X.K fd ps ds) (hd : Vals dvs ds) (hx : Passes CX X E)
    (I : Inv X pins σ H s) (r : Vals vs us) (h : sp (vs ++ dvs) H Q E) : wpAny (model X.prog X.w) X.A (call (.ref f) us) (EP X pins σ Q) X.xe s := by
  have r2 : Vals (vs ++ dvs) (us ++ ds) := r.append hd
  have hl : (us ++ ds).length = ps.length := by rw [← r2.length]; exact F.len _ _ _ _ h
  refine wpAny_call (codeAny_mono (F.run X.A X.stack s H ⟨us, []⟩ (us ++ ds) (vs ++ dvs) Q E hr I.env0 (hb s us I.kIn hl) r2 h) fun r s' hq => ?_)
  cases r with
  | error e => exact hx pins σ H s e s' I hq
  | ok fl =>
    cases fl with
    | ret u => exact I.after hq
    | next => exact False.elim hq
    | brk => exact False.elim hq
    | cont => exact False.elim hq

theorem pe_call (F : FnOk X.prog X.w X.K X.mg X.base CX k f fd ps sp) (hr : Room k X.A) (hg : Gl X x) (hm : X.mg x = some (.ref f)) (hk : PySem.W.keepIn X.K (.ref f) = true) (hb : Binds X.K fd ps ds) (hd : Vals dvs ds) (hx : Passes CX X E)
    (ha : PA X (e :: es) t) (hdb : (x == ("__debug__" : Str)) = false := by decide) (he : starEach (e :: es) X.env = (false, eval e X.env) :: starEach es X.env := by rfl) (hpl : (backTo pos (starEach es X.env)).any (·.1) = false := by rfl) :
    PE X (.Call (.Name x p) (e :: es) [] pos) (tCall sp dvs E t) := by
  intro pins s σ H Q I h
  refine wpAny_Call_Name_kw (ld_glob I hg hm ?_ hdb)
  refine PySem.W.callWith_K (h₀ := X.base) I.ok.mod.kin hk (thn (ha pos pins s σ H _ I h) fun us s1 ⟨vs, H1, I1, r, q⟩ => ⟨I1.kIn, ?_⟩) he hpl
  exact run_fn F hr hb hd hx I1 r q



end

/-! ### keywords -/
section
variable {X : Cx} {CX : CXT} {k : Nat} {f C : Addr} {fd : FuncData} {ps ks : List Str} {sp : Sp} {E : XK} {x m : Str} {p pos apos kpos : Pos} {e o : Expr} {es : List Expr} {kws : List Keyword} {te ta : TE} {t tk : TA} {nm : Option Str}

variable {g : List Value → List Value → List Value} {gV : List V → List V → List V}
end

/-! ### a def's body keeps its promise -/
/-- names: the parameters first -/
structure FnScope (N P : List Str) (sc : Scope) : Prop where
  kind : sc.kind = .function
  co : sc.isCoroutine = false
  gen : sc.isGenerator = false
  nd : N.Nodup
  pre : N.take P.length = P
  par : ∀ x ∈ P, sc.names.lookup x = some .local ∨ sc.names.lookup x = some .cell
  nofree : ∀ y ∈ sc.names, y.2 ≠ .free

theorem bindL_out {kindOf : Str → Option NameKind} {x : Str} : ∀ {binds : List (Str × Value)} {m : Str → Option Value}, (∀ v, (x, v) ∉ binds) → bindL kindOf binds m x = m x
  | [], _, _ => rfl
  | (n, v) :: r, m, h => by
    unfold bindL
    rw [bindL_out fun w hw => h w (List.mem_cons_of_mem _ hw)]
    split
    · have : x ≠ n := by rintro rfl; exact h v List.mem_cons_self
      simp [this]
    · rfl
theorem bindC_out {kindOf : Str → Option NameKind} {x : Str} : ∀ {binds : List (Str × Value)} {m : Str → Option Value}, (∀ v, (x, v) ∉ binds) → bindC kindOf binds m x = m x
  | [], _, _ => rfl
  | (n, v) :: r, m, h => by
    unfold bindC
    rw [bindC_out fun w hw => h w (List.mem_cons_of_mem _ hw)]
    split
    · rfl
    · have : x ≠ n := by rintro rfl; exact h v List.mem_cons_self
      simp [this]
theorem bindL_get {kindOf : Str → Option NameKind} {x : Str} {v : Value} : ∀ {P : List Str} {vs : List Value} {i : Nat} {m : Str → Option Value}, P.Nodup → P[i]? = some x → vs[i]? = some v → kindOf x = some .local →
    bindL kindOf (P.zip vs) m x = some v
  | [], _, _, _, _, h, _, _ => by simp at h
  | _ :: _, [], _, _, _, _, h, _ => by simp at h
  | p :: P, w :: vs, 0, m, nd, h1, h2, hk => by
    simp at h1 h2; subst h1; subst h2
    show bindL kindOf ((p, w) :: P.zip vs) m p = _
    unfold bindL
    rw [bindL_out fun v hv => (List.nodup_cons.mp nd).1 (List.of_mem_zip hv).1, if_pos hk]
    simp
  | p :: P, w :: vs, i + 1, m, nd, h1, h2, hk => by
    show bindL kindOf ((p, w) :: P.zip vs) m x = _
    unfold bindL
    exact bindL_get (i := i) (List.nodup_cons.mp nd).2 (by simpa using h1) (by simpa using h2) hk
theorem bindC_get {kindOf : Str → Option NameKind} {x : Str} {v : Value} : ∀ {P : List Str} {vs : List Value} {i : Nat} {m : Str → Option Value}, P.Nodup → P[i]? = some x → vs[i]? = some v → kindOf x ≠ some .local →
    bindC kindOf (P.zip vs) m x = some v
  | [], _, _, _, _, h, _, _ => by simp at h
  | _ :: _, [], _, _, _, _, h, _ => by simp at h
  | p :: P, w :: vs, 0, m, nd, h1, h2, hk => by
    simp at h1 h2; subst h1; subst h2
    show bindC kindOf ((p, w) :: P.zip vs) m p = _
    unfold bindC
    rw [bindC_out fun v hv => (List.nodup_cons.mp nd).1 (List.of_mem_zip hv).1, if_neg hk]
    simp
  | p :: P, w :: vs, i + 1, m, nd, h1, h2, hk => by
    show bindC kindOf ((p, w) :: P.zip vs) m x = _
    unfold bindC
    exact bindC_get (i := i) (List.nodup_cons.mp nd).2 (by simpa using h1) (by simpa using h2) hk

/-- the names' values at the entry -/
def start (N : List Str) (vs : List V) : St := vs.map some ++ List.replicate (N.length - vs.length) none

/-- the context of a def's body, at its entry; an exception leaves the frame, then lies as CX says -/
def cxOf (CX : CXT) (P : Program) (w : World) (K : PySem.W.Frag) (mg : Str → Option Value) (base : Heap) (N : List Str) (qual : Str) (scope : Scope) (f : Addr) (cd : Value) (A : Around) (outer : List Env) (s : Shared) (H : Hp) (E : XK) : Cx where
  prog := P
  w := w
  K := K
  mg := mg
  base := base
  A := A.deeper (envOfC qual scope s.heap.objs.size f cd)
  N := N
  s₀ := s
  H₀ := H
  env := envOfC qual scope s.heap.objs.size f cd
  outer := outer
  stack := envOfC qual scope s.heap.objs.size f cd :: outer
  ex := []
  calm := true
  fn := fun _ => true
  pn := []
  xe := fun e s' => wpAny (model P w) (A.deeper (envOfC qual scope s.heap.objs.size f cd)) (leaving (envOfC qual scope s.heap.objs.size f cd) e) (fun _ s'' => CX outer H s E e s'') (fun e' s'' => CX outer H s E e' s'') s'

theorem cell_has {sc : Scope} {n : Nat} {x : Str} (h : sc.names.lookup x = some .cell) : ∃ c, (cellsFrom n sc.names []).lookup x = some c := by
  have q := PySem.W.cellsFrom_some sc.names n [] (.inl h)
  exact Option.isSome_iff_exists.mp q

theorem inv_start {CX : CXT} {P : Program} {w : World} {K : PySem.W.Frag} {mg : Str → Option Value} {base : Heap} {N ps : List Str} {qual : Str} {scope : Scope} {f : Addr} {cd : Value} {A : Around} {outer : List Env} {s s1 : Shared} {H : Hp} {E : XK} {us : List Value} {vs : List V}
    (S : FnScope N ps scope) (hd : A.handled = none) (e0 : Env0 P w K mg base A outer s H) (hl : vs.length = ps.length) (r : Vals vs us)
    (x : InCallC s s.heap.objs.size (bindL (envOfC qual scope s.heap.objs.size f cd).kindOf (ps.zip us) fun _ => none) (cellsFrom (s.heap.objs.size + 1) scope.names []) (bindC (envOfC qual scope s.heap.objs.size f cd).kindOf (ps.zip us) fun _ => none) s1) :
    Inv (cxOf CX P w K mg base N qual scope f cd A outer s H E) [] (start N vs) H s1 := by
  have hpl : ps.length ≤ N.length := by have := congrArg List.length S.pre; rw [List.length_take] at this; omega
  obtain ⟨h1, tk, rfl, hk⟩ := x.done
  have noA : ∀ b : Addr, b ∉ (cxOf CX P w K mg base N qual scope f cd A outer s H E).ex := fun b z => absurd (show b ∈ ([] : List Addr) from z) (by simp)
  refine ⟨⟨e0.mod, S.kind, rfl, rfl, Nat.le_refl _, fun y z c h1 h2 => ?_, fun y hy => ?_, fun y c _ h => ?_, fun _ => hd, Around.frames_deeper e0.frames, .inr ⟨rfl, rfl⟩, fun b z => absurd z (noA b), e0.bs, e0.bsz, fun b _ _ => noA b, fun b z => absurd z (noA b), e0.funs, e0.frf⟩,
    rfl, e0.bare, Un.kept hk, ⟨_, x.toInCall.ns, fun i y v h1 h2 h3 => ?_⟩, fun y c h => ⟨_, x.cell y c h⟩, e0.hok.fresh (Nat.le_refl _), fun y c h => ?_, fun p hp => absurd (show p ∈ ([] : List (Addr × Obj)) from hp) (by simp), e0.hok.kept hk, ?_⟩
  · exact name_of_addr x.apart (PySem.mem_of_lookup h1) (PySem.mem_of_lookup h2)
  · have hy : scope.names.lookup y = some .cell ∨ scope.names.lookup y = some .free := hy
    rcases hy with hy | hy
    · exact cell_has hy
    · exact absurd rfl (S.nofree _ (PySem.mem_of_lookup hy))
  · exact Nat.le_of_lt (x.above y c (PySem.mem_of_lookup h))
  · have hi : i < vs.length := by
      unfold start at h2
      by_cases hi : i < vs.length
      · exact hi
      · rw [List.getElem?_append_right (by simpa using hi)] at h2
        rw [List.getElem?_replicate] at h2
        split at h2 <;> cases h2
    have ha : vs[i]? = some v := by
      unfold start at h2
      rw [List.getElem?_append_left (by simpa using hi), List.getElem?_map] at h2
      cases e : vs[i]? with
      | none => rw [e] at h2; cases h2
      | some a => rw [e] at h2; cases h2; rfl
    obtain ⟨u, hu, rv⟩ := r.get ha
    have hp : ps[i]? = some y := by
      rw [← S.pre, List.getElem?_take_of_lt (by omega)]; exact h1
    have ndP : ps.Nodup := by rw [← S.pre]; exact S.nd.sublist (List.take_sublist _ _)
    refine ⟨u, rv, ?_⟩
    rcases S.par y (List.mem_of_getElem? hp) with k | k
    · exact .inl ⟨k, bindL_get ndP hp hu k⟩
    · obtain ⟨c, e⟩ := cell_has (n := s.heap.objs.size + 1) k
      refine .inr ⟨.inl k, c, e, ?_⟩
      have q := x.cell y c e
      rw [bindC_get ndP hp hu (by show scope.names.lookup y ≠ _; rw [k]; decide)] at q
      exact q
  · exact e0.hok.fresh (Nat.le_of_lt (x.above y c (PySem.mem_of_lookup h)))
  · unfold start
    show _ = N.length
    rw [List.length_append, List.length_map, List.length_replicate]
    omega

/-- THE RULE: a def (or a method) of the text, by its body. The body's reading t is chosen for each entry; it is run at the parameters' values -/
theorem fn_of {CX : CXT} {P : Program} {w : World} {K : PySem.W.Frag} {mg : Str → Option Value} {base : Heap} {k : Nat} {f : Addr} {name qual : Str} {params : Arguments} {body : List Stmt} {scope : Scope} {dV kV doc pm cdv ct oc : Value} {an od : Option Addr}
    {osl : Array (Option Value)} {N ps : List Str} {sp : Sp} (lk : K.lookup f = some ⟨oc, od, .func (PySem.W.fnOf name qual params body scope dV kV doc pm an cdv ct), osl⟩) (hcd : PySem.W.codeIn K cdv qual = true) (S : FnScope N ps scope)
    (len : ∀ vs H Q E, sp vs H Q E → vs.length = ps.length)
    (hbody : ∀ (A : Around) (outer : List Env) (s : Shared) (H : Hp) (vs : List V) (Q : VK) (E : XK), Room k (A.deeper (envOfC qual scope s.heap.objs.size f cdv)) → sp vs H Q E →
      ∃ t, PSs (cxOf CX P w K mg base N qual scope f cdv A outer s H E) body t ∧ t { nx := fun _ H' => Q .non H', rt := Q } (start N vs) H) :
    FnOk P w K mg base CX (k + 1) f (PySem.W.fnOf name qual params body scope dV kV doc pm an cdv ct) ps sp := by
  refine ⟨len, fun A outer s H args us vs Q E hr e0 hb r hsp => ?_⟩
  have hl := len _ _ _ _ hsp
  have KX : K.In s.heap := e0.mod.kin.keeps fun b o e => (e0.bs b o e).1
  have lim : s.heap.NoLimit := e0.mod.nolimit.keeps fun b o e => (e0.bs b o e).1
  have hkind : ∀ y ∈ ps.zip us, scope.names.lookup y.1 = some .local ∨ (scope.names.lookup y.1 = some .cell ∧ ((cellsFrom (s.heap.objs.size + 1) scope.names []).lookup y.1).isSome = true) := fun ⟨n, v⟩ hy => by
    rcases S.par n (List.of_mem_zip hy).1 with q | q
    · exact .inl q
    · exact .inr ⟨q, PySem.W.cellsFrom_some _ _ _ (.inl q)⟩
  refine codeAny_call_function hr.depth (KX _ _ lk) rfl S.co S.gen rfl (PySem.W.codeRec_of KX hcd) (hb _ _ _ _ ?_)
  refine wpAny_newFunctionEnv_cells S.kind hkind fun env he s1 x => ?_
  subst he
  refine ⟨lim.keeps x.toInCall.keep, codeAny_func ?_⟩
  obtain ⟨t, ht, hq⟩ := hbody A outer s H vs Q E (hr.deeper _) hsp
  have I : Inv (cxOf CX P w K mg base N qual scope f cdv A outer s H E) [] (start N vs) H s1 := inv_start S hr.hd e0 hl r x
  refine wpAny_mono (ht [] s1 (start N vs) H _ I hq) (fun fl s' hs => ?_) fun e s' hs => hs
  have fin : ∀ {σ' : St} {H' : Hp} {v : V} {u : Value}, Inv (cxOf CX P w K mg base N qual scope f cdv A outer s H E) [] σ' H' s' → RelV v u → Q v H' → CE outer P w H s Q u s' :=
    fun {σ' H' v u} J rv q => ⟨v, H', J.os, J.bare, J.base, J.hok, rv, q⟩
  cases fl with
  | ret u =>
    obtain ⟨v, σ', H', J, rv, q⟩ := hs
    exact fin J rv q
  | next =>
    obtain ⟨σ', H', J, q⟩ := hs
    exact fin (v := V.non) (u := Value.none) J rfl q
  | brk =>
    obtain ⟨_, _, _, q⟩ := hs
    exact False.elim q
  | cont =>
    obtain ⟨_, _, _, q⟩ := hs
    exact False.elim q
end L2

namespace L2
open PySem PySem.Spec PyProof.Rows
section
variable {X : Cx} {x : Str} {p pos : Pos} {e : Expr} {es : List Expr} {t : TA} {id T : String} {r : List V → Hp → VK → Prop}

def tCB (r : List V → Hp → VK → Prop) (t : TA) : TE := fun σ H Q => t σ H fun vs H1 => r vs H1 Q
/-- f(e, ..), f a built-in function -/
theorem pe_callB (hc : CallR X (.builtin id) r) (hg : Gl X x) (hm : X.mg x = none) (hv : bootBuiltins x = some (.builtin id)) (ha : PA X (e :: es) t) (hn : x ≠ "__name__" := by decide) (hdb : (x == ("__debug__" : Str)) = false := by decide)
    (he : starEach (e :: es) X.env = (false, eval e X.env) :: starEach es X.env := by rfl) (hpl : (backTo pos (starEach es X.env)).any (·.1) = false := by rfl) : PE X (.Call (.Name x p) (e :: es) [] pos) (tCB r t) := by
  intro pins s σ H Q I h
  refine wpAny_Call_Name_kw (ld_blt I hg hm hv ?_ hn hdb)
  exact PyProof.Rows.callWith_builtin1 (thn (ha pos pins s σ H _ I h) fun us s1 ⟨vs, H1, I1, r1, q1⟩ => hc pins s1 σ H1 vs us Q I1 r1 q1) he hpl
/-- T(e, ..), T a built-in type -/
theorem pe_callTy (hc : CallR X (.type T) r) (hg : Gl X x) (hm : X.mg x = none) (hv : bootBuiltins x = some (.type T)) (ha : PA X (e :: es) t) (hn : x ≠ "__name__" := by decide) (hdb : (x == ("__debug__" : Str)) = false := by decide)
    (he : starEach (e :: es) X.env = (false, eval e X.env) :: starEach es X.env := by rfl) (hpl : (backTo pos (starEach es X.env)).any (·.1) = false := by rfl) : PE X (.Call (.Name x p) (e :: es) [] pos) (tCB r t) := by
  intro pins s σ H Q I h
  refine wpAny_Call_Name_kw (ld_blt I hg hm hv ?_ hn hdb)
  exact PyProof.Rows.callWith_type1 (thn (ha pos pins s σ H _ I h) fun us s1 ⟨vs, H1, I1, r1, q1⟩ => hc pins s1 σ H1 vs us Q I1 r1 q1) he hpl
end
end L2

namespace HT
open PySem PyProof.Rows



section
open PySem.SeqAt
open PySem.AutoSeq1 (wpAny_loadPart')
open PySem.MeetsSeq PySem.MeetsSeq2 PySem.MeetsSeq3

end

section
variable {prog : Program} {w : World} {A : Around} {E : Value → Shared → Prop} {s : Shared}


/-- t + u, t not empty -/
theorem cat_tup {t b : Addr} {vs ws : List Value} {Q : Value → Shared → Prop} (ht : IsTup s.heap t vs.toArray) (hb : IsTup s.heap b ws.toArray) (hv : vs ≠ [])
    (h1 : ws = [] → Q (.ref t) s) (h2 : ws ≠ [] → Q (.ref s.heap.objs.size) { s with heap := s.heap.push { cls := .type "tuple", data := .seq (vs ++ ws).toArray } })
    (hsz : vs.length + ws.length ≤ sizeLine) : wpAny (model prog w) A (binaryOp .Add (.ref t) (.ref b)) Q E s := by
  obtain ⟨⟨cls, dd, data, sl⟩, ho, hc, n, hd⟩ := id ht
  obtain ⟨⟨cls2, dd2, data2, sl2⟩, ho2, hc2, n2, hd2⟩ := id hb
  simp only at hc hd hc2 hd2
  subst hc hd hc2 hd2
  have e : vs.toArray ++ ws.toArray = (vs ++ ws).toArray := by simp
  by_cases hw : ws = []
  · exact concat_meets ⟨_, ho, rfl⟩ ⟨_, ho2, rfl⟩ noFill_tuple_add seq_tuple_add PySem.F.slot_tuple_add PySem.F.entry_tuple_add (PySem.F.args_tuple_add_2 _ _)
      (tuple_addW1 t b vs.toArray ws.toArray n n2 dd dd2 sl sl2 (by simpa using hv) (by simp [hw])) ⟨ho, ho2, h1 hw⟩
  · refine concat_meets ⟨_, ho, rfl⟩ ⟨_, ho2, rfl⟩ noFill_tuple_add seq_tuple_add PySem.F.slot_tuple_add PySem.F.entry_tuple_add (PySem.F.args_tuple_add_2 _ _)
      (tuple_addW2 t b vs.toArray ws.toArray n n2 dd dd2 sl sl2 (by simpa using hv) (by simpa using hw) (by rw [List.size_toArray, List.size_toArray]; exact hsz)) ⟨ho, ho2, ?_⟩
    rw [e]
    exact h2 hw

/-! ### t[a:b], not the whole -/
/-- a slice's bound as a place among n (d where it is left out) -/
def sIx (n d : Nat) : Option Int → Nat
  | none => d
  | some v => if v < 0 then (v + (n : Int)).toNat else min v.toNat n
theorem sIx_le (n d : Nat) (hd : d ≤ n) (o : Option Int) : sIx n d o ≤ n := by
  cases o with
  | none => exact hd
  | some v =>
    show (if v < 0 then (v + (n : Int)).toNat else min v.toNat n) ≤ n
    by_cases hv : v < 0
    · rw [if_pos hv]; omega
    · rw [if_neg hv]; exact Nat.min_le_right _ _
theorem clip_eq (v : Int) (n d : Nat) : (if v < 0 then max (v + (n : Int)) 0 else min v (n : Int)) = ((sIx n d (some v) : Nat) : Int) := by
  show (if v < 0 then max (v + (n : Int)) 0 else min v (n : Int)) = (((if v < 0 then (v + (n : Int)).toNat else min v.toNat n) : Nat) : Int)
  by_cases hv : v < 0
  · simp only [if_pos hv]; omega
  · simp only [if_neg hv]; omega
theorem adjust_gen (lo hi : Option Int) (n : Nat) : Builtin.Slice.sliceAdjust lo hi 1 (n : Int) = (((sIx n 0 lo : Nat) : Int), ((sIx n n hi : Nat) : Int)) := by
  have h1 : ¬ ((1 : Int) < 0) := by omega
  unfold Builtin.Slice.sliceAdjust
  simp only [h1, if_false]
  refine Prod.ext ?_ ?_
  · cases lo with
    | none => rfl
    | some v => exact clip_eq v n 0
  · cases hi with
    | none => rfl
    | some v => exact clip_eq v n n
theorem places_gen (i j : Nat) : Builtin.Slice.slicePlaces (i : Int) (j : Int) 1 = j - i := by
  unfold Builtin.Slice.slicePlaces
  have h1 : (1 : Int) > 0 := by omega
  simp only [h1, if_true, Int.ediv_one]
  split <;> omega
theorem slicePart_ {v : Value} {o : Option Int} {Q : Option Int → Shared → Prop} (p : IsPart v o) (h : Q o s) : wpAny (model prog w) A (Builtin.Slice.slicePartIndex v) Q E s := by
  cases p with
  | none => exact slicePart_none h
  | int i t => exact slicePart_int h
theorem sliceApplied_gen {sl : Addr} {vl vu : Value} {lo hi : Option Int} {n : Nat} {Q : Int × Int × Nat → Shared → Prop} (hs : s.heap.IsSliceOf sl vl vu .none) (pl : IsPart vl lo) (pu : IsPart vu hi)
    (h : Q (((sIx n 0 lo : Nat) : Int), 1, sIx n n hi - sIx n 0 lo) s) : wpAny (model prog w) A (Builtin.Slice.sliceApplied (.ref sl) (pure (n : Int))) Q E s := by
  obtain ⟨os, hos, hcs, hds⟩ := id hs
  unfold Builtin.Slice.sliceApplied Builtin.Slice.sliceFields
  refine wpAny_bind (wpAny_bind (wpAny_field hos hds (x := vl) rfl (wpAny_bind (wpAny_field hos hds (x := vu) rfl (wpAny_bind (wpAny_field hos hds (x := .none) rfl (wpAny_pure ?_)))))))
  refine wpAny_bind (slicePart_none ?_)
  show wpAny _ _ (if ((1 : Int) == 0) = true then _ else _) _ _ s
  rw [if_neg (by decide)]
  refine wpAny_bind (slicePart_ pl (wpAny_bind (slicePart_ pu (wpAny_bind (wpAny_pure ?_)))))
  show wpAny _ _ (match Builtin.Slice.sliceAdjust lo hi 1 (n : Int) with | (lo, hi) => pure (lo, (1 : Int), Builtin.Slice.slicePlaces lo hi 1)) _ _ s
  rw [adjust_gen lo hi n]
  show wpAny _ _ (pure (((sIx n 0 lo : Nat) : Int), (1 : Int), Builtin.Slice.slicePlaces ((sIx n 0 lo : Nat) : Int) ((sIx n n hi : Nat) : Int) 1)) _ _ s
  rw [places_gen]
  exact wpAny_pure h
theorem pick_gen (xs : Array Value) (i k : Nat) : ((List.range k).filterMap fun (m : Nat) => xs[((i : Int) + (m : Int) * 1).toNat]?).toArray = ((xs.toList.drop i).take k).toArray := by
  have e : (fun (m : Nat) => xs[((i : Int) + (m : Int) * 1).toNat]?) = fun m => xs[i + m]? := by
    funext m
    have : ((i : Int) + (m : Int) * 1).toNat = i + m := by omega
    rw [this]
  rw [e]
  have := pick_run xs i k
  rw [List.filterMap_map] at this
  have e2 : ((fun x => xs[x]?) ∘ fun x => i + x) = fun m => xs[i + m]? := rfl
  rw [e2] at this
  rw [this]

theorem getItem_tuple_cut {t sl : Addr} {items : Array Value} {vl vu : Value} {lo hi : Option Int} {Q : Value → Shared → Prop} (ht : IsTup s.heap t items) (hs : s.heap.IsSliceOf sl vl vu .none) (pl : IsPart vl lo) (pu : IsPart vu hi)
    (hw : ¬ (sIx items.size 0 lo = 0 ∧ sIx items.size items.size hi = items.size))
    (h : Q (.ref s.heap.objs.size) { s with heap := s.heap.push { cls := .type "tuple", data := .seq ((items.toList.drop (sIx items.size 0 lo)).take (sIx items.size items.size hi - sIx items.size 0 lo)).toArray } })
    (hsz : items.size ≤ sizeLine) : wpAny (model prog w) A (getItem (.ref t) (.ref sl)) Q E s := by
  have htake : sizeOk (.seq ((items.toList.drop (sIx items.size 0 lo)).take (sIx items.size items.size hi - sIx items.size 0 lo)).toArray) := by
    show ((items.toList.drop (sIx items.size 0 lo)).take (sIx items.size items.size hi - sIx items.size 0 lo)).toArray.size ≤ sizeLine
    rw [List.size_toArray, List.length_take, List.length_drop, Array.length_toList]
    omega
  have hj : sIx items.size items.size hi ≤ items.size := sIx_le _ _ (Nat.le_refl _) hi
  obtain ⟨os, hos, hcs, hds⟩ := id hs
  have hTs : s.TypeIs (.ref sl) "slice" := ⟨os, hos, hcs⟩
  unfold getItem
  try with_reducible refine wpAny_holding ?_
  first | refine wpAny_bind (wpAny_pure ?_) | skip
  refine wpAny_bind (wpAny_sequenceKey ht.typeIs (by decide) ?_)
  refine wpAny_bind (wpAny_callSpecial?_slot (name := Str.ofString "__getitem__") ht.typeIs PyProof.Rows.slot_tuple_getitem
    (wpAny_call_entry PyProof.Rows.slot_tuple_getitem ht.typeIs entry_tuple_getitem ?_ (args_tuple_getitem _ _)))
  show wpAny _ _ (Builtin.Tuple.tupleItemsOf (.ref t) >>= _) _ _ s
  refine wpAny_bind (tupleItemsOf_ ht ?_)
  refine wpAny_bind (wpAny_typeOf hTs ?_)
  rw [if_pos (by decide)]
  refine wpAny_bind (sliceApplied_gen hs pl pu ?_)
  have hno : ¬ ((((sIx items.size 0 lo : Nat) : Int) == 0 && (1 : Int) == 1 && (sIx items.size items.size hi - sIx items.size 0 lo) == items.size) = true) := by
    intro q
    rw [Bool.and_eq_true, Bool.and_eq_true] at q
    have q1 : ((sIx items.size 0 lo : Nat) : Int) = 0 := eq_of_beq q.1.1
    have q2 : sIx items.size items.size hi - sIx items.size 0 lo = items.size := eq_of_beq q.2
    exact hw ⟨by omega, by omega⟩
  show wpAny _ _ (if (((sIx items.size 0 lo : Nat) : Int) == 0 && (1 : Int) == 1 && (sIx items.size items.size hi - sIx items.size 0 lo) == items.size) = true then _ else _) _ _ s
  rw [if_neg hno, pick_gen]
  first
    | exact wpAny_bind (m := Builtin.Tuple.tupleExact _) (wpAny_newObj_type (wpAny_pure ⟨_, rfl, wpAny_pure h⟩) htake)
    | exact wpAny_bind (m := Builtin.Tuple.tupleExact _) (wpAny_newObj_type (wpAny_bind (wpAny_pure (wpAny_pure ⟨_, rfl, wpAny_pure h⟩))) htake)
    | exact wpAny_bind (wpAny_bind (m := Builtin.Tuple.tupleExact _) (wpAny_newObj_type (wpAny_pure (wpAny_pure ⟨_, rfl, wpAny_pure h⟩)) htake))
    | exact wpAny_bind (wpAny_bind (m := Builtin.Tuple.tupleExact _) (wpAny_newObj_type (wpAny_pure ⟨_, rfl, wpAny_pure h⟩) htake))
end
end HT

namespace L2
open PySem PySem.Spec PyProof.Rows

/-! ### the parts of a slice -/
abbrev TO := St → Hp → (Option Int → Hp → Prop) → Prop
/-- a slice's part (left out, or an int) -/
def PO (X : Cx) (e : Option Expr) (t : TO) : Prop :=
  ∀ (pins : List (Addr × Obj)) (s : Shared) (σ : St) (H : Hp) (Q : Option Int → Hp → Prop), Inv X pins σ H s → t σ H Q →
    wpAny (model X.prog X.w) X.A (evalPart e X.env) (fun u s' => ∃ o H', Inv X pins σ H' s' ∧ IsPart u o ∧ Q o H') X.xe s
def tNoPart : TO := fun _ H Q => Q none H
def tPart (t : TE) : TO := fun σ H Q => t σ H fun x H1 => ∃ i, x = .int i ∧ Q (some i) H1

theorem intsAre_of {ns : List Int} : ∀ {us : List Value}, Vals (ns.map V.int) us → IntsAre us ns := by
  induction ns with
  | nil => intro us r; rw [List.map_nil] at r; cases r; exact .nil
  | cons n ns ih =>
    intro us r
    rw [List.map_cons] at r
    cases r with
    | cons r1 r2 =>
      obtain ⟨t, e⟩ := r1
      subst e
      exact .cons n t (ih r2)

section
variable {X : Cx} {e : Expr} {te : TE} {lo hi : Option Expr} {tl th : TO} {pos p2 : Pos}

theorem po_none : PO X none tNoPart := by
  intro pins s σ H Q I h
  rw [evalPart_none]
  exact wpAny_pure ⟨none, H, I, .none, h⟩
theorem po_some (h : PE X e te) : PO X (some e) (tPart te) := by
  intro pins s σ H Q I hw
  rw [evalPart_some]
  refine thn (h pins s σ H _ I hw) fun u s1 ⟨x, H1, I1, r1, q1⟩ => ?_
  obtain ⟨i, rfl, q⟩ := q1
  obtain ⟨t, rfl⟩ := r1
  exact ⟨some i, H1, I1, .int i t, q⟩

/-- what a slice of a value is, by values: the slice object stands at sl -/
def SlR (X : Cx) (r : V → Option Int → Option Int → Hp → VK → Prop) : Prop :=
  ∀ (pins : List (Addr × Obj)) (s : Shared) (σ : St) (H : Hp) (x : V) (v vl vu : Value) (lo hi : Option Int) (sl : Addr) (Q : VK), Inv X pins σ H s → RelV x v → s.heap.IsSliceOf sl vl vu .none → IsPart vl lo → IsPart vu hi → r x lo hi H Q →
    ∃ T id, typeLookup (.type T) "__getitem__" = pure (some (.builtin id)) ∧ s.TypeIs v T ∧ wpAny (model X.prog X.w) X.A (getItem v (.ref sl)) (EP X pins σ Q) X.xe s
def tSl (r : V → Option Int → Option Int → Hp → VK → Prop) (te : TE) (tl th : TO) : TE := fun σ H Q => te σ H fun x H1 => tl σ H1 fun l H2 => th σ H2 fun u H3 => r x l u H3 Q
/-- a[lo:hi], any a -/
theorem pe_slice {r : V → Option Int → Option Int → Hp → VK → Prop} (hr : SlR X r) (he : PE X e te) (hl : PO X lo tl) (hu : PO X hi th) : PE X (.Subscript e (.Slice lo hi none p2) pos) (tSl r te tl th) := by
  intro pins s σ H Q I h
  refine Subscript_ (thn (he pins s σ H _ I h) fun v s1 ⟨x, H1, I1, r1, q1⟩ => ?_)
  refine wpAny_Slice (thn (hl pins s1 σ H1 _ I1 q1) fun vl s2 ⟨l, H2, I2, pl, q2⟩ => thn (hu pins s2 σ H2 _ I2 q2) fun vu s3 ⟨u, H3, I3, pu, q3⟩ => ?_)
  rw [evalPart_none]
  refine wpAny_pure ?_
  have I4 : Inv X pins σ H3 { s3 with heap := s3.heap.push { cls := .type "slice", data := .fields #[vl, vu, .none] } } := I3.kept (t' := s3.toks) fun b ob q => Heap.get?_push_of_some _ q
  obtain ⟨T, id, hT, ht, hg⟩ := hr pins { s3 with heap := s3.heap.push { cls := .type "slice", data := .fields #[vl, vu, .none] } } σ H3 x v vl vu l u s3.heap.objs.size Q I4 r1 (Heap.IsSliceOf.new ..) pl pu q3
  show wpAny (model X.prog X.w) X.A (subscriptTail e (.Slice lo hi none p2) v (.ref s3.heap.objs.size)) (EP X pins σ Q) X.xe { s3 with heap := s3.heap.push { cls := .type "slice", data := .fields #[vl, vu, .none] } }
  exact tail_any (ops := [.ref s3.heap.objs.size, v]) ht hT hg (by with_unfolding_all rfl)

/-- the items of xs[lo:hi] -/
def cutV (xs : List V) (lo hi : Option Int) : List V := (xs.drop (HT.sIx xs.length 0 lo)).take (HT.sIx xs.length xs.length hi - HT.sIx xs.length 0 lo)
theorem cutV_length (xs : List V) (lo hi : Option Int) : (cutV xs lo hi).length ≤ xs.length := by
  unfold cutV
  rw [List.length_take, List.length_drop]
  omega
/-- t[lo:hi], not the whole of it (the whole would be t itself) -/
def rSlT (K : PySem.W.Frag) : V → Option Int → Option Int → Hp → VK → Prop := fun x lo hi H Q => ∃ a xs, x = .ref a ∧ SqT K H a xs ∧
  ¬ (HT.sIx xs.length 0 lo = 0 ∧ HT.sIx xs.length xs.length hi = xs.length) ∧ ∀ p, H p = none → Q (.ref p) (upd H p (.tup (cutV xs lo hi)))
theorem sl_tup : SlR X (rSlT X.K) := by
  intro pins s σ H x v vl vu lo hi sl Q I rx hs pl pu h
  obtain ⟨a, xs, rfl, hx, hw, q⟩ := h
  cases rx
  obtain ⟨its, r, ht, hz⟩ := I.tuple hx
  have hlen : its.toArray.size = xs.length := by rw [List.size_toArray]; exact r.length.symm
  refine ⟨"tuple", _, PyProof.Rows.slot_tuple_getitem.lookup, ht.typeIs, ?_⟩
  refine HT.getItem_tuple_cut ht hs pl pu (by rw [hlen]; exact hw) ?_ (by rw [hlen]; exact hz)
  rw [hlen]
  refine ⟨.ref s.heap.objs.size, _, I.laid (t' := s.toks) (o := .tup (cutV xs lo hi)) (fun b ob q => Heap.get?_push_of_some _ q) (Nat.le_refl _) ?_, rfl, q _ (I.hok.fresh (Nat.le_refl _))⟩
  exact ⟨Nat.le_trans (cutV_length xs lo hi) hz, _, (r.drop (HT.sIx xs.length 0 lo)).take (HT.sIx xs.length xs.length hi - HT.sIx xs.length 0 lo), IsTup.new _ _⟩

/-! ### t < u, t + u -/
/-- t + u, t not empty: u empty gives t itself -/
def rCatT (K : PySem.W.Frag) : R2 := fun x y H Q => ∃ a b xs ys, x = .ref a ∧ y = .ref b ∧ SqT K H a xs ∧ SqT K H b ys ∧ xs ≠ [] ∧ xs.length + ys.length ≤ sizeLine ∧
  (ys = [] → Q (.ref a) H) ∧ (ys ≠ [] → ∀ p, H p = none → Q (.ref p) (upd H p (.tup (xs ++ ys))))
theorem Vals.nil_iff {xs : List V} {us : List Value} (r : Vals xs us) : us = [] ↔ xs = [] := by
  cases r with
  | nil => simp
  | cons _ _ => simp
theorem op_catT : OpR X (binaryOp .Add) (rCatT X.K) := by
  intro pins s σ H x y v u Q I rx ry h
  obtain ⟨a, b, xs, ys, rfl, rfl, ha, hb, hx, hz, q1, q2⟩ := h
  cases rx
  cases ry
  obtain ⟨its, r1, p1, _⟩ := I.tuple ha
  obtain ⟨its2, r2, p2, _⟩ := I.tuple hb
  refine HT.cat_tup p1 p2 (fun z => hx (r1.nil_iff.mp z)) (fun z => ⟨.ref a, H, I, rfl, q1 (r2.nil_iff.mp z)⟩) (fun z => ?_) (by rw [← r1.length, ← r2.length]; exact hz)
  refine ⟨.ref s.heap.objs.size, _, I.laid (t' := s.toks) (o := .tup (xs ++ ys)) (fun b ob q => Heap.get?_push_of_some _ q) (Nat.le_refl _) ?_, rfl, q2 (fun w => z (r2.nil_iff.mpr w)) _ (I.hok.fresh (Nat.le_refl _))⟩
  exact ⟨by rw [List.length_append]; exact hz, _, r1.append r2, IsTup.new _ _⟩
end
end L2

namespace L2
open PySem PySem.Spec PyProof.Rows

/-! ### places -/
/-- the place that an index of any sign means -/
def ixN (n : Nat) (i : Int) : Option Nat := if 0 ≤ i then (if i < n then some i.toNat else none) else if -(n : Int) ≤ i then some (i + n).toNat else none
def atI {α : Type} (xs : List α) (i : Int) : Option α := (ixN xs.length i).bind fun j => xs[j]?
theorem ixN_seq {n : Nat} {i : Int} {j : Nat} (h : ixN n i = some j) : seqIndex? i n = some j ∧ j < n ∧ -(n : Int) ≤ i ∧ i < n := by
  unfold ixN at h
  by_cases h0 : 0 ≤ i
  · rw [if_pos h0] at h
    by_cases h1 : i < n
    · rw [if_pos h1] at h
      have e : i.toNat = j := Option.some.inj h
      exact ⟨by rw [seqIndex_of h0 h1, e], by omega, by omega, h1⟩
    · rw [if_neg h1] at h; cases h
  · rw [if_neg h0] at h
    by_cases h1 : -(n : Int) ≤ i
    · rw [if_pos h1] at h
      have e : (i + n).toNat = j := Option.some.inj h
      exact ⟨by rw [seqIndex_neg (by omega) h1, e], by omega, h1, by omega⟩
    · rw [if_neg h1] at h; cases h
theorem atI_get {α : Type} {xs : List α} {i : Int} {v : α} (h : atI xs i = some v) : ∃ j, seqIndex? i xs.length = some j ∧ xs[j]? = some v ∧ j < xs.length ∧ -(xs.length : Int) ≤ i ∧ i < xs.length := by
  unfold atI at h
  cases e : ixN xs.length i with
  | none => rw [e] at h; cases h
  | some j =>
    rw [e] at h
    obtain ⟨h1, h2, h3, h4⟩ := ixN_seq e
    exact ⟨j, h1, h, h2, h3, h4⟩
theorem atI_nat {α : Type} {xs : List α} {j : Nat} {v : α} (h : xs[j]? = some v) : atI xs (j : Int) = some v := by
  have hj : j < xs.length := (List.getElem?_eq_some_iff.mp h).1
  have e : ixN xs.length (j : Int) = some j := by
    unfold ixN
    rw [if_pos (by omega), if_pos (by omega)]; simp
  unfold atI; rw [e]; exact h

/-! ### what may be subscripted -/
/-- what stands as an index of a plain subscript -/
def PlainIx (b : Expr) : Prop := ∀ o i, subscripted b false o i = operate [o, i] (getItem o i)
/-- a subscript by values -/
def IxR (X : Cx) (r : R2) : Prop :=
  ∀ (value slice : Expr) (pins : List (Addr × Obj)) (s : Shared) (σ : St) (H : Hp) (x y : V) (v u : Value) (Q : VK), Inv X pins σ H s → RelV x v → RelV y u → r x y H Q →
    subscripted slice false v u = operate [v, u] (getItem v u) → wpAny (model X.prog X.w) X.A (subscriptTail value slice v u) (EP X pins σ Q) X.xe s
/-- a call of a builtin's method by values: the receiver, the arguments -/
def MtR (X : Cx) (id : String) (r : V → List V → Hp → VK → Prop) : Prop :=
  ∀ (pins : List (Addr × Obj)) (s : Shared) (σ : St) (H : Hp) (x : V) (xs : List V) (v : Value) (us : List Value) (Q : VK), Inv X pins σ H s → RelV x v → Vals xs us → r x xs H Q →
    wpAny (model X.prog X.w) X.A (call (.builtin id) (v :: us)) (EP X pins σ Q) X.xe s
section
variable {X : Cx} {a b : Expr} {ta tb : TE} {pos : Pos}
/-- a[b] -/
theorem pe_ix {r : R2} (hr : IxR X r) (ha : PE X a ta) (hb : PE X b tb) (hs : PlainIx b) : PE X (.Subscript a b pos) (tOp r ta tb) := by
  intro pins s σ H Q I h
  exact Subscript_ (binT ha hb I h fun v u s2 x y H2 I2 rx ry q => hr a b pins s2 σ H2 x y v u Q I2 rx ry q (hs _ _))

def rIxL (K : PySem.W.Frag) : R2 := fun x y H Q => ∃ p xs i v, x = .ref p ∧ y = .int i ∧ SqL K H p xs ∧ atI xs i = some v ∧ Q v H
def rIxT (K : PySem.W.Frag) : R2 := fun x y H Q => ∃ p xs i v, x = .ref p ∧ y = .int i ∧ SqT K H p xs ∧ atI xs i = some v ∧ Q v H
def rIxS : R2 := fun x y H Q => ∃ z i c, x = .str z ∧ y = .int i ∧ z.length ≤ sizeLine ∧ atI z.cps.toList i = some c ∧ Q (.str ⟨#[c]⟩) H
theorem ix_list : IxR X (rIxL X.K) := by
  intro value slice pins s σ H x y v u Q I rx ry h hs
  obtain ⟨p, xs, i, z, rfl, rfl, hq, he, q⟩ := h
  cases rx
  obtain ⟨t, rfl⟩ := ry
  obtain ⟨its, r, pl, hz⟩ := I.list hq
  obtain ⟨j, h1, h2, h3, h4, h5⟩ := atI_get he
  obtain ⟨w, ew, rw'⟩ := r.get h2
  have hl := r.length
  have hn := line63
  have fin : EP X pins σ Q w s := ⟨z, H, I, rw', q⟩
  by_cases h0 : 0 ≤ i
  · have hj : i.toNat = j := by
      rw [seqIndex_of h0 h5] at h1
      exact Option.some.inj h1
    exact item_listR pl.isList h0 (by omega) (by rw [hj]; simpa using ew) fin hs
  · have hj : (i + (its.toArray.size : Int)).toNat = j := by
      rw [seqIndex_neg (by omega) h4] at h1
      rw [List.size_toArray, ← hl]
      exact Option.some.inj h1
    exact subscriptTail_builtinR (x := w) pl.isList.typeIs slot_list_getitem.lookup
      (wpAny_getItem_list_neg (Q := fun r s' => r = w ∧ EP X pins σ Q r s') pl.isList (by omega) (by rw [List.size_toArray] <;> omega) (by omega) (by rw [hj]; simpa using ew) ⟨rfl, fin⟩) hs
theorem ix_tup : IxR X (rIxT X.K) := by
  intro value slice pins s σ H x y v u Q I rx ry h hs
  obtain ⟨p, xs, i, z, rfl, rfl, hq, he, q⟩ := h
  cases rx
  obtain ⟨t, rfl⟩ := ry
  obtain ⟨its, r, pl, hz⟩ := I.tuple hq
  obtain ⟨j, h1, h2, h3, h4, h5⟩ := atI_get he
  obtain ⟨w, ew, rw'⟩ := r.get h2
  have hl := r.length
  have hn := line63
  have fin : EP X pins σ Q w s := ⟨z, H, I, rw', q⟩
  exact subscriptTail_builtinR (x := w) pl.typeIs slot_tuple_getitem.lookup
    (getItem_tuple (j := j) (Q := fun r s' => r = w ∧ EP X pins σ Q r s') pl (by omega) (by omega) (by rw [List.size_toArray, ← hl]; exact h1) (by simpa using ew) ⟨rfl, fin⟩) hs
theorem ix_str : IxR X rIxS := by
  intro value slice pins s σ H x y v u Q I rx ry h hs
  obtain ⟨z, i, c, rfl, rfl, hz, he, q⟩ := h
  obtain ⟨t, rfl⟩ := rx
  obtain ⟨t', rfl⟩ := ry
  obtain ⟨j, h1, h2, h3, h4, h5⟩ := atI_get he
  have hl : z.cps.toList.length = z.length := by simp [Str.length]
  rw [hl] at h1 h4 h5
  have hn := line63
  exact tail_any (typeIs_str s z t) slot_str_getitem.lookup (getItem_str (c := c) (by
    have e1 : decide (i < -(2 ^ 63 : Int)) = false := decide_eq_false (by omega)
    have e2 : decide (i ≥ 2 ^ 63) = false := decide_eq_false (by omega)
    rw [e1, e2, Bool.or_false]) (by rw [h1]; simpa using h2) ⟨.str ⟨#[c]⟩, H, I.tok _, ⟨_, rfl⟩, q⟩) hs

/-! ### xs[i] = v, any sign -/
/-- the list's object behind a store -/
theorem mapSeq_set (its : List Value) (n j : Nat) (u : Value) : Obj.mapSeq (·.setIfInBounds j u) { cls := .type "list", data := .seq its.toArray n } = { cls := .type "list", data := .seq (its.set j u).toArray n } := by
  simp [Obj.mapSeq]
theorem Inv.lst {pins : List (Addr × Obj)} {σ : St} {H : Hp} {s : Shared} {p : Addr} {xs : List V} (I : Inv X pins σ H s) (h : H p = some (.lst xs)) :
    ∃ (its : List Value) (n : Nat), Vals xs its ∧ s.heap.get? p = some { cls := .type "list", data := .seq its.toArray n } ∧ xs.length ≤ sizeLine := by
  obtain ⟨z, its, n, r, e⟩ := I.hok p _ h
  exact ⟨its, n, r, e, z⟩
/-- the list at p is written by an update of its object -/
theorem Inv.lstUpd {pins : List (Addr × Obj)} {σ : St} {H : Hp} {s : Shared} {p : Addr} {xs ys : List V} {its its' : List Value} {n n' : Nat} {f : Obj → Obj} (I : Inv X pins σ H s) (h : H p = some (.lst xs))
    (ho : s.heap.get? p = some { cls := .type "list", data := .seq its.toArray n }) (hf : f { cls := .type "list", data := .seq its.toArray n } = { cls := .type "list", data := .seq its'.toArray n' }) (r : Vals ys its') (hz : ys.length ≤ sizeLine) (t : Nat) :
    Inv X pins σ (upd H p (.lst ys)) { s with heap := s.heap.update p f, toks := t } := by
  have e : (s.heap.update p f).get? p = some { cls := .type "list", data := .seq its'.toArray n' } := by
    rw [Heap.get?_update_self f ho (by rw [hf] <;> rfl), hf]
  refine I.write (x := p) (e := p) (by rw [h]; trivial) (.inl rfl) (fun b u hb q => (Heap.get?_update_other _ _ (Ne.symm hb)).trans q) ⟨_, e⟩ ?_
  exact ⟨hz, its', n', r, e⟩
def rSetL : V → V → V → Hp → (Hp → Prop) → Prop := fun o i v H Q => ∃ p xs k j, o = .ref p ∧ i = .int k ∧ H p = some (.lst xs) ∧ ixN xs.length k = some j ∧ Q (upd H p (.lst (xs.set j v)))
theorem set_list : PSet X rSetL := by
  intro pins s σ H o i v ov iv u Q I ro ri rv h
  obtain ⟨p, xs, k, j, rfl, rfl, hp, hj, q⟩ := h
  cases ro
  obtain ⟨t, rfl⟩ := ri
  obtain ⟨its, n, r, ho, hz⟩ := I.lst hp
  obtain ⟨h1, h2, h3, h4⟩ := ixN_seq hj
  have hl := r.length
  have hn := line63
  have I' : Inv X pins σ (upd H p (.lst (xs.set j v))) { s with heap := s.heap.update p (Obj.mapSeq (·.setIfInBounds j u)) } :=
    I.lstUpd hp ho (mapSeq_set its n j u) (r.set rv j) (by rw [List.length_set]; exact hz) s.toks
  by_cases h0 : 0 ≤ k
  · have hk : k.toNat = j := by
      rw [seqIndex_of h0 h4] at h1
      exact Option.some.inj h1
    exact PySem.W.ki_setAt ho h0 (by omega) (by rw [List.size_toArray, ← hl]; exact h4) (by rw [hk]; exact ⟨_, I', q⟩)
  · have hk : (k + (its.toArray.size : Int)).toNat = j := by
      rw [seqIndex_neg (by omega) h3] at h1
      rw [List.size_toArray, ← hl]
      exact Option.some.inj h1
    exact PySem.W.ki_setBack ho (by omega) (by rw [List.size_toArray, ← hl]; exact h3) (by omega) (by rw [hk]; exact ⟨_, I', q⟩)

/-! ### slices -/
theorem slice_bounds (lo hi : Option Int) (n : Nat) : (sliceBounds lo hi none n).1 = ((HT.sIx n 0 lo : Nat) : Int) ∧ (sliceBounds lo hi none n).2.1 = ((HT.sIx n n hi : Nat) : Int) ∧ (sliceBounds lo hi none n).2.2 = 1 := by
  refine ⟨?_, ?_, rfl⟩
  · cases lo with
    | none => simp [sliceBounds, HT.sIx]
    | some i =>
      simp only [sliceBounds, HT.sIx, Option.getD_none, show (1 : Int) > 0 by decide, if_true]
      by_cases h : i < 0
      · simp only [h, if_true] <;> omega
      · simp only [h, if_false] <;> omega
  · cases hi with
    | none => simp [sliceBounds, HT.sIx]
    | some i =>
      simp only [sliceBounds, HT.sIx, Option.getD_none, show (1 : Int) > 0 by decide, if_true]
      by_cases h : i < 0
      · simp only [h, if_true] <;> omega
      · simp only [h, if_false] <;> omega
theorem slicePick_cut (its : List Value) (lo hi : Option Int) : slicePick its.toArray lo hi none = ((its.drop (HT.sIx its.length 0 lo)).take (HT.sIx its.length its.length hi - HT.sIx its.length 0 lo)).toArray := by
  obtain ⟨h1, h2, h3⟩ := slice_bounds lo hi its.toArray.size
  unfold slicePick
  rw [h1, h2, h3]
  simp only [sliceRange_one, pick_run, List.size_toArray] <;> rfl
/-- xs[lo:hi] of a list: a new list -/
def rSlL (K : PySem.W.Frag) : V → Option Int → Option Int → Hp → VK → Prop := fun x lo hi H Q => ∃ a xs, x = .ref a ∧ SqL K H a xs ∧ ∀ p, H p = none → Q (.ref p) (upd H p (.lst (cutV xs lo hi)))
theorem sl_list : SlR X (rSlL X.K) := by
  intro pins s σ H x v vl vu lo hi sl Q I rx hs pl pu h
  obtain ⟨a, xs, rfl, hx, q⟩ := h
  cases rx
  obtain ⟨its, r, ht, hz⟩ := I.list hx
  have hlen := r.length
  refine ⟨"list", _, slot_list_getitem.lookup, ht.isList.typeIs, ?_⟩
  refine wpAny_getItem_list_slice ht.isList hs pl pu .none (by simp) ?_ (by rw [List.size_toArray] <;> omega)
  rw [slicePick_cut, ← hlen]
  refine ⟨.ref s.heap.objs.size, _, I.laid (t' := s.toks) (o := .lst (cutV xs lo hi)) (fun b ob q => Heap.get?_push_of_some _ q) (Nat.le_refl _) ?_, rfl, q _ (I.hok.fresh (Nat.le_refl _))⟩
  exact ⟨Nat.le_trans (cutV_length xs lo hi) hz, _, 0, (r.drop (HT.sIx xs.length 0 lo)).take (HT.sIx xs.length xs.length hi - HT.sIx xs.length 0 lo), Heap.get?_push_size _ rfl⟩

/-! ### in, not in: flat items -/
def flatV : V → Bool
  | .non => true
  | .bl _ => true
  | .int _ => true
  | .str _ => true
  | _ => false
/-- == of flat values -/
def eqV : V → V → Bool
  | .non, .non => true
  | .bl a, .bl b => a == b
  | .bl a, .int b => (if a then 1 else 0) == b
  | .int a, .bl b => a == (if b then 1 else 0)
  | .int a, .int b => a == b
  | .str a, .str b => a == b
  | _, _ => false
theorem eqAt_V {A : Around} {s : Shared} {y x : V} {u v : Value} (ry : RelV y u) (rx : RelV x v) (fy : flatV y = true) (fx : flatV x = true) : SeqAt.EqAt A s u v (eqV y x) := by
  cases y with
  | non =>
    cases ry
    cases x with
    | non => cases rx; exact SeqAt.EqAt.same _
    | bl b => cases rx; exact SeqAt.EqAt.none_bool b
    | int b => obtain ⟨t, rfl⟩ := rx; exact SeqAt.EqAt.none_int b t
    | str b => obtain ⟨t, rfl⟩ := rx; exact SeqAt.EqAt.none_str b t
    | _ => exact absurd (show false = true from fx) Bool.false_ne_true
  | bl a =>
    cases ry
    cases x with
    | non => cases rx; exact SeqAt.EqAt.bool_none a
    | bl b => cases rx; exact SeqAt.EqAt.bool_bool a b
    | int b => obtain ⟨t, rfl⟩ := rx; exact SeqAt.EqAt.bool_int a b t
    | str b => obtain ⟨t, rfl⟩ := rx; exact SeqAt.EqAt.bool_str a b t
    | _ => exact absurd (show false = true from fx) Bool.false_ne_true
  | int a =>
    obtain ⟨t', rfl⟩ := ry
    cases x with
    | non => cases rx; exact SeqAt.EqAt.int_none a t'
    | bl b => cases rx; exact SeqAt.EqAt.int_bool a t' b
    | int b => obtain ⟨t, rfl⟩ := rx; exact SeqAt.EqAt.int_int a t' b t
    | str b => obtain ⟨t, rfl⟩ := rx; exact SeqAt.EqAt.int_str a t' b t
    | _ => exact absurd (show false = true from fx) Bool.false_ne_true
  | str a =>
    obtain ⟨t', rfl⟩ := ry
    cases x with
    | non => cases rx; exact SeqAt.EqAt.str_none a t'
    | bl b => cases rx; exact SeqAt.EqAt.str_bool a t' b
    | int b => obtain ⟨t, rfl⟩ := rx; exact SeqAt.EqAt.str_int a t' b t
    | str b => obtain ⟨t, rfl⟩ := rx; exact SeqAt.EqAt.str_str a t' b t
    | _ => exact absurd (show false = true from fx) Bool.false_ne_true
  | _ => exact absurd (show false = true from fy) Bool.false_ne_true
/-- the items' answers, read off the values (a value's own answer does not lean on its token) -/
def eqU (x : V) (u : Value) : Bool := match u with
  | .none => eqV .non x
  | .bool b => eqV (.bl b) x
  | .int i _ => eqV (.int i) x
  | .str z _ => eqV (.str z) x
  | _ => false
theorem eqU_of {x y : V} {u : Value} (r : RelV y u) (f : flatV y = true) : eqU x u = eqV y x := by
  cases y with
  | non => cases r; rfl
  | bl b => cases r; rfl
  | int i => obtain ⟨t, rfl⟩ := r; rfl
  | str z => obtain ⟨t, rfl⟩ := r; rfl
  | _ => exact absurd (show false = true from f) Bool.false_ne_true
theorem any_eqU {x : V} : ∀ {xs : List V} {us : List Value}, Vals xs us → xs.all flatV = true → us.any (eqU x) = xs.any fun y => eqV y x
  | _, _, .nil, _ => rfl
  | y :: xs, u :: us, .cons r t, f => by
    rw [List.all_cons, Bool.and_eq_true] at f
    rw [List.any_cons, List.any_cons, eqU_of r f.1, any_eqU t f.2]
theorem mem_eqAt {A : Around} {s : Shared} {x : V} {v : Value} (rx : RelV x v) (fx : flatV x = true) : ∀ {xs : List V} {us : List Value}, Vals xs us → xs.all flatV = true → ∀ u ∈ us, SeqAt.EqAt A s u v (eqU x u)
  | _, _, .nil, _ => fun u hu => by cases hu
  | y :: xs, u :: us, .cons r t, f => fun u' hu => by
    rw [List.all_cons, Bool.and_eq_true] at f
    rcases List.mem_cons.mp hu with rfl | hu
    · rw [eqU_of r f.1]; exact eqAt_V r rx f.1 fx
    · exact mem_eqAt rx fx t f.2 u' hu
def inV (x : V) (xs : List V) : Bool := xs.any fun y => eqV y x
/-- x in a list or tuple of flat items -/
def rIn (K : PySem.W.Frag) (neg : Bool) : R2 := fun x y H Q => ∃ p xs, y = .ref p ∧ (SqL K H p xs ∨ SqT K H p xs) ∧ flatV x = true ∧ xs.all flatV = true ∧ Q (.bl (if neg then !inV x xs else inV x xs)) H
theorem op_in_seq : OpR X (compareOp .In) (rIn X.K false) := by
  intro pins s σ H x y v u Q I rx ry h
  obtain ⟨p, xs, rfl, hq, fx, fs, q⟩ := h
  cases ry
  rcases hq with hq | hq
  · obtain ⟨its, r, pl, hz⟩ := I.list hq
    refine SeqAt.in_listAt (eqU x) pl.isList (fun w hw => mem_eqAt rx fx r fs w (by simpa using hw)) ⟨.bl _, H, I, rfl, ?_⟩
    rw [show its.toArray.any (eqU x) = its.any (eqU x) by simp, any_eqU r fs]
    exact q
  · obtain ⟨its, r, pl, hz⟩ := I.tuple hq
    refine SeqAt.in_tupleAt (eqU x) pl (fun w hw => mem_eqAt rx fx r fs w (by simpa using hw)) ⟨.bl _, H, I, rfl, ?_⟩
    rw [show its.toArray.any (eqU x) = its.any (eqU x) by simp, any_eqU r fs]
    exact q
theorem op_notIn_seq : OpR X (compareOp .NotIn) (rIn X.K true) := by
  intro pins s σ H x y v u Q I rx ry h
  obtain ⟨p, xs, rfl, hq, fx, fs, q⟩ := h
  cases ry
  rcases hq with hq | hq
  · obtain ⟨its, r, pl, hz⟩ := I.list hq
    refine SeqAt.notIn_listAt (eqU x) pl.isList (fun w hw => mem_eqAt rx fx r fs w (by simpa using hw)) ⟨.bl _, H, I, rfl, ?_⟩
    rw [show its.toArray.any (eqU x) = its.any (eqU x) by simp, any_eqU r fs]
    exact q
  · obtain ⟨its, r, pl, hz⟩ := I.tuple hq
    refine SeqAt.notIn_tupleAt (eqU x) pl (fun w hw => mem_eqAt rx fx r fs w (by simpa using hw)) ⟨.bl _, H, I, rfl, ?_⟩
    rw [show its.toArray.any (eqU x) = its.any (eqU x) by simp, any_eqU r fs]
    exact q

/-! ### len, list(x), tuple(x) of any list or tuple that is read -/
theorem call_len_seq : CallR X (.builtin "len") (fun xs H Q => ∃ p ys, xs = [.ref p] ∧ (SqL X.K H p ys ∨ SqT X.K H p ys) ∧ Q (.int ys.length) H) := by
  intro pins s σ H xs us Q I r h
  obtain ⟨p, ys, rfl, hq, q⟩ := h
  obtain ⟨u, rfl, rx⟩ := vals1 r
  cases rx
  have hn := line63
  rcases hq with hq | hq
  · obtain ⟨its, r', pl, hz⟩ := I.list hq
    have hlen := r'.length
    exact Calls.call_len_list pl.isList (by simp only [List.size_toArray] <;> omega) ⟨.int ys.length, H, I.tok _, ⟨s.toks + 1, by rw [List.size_toArray, hlen]⟩, q⟩
  · obtain ⟨its, r', pl, hz⟩ := I.tuple hq
    have hlen := r'.length
    exact len_tuple pl (by simp only [List.size_toArray] <;> omega) ⟨.int ys.length, H, I.tok _, ⟨s.toks + 1, by rw [List.size_toArray, hlen]⟩, q⟩
theorem call_len_str : CallR X (.builtin "len") (fun xs H Q => ∃ z, xs = [.str z] ∧ z.length ≤ sizeLine ∧ Q (.int z.length) H) := by
  intro pins s σ H xs us Q I r h
  obtain ⟨z, rfl, hz, q⟩ := h
  obtain ⟨u, rfl, t, rfl⟩ := vals1 r
  have hn := line63
  exact len_str (by omega) ⟨.int z.length, H, I.tok _, ⟨_, rfl⟩, q⟩
theorem call_list_of : CallR X (.type "list") (fun xs H Q => ∃ p ys, xs = [.ref p] ∧ (SqL X.K H p ys ∨ SqT X.K H p ys) ∧ ∀ l, H l = none → Q (.ref l) (upd H l (.lst ys))) := by
  intro pins s σ H xs us Q I r h
  obtain ⟨p, ys, rfl, hq, q⟩ := h
  obtain ⟨u, rfl, rx⟩ := vals1 r
  cases rx
  have fin : ∀ (its : List Value), Vals ys its → ys.length ≤ sizeLine → ∀ (h' : Heap) (c' : Nat), (∀ b o', s.heap.get? b = some o' → h'.get? b = some o') →
      h'.get? s.heap.objs.size = some { cls := .type "list", dict := none, data := .seq its.toArray c', slots := #[] } → EP X pins σ Q (.ref s.heap.objs.size) { s with heap := h' } := fun its r' hz h' c' kp e =>
    ⟨.ref s.heap.objs.size, _, I.laid (t' := s.toks) kp (Nat.le_refl _) (show ObjOk X.prog X.w _ h' _ (.lst ys) from ⟨hz, its, c', r', e⟩), rfl, q _ (I.hok.fresh (Nat.le_refl _))⟩
  rcases hq with hq | hq
  · obtain ⟨its, r', pl, hz⟩ := I.list hq
    have hlen := r'.length
    obtain ⟨o, ho, hc, n, hd⟩ := pl.isList
    exact call_list_seq p (.inl rfl) ho hc hd (fun h' c' kp e => fin its r' hz h' c' kp e) (by simp only [List.size_toArray] <;> omega)
  · obtain ⟨its, r', pl, hz⟩ := I.tuple hq
    have hlen := r'.length
    obtain ⟨o, ho, hc, n, hd⟩ := pl
    exact call_list_seq p (.inr rfl) ho hc hd (fun h' c' kp e => fin its r' hz h' c' kp e) (by simp only [List.size_toArray] <;> omega)
theorem call_tuple_of : CallR X (.type "tuple") (fun xs H Q => ∃ p ys, xs = [.ref p] ∧ ((SqL X.K H p ys ∧ ∀ l, H l = none → Q (.ref l) (upd H l (.tup ys))) ∨ (SqT X.K H p ys ∧ Q (.ref p) H))) := by
  intro pins s σ H xs us Q I r h
  obtain ⟨p, ys, rfl, h⟩ := h
  obtain ⟨u, rfl, rx⟩ := vals1 r
  cases rx
  rcases h with ⟨hq, q⟩ | ⟨hq, q⟩
  · obtain ⟨its, r', pl, hz⟩ := I.list hq
    have hlen := r'.length
    refine call_tuple_list pl.isList (fun h' kp => ?_) (by simp only [List.size_toArray] <;> omega)
    have I1 : Inv X pins σ H { s with heap := h' } := I.kept (t' := s.toks) kp
    have I2 : Inv X pins σ (upd H h'.objs.size (.tup ys)) { s with heap := h'.push { cls := .type "tuple", data := .seq its.toArray } } :=
      I1.laid (t' := s.toks) (fun b o e => Heap.get?_push_of_some _ e) (Nat.le_refl _) (show ObjOk X.prog X.w _ _ _ (.tup ys) from ⟨hz, its, r', IsTup.new _ _⟩)
    exact ⟨.ref h'.objs.size, _, I2, rfl, q _ (I1.hok.fresh (Nat.le_refl _))⟩
  · obtain ⟨its, r', pl, hz⟩ := I.tuple hq
    exact call_tuple_same pl ⟨.ref p, H, I, rfl, q⟩

/-! ### the call of a builtin's method: o.m(..) -/
/-- the value is of that builtin type -/
def tyV (K : PySem.W.Frag) (T : String) (x : V) (H : Hp) : Prop := match x with
  | .str _ => T = "str"
  | .int _ => T = "int"
  | .ref p => (T = "list" ∧ ∃ xs, SqL K H p xs) ∨ (T = "tuple" ∧ ∃ o, K.lookup p = some o ∧ o.cls = .type "tuple" ∧ o.dict = none) ∨
      (T = "dict" ∧ ((∃ kvs, H p = some (.dK kvs)) ∨ ∃ kvs, H p = some (.dT kvs))) ∨ (T = "set" ∧ ∃ S n, H p = some (.set S n))
  | _ => False
theorem tyV_is {pins : List (Addr × Obj)} {σ : St} {H : Hp} {s : Shared} {T : String} {x : V} {v : Value} (I : Inv X pins σ H s) (r : RelV x v) (ty : tyV X.K T x H) :
    s.TypeIs v T ∧ ∀ a, v = .ref a → ∃ ob, s.heap.get? a = some ob ∧ ob.dict = none := by
  cases x with
  | str z =>
    obtain ⟨t, rfl⟩ := r
    cases (show T = "str" from ty)
    exact ⟨typeIs_str s z t, fun _ e => nomatch e⟩
  | int i =>
    obtain ⟨t, rfl⟩ := r
    cases (show T = "int" from ty)
    exact ⟨typeIs_int s i t, fun _ e => nomatch e⟩
  | ref p =>
    cases r
    rcases ty with ⟨rfl, xs, hq⟩ | ⟨rfl, o, hk, hc, hd⟩ | ⟨rfl, hk⟩ | ⟨rfl, S, n, hk⟩
    · obtain ⟨its, _, pl, _⟩ := I.list hq
      refine ⟨pl.isList.typeIs, fun a e => ?_⟩
      cases e
      obtain ⟨o, n, e, c, hd, _⟩ := pl
      exact ⟨o, e, hd⟩
    · refine ⟨⟨o, I.kIn p o hk, hc⟩, fun a e => ?_⟩
      cases e
      exact ⟨o, I.kIn _ o hk, hd⟩
    · have z : ∃ o, s.heap.get? p = some o ∧ o.ExactDict := by
        rcases hk with ⟨kvs, hk⟩ | ⟨kvs, hk⟩
        · obtain ⟨_, _, _, _, o, _, _, e, ex, _⟩ := I.hok p _ hk
          exact ⟨o, e, ex⟩
        · obtain ⟨_, _, _, _, o, _, _, e, ex, _⟩ := I.hok p _ hk
          exact ⟨o, e, ex⟩
      obtain ⟨o, e, ex⟩ := z
      refine ⟨⟨o, e, ex.1⟩, fun a e2 => ?_⟩
      cases e2
      exact ⟨o, e, ex.2.1⟩
    · obtain ⟨o, _, _, _, e, ex, _⟩ := I.hok p _ hk
      refine ⟨⟨o, e, ex.1⟩, fun a e2 => ?_⟩
      cases e2
      exact ⟨o, e, ex.2.1⟩
  | _ => exact False.elim ty
def tBM0 (K : PySem.W.Frag) (T : String) (r : V → List V → Hp → VK → Prop) (to : TE) : TE := fun σ H Q => to σ H fun x H1 => tyV K T x H1 ∧ r x [] H1 Q
def tBM (K : PySem.W.Frag) (T : String) (r : V → List V → Hp → VK → Prop) (to : TE) (t : TA) : TE := fun σ H Q => to σ H fun x H1 => tyV K T x H1 ∧ t σ H1 fun xs H2 => r x xs H2 Q
variable {o e : Expr} {es : List Expr} {to : TE} {t : TA} {name : Str} {apos cpos : Pos} {T id : String} {r : V → List V → Hp → VK → Prop}
theorem pe_bm0 (pa : PlainAttrs T) (slot : Slot T name id) (hty : typeOf (.builtin id) = pure (.type "method_descriptor")) (hm : MtR X id r) (ho : PE X o to)
    (hbase : attributeBase o name X.env (eval o X.env) = eval o X.env := by rfl) (hline : (apos.endLine == cpos.line) = true := by rfl) : PE X (.Call (.Attribute o name apos) [] [] cpos) (tBM0 X.K T r to) := by
  intro pins s σ H Q I h
  refine wpAny_Call_method0_late hbase hline (thn (ho pins s σ H _ I h) fun v s1 ⟨x, H1, I1, r1, ty, q1⟩ => ?_)
  obtain ⟨h1, h2⟩ := tyV_is I1 r1 ty
  exact ⟨T, id, pa, slot, hty, h1, h2, Calls.callWith_builtin rfl (PySem.evalArgs_none (hm pins s1 σ H1 x [] v [] Q I1 r1 .nil q1))⟩
theorem pe_bm (pa : PlainAttrs T) (slot : Slot T name id) (hty : typeOf (.builtin id) = pure (.type "method_descriptor")) (hm : MtR X id r) (ho : PE X o to) (ha : PA X (e :: es) t)
    (hbase : attributeBase o name X.env (eval o X.env) = eval o X.env := by rfl)
    (hfew : ((backTo cpos (starEach (e :: es) X.env)).all (fun x => !x.1) && (backToKw cpos (keywordEach [] X.env)).all (fun x => x.1.isSome)
      && decide ((e :: es).length + ([] : List Keyword).length + (if ([] : List Keyword).isEmpty then 0 else 1) < 30)) = true := by rfl)
    (hline : (apos.endLine == cpos.line) = true := by rfl) (hs : starEach (e :: es) X.env = (false, eval e X.env) :: starEach es X.env := by rfl) (hplain : (backTo cpos (starEach es X.env)).any (·.1) = false := by rfl) :
    PE X (.Call (.Attribute o name apos) (e :: es) [] cpos) (tBM X.K T r to t) := by
  intro pins s σ H Q I h
  refine wpAny_Call_method_late hbase hfew hline rfl (thn (ho pins s σ H _ I h) fun v s1 ⟨x, H1, I1, r1, ty, q1⟩ => ?_)
  obtain ⟨h1, h2⟩ := tyV_is I1 r1 ty
  refine ⟨T, id, pa, slot, hty, h1, h2, ?_⟩
  have hA := ha cpos pins s1 σ H1 _ I1 q1
  rw [hs] at hA ⊢
  refine Calls.callWith_builtin (by show (false || (backTo cpos (starEach es X.env)).any (·.1)) = false; rw [hplain] <;> rfl) (Calls.evalArgs_plain ?_)
  exact thn hA fun us s2 ⟨vs, H2, I2, r2, q2⟩ => hm pins s2 σ H2 x vs v us Q I2 r1 r2 q2
/- xs.append(e), list.index on a module's tuple .. are MtR facts of 06m -/
end
end L2

namespace L2
open PySem PySem.Spec PyProof.Rows

def MtM (X : Cx) (id : String) (r : V → List V → Hp → VK → Prop) : Prop :=
  ∀ (pins : List (Addr × Obj)) (s : Shared) (σ : St) (H : Hp) (x : V) (xs : List V) (v : Value) (us : List Value) (Q : VK), Inv X pins σ H s → RelV x v → Vals xs us → r x xs H Q →
    wpAny (model X.prog X.w) X.A (call (.builtin id) (v :: us)) (EP X pins σ Q) X.xe s

/-! ### lists of values -/
theorem Vals.one : ∀ {x : V} {us : List Value}, Vals [x] us → ∃ u, us = [u] ∧ RelV x u
  | _, _, .cons r .nil => ⟨_, rfl, r⟩
theorem Vals.zero : ∀ {us : List Value}, Vals [] us → us = []
  | _, .nil => rfl
theorem Vals.dropLast {xs : List V} {us : List Value} (h : Vals xs us) : Vals xs.dropLast us.dropLast := by
  induction h with
  | nil => exact .nil
  | cons r t ih =>
    cases t with
    | nil => exact .nil
    | cons q t' => exact .cons r ih
theorem Vals.reverse {xs : List V} {us : List Value} (h : Vals xs us) : Vals xs.reverse us.reverse := by
  induction h with
  | nil => exact .nil
  | cons r t ih => rw [List.reverse_cons, List.reverse_cons]; exact Vals.append ih (.cons r .nil)
theorem Vals.rep {xs : List V} {us : List Value} (h : Vals xs us) : ∀ k : Nat, Vals (List.replicate k xs).flatten (List.replicate k us).flatten
  | 0 => .nil
  | k + 1 => by
    rw [List.replicate_succ, List.replicate_succ, List.flatten_cons, List.flatten_cons]
    exact Vals.append h (Vals.rep h k)
theorem erase_last {α : Type} (l : List α) : l.eraseIdx (l.length - 1) = l.dropLast := by
  induction l with
  | nil => rfl
  | cons a r ih =>
    cases r with
    | nil => rfl
    | cons b r =>
      have e : (a :: b :: r).length - 1 = ((b :: r).length - 1) + 1 := by
        have h1 : (a :: b :: r).length = r.length + 2 := rfl
        have h2 : (b :: r).length = r.length + 1 := rfl
        omega
      rw [e, List.eraseIdx_cons_succ, ih]
      all_goals rfl
theorem foldl_rep (its : List Value) : ∀ (k : Nat) (acc : List Value),
    List.foldl (fun x1 x2 => x1 ++ x2) acc.toArray (List.replicate k its.toArray) = (acc ++ (List.replicate k its).flatten).toArray
  | 0, acc => by simp
  | k + 1, acc => by
    have e : acc.toArray ++ its.toArray = (acc ++ its).toArray := by simp
    have e2 : (acc ++ its) ++ (List.replicate k its).flatten = acc ++ (List.replicate (k + 1) its).flatten := by
      rw [List.replicate_succ, List.flatten_cons, List.append_assoc]
    rw [← e2, ← foldl_rep its k (acc ++ its), ← e, List.replicate_succ, List.foldl_cons]

section
variable {X : Cx} {pins : List (Addr × Obj)} {σ : St} {H : Hp} {s : Shared} {l b : Addr} {xs ys zs : List V}

/-! ### the two steps: a tracked list is rewritten, a new list is laid -/
theorem Inv.lset {its its' : List Value} {n : Nat} {f : Array Value → Array Value} {t' : Nat} (I : Inv X pins σ H s) (hH : H l = some (.lst xs))
    (e : s.heap.get? l = some { cls := .type "list", data := .seq its.toArray n }) (hf : f its.toArray = its'.toArray) (hv : Vals ys its') (hz : ys.length ≤ sizeLine) :
    Inv X pins σ (upd H l (.lst ys)) { s with heap := s.heap.update l (Obj.mapSeq f), toks := t' } := by
  have q := PySem.IsL.update e f
  rw [hf] at q
  refine I.write (x := l) (e := l) (by rw [hH]; exact trivial) (.inl rfl) (fun b' u hb hu => (Heap.get?_update_other s.heap (Obj.mapSeq f) (Ne.symm hb)).trans hu) ⟨_, q⟩ ?_
  exact ⟨hz, its', _, hv, q⟩
theorem Inv.lnew {its : List Value} {t' : Nat} (I : Inv X pins σ H s) (hv : Vals ys its) (hz : ys.length ≤ sizeLine) :
    Inv X pins σ (upd H s.heap.objs.size (.lst ys)) { s with heap := s.heap.push { cls := .type "list", data := .seq its.toArray }, toks := t' } :=
  I.laid (fun _ _ q => Heap.get?_push_of_some _ q) (Nat.le_refl _) ⟨hz, its, 0, hv, Heap.get?_push_size _ rfl⟩
theorem Inv.fresh (I : Inv X pins σ H s) : H s.heap.objs.size = none := I.hok.fresh (Nat.le_refl _)
theorem Inv.lstM (I : Inv X pins σ H s) (hH : H l = some (.lst xs)) : xs.length ≤ sizeLine ∧ ∃ (its : List Value) (n : Nat), Vals xs its ∧ xs.length = its.length ∧ s.heap.get? l = some { cls := .type "list", data := .seq its.toArray n } := by
  obtain ⟨z, its, n, r, e⟩ := I.hok l _ hH
  exact ⟨z, its, n, r, r.length, e⟩

theorem notLongL {n : Nat} (h : n ≤ sizeLine) : Builtin.List.listTooLong n = false := by
  unfold Builtin.List.listTooLong
  exact decide_eq_false (by omega)
end

section
variable {X : Cx}

/-! ### methods -/
def rAppend : V → List V → Hp → VK → Prop := fun x vs H Q => ∃ l xs y, x = .ref l ∧ vs = [y] ∧ H l = some (.lst xs) ∧ xs.length < sizeLine ∧ Q .non (upd H l (.lst (xs ++ [y])))
theorem mt_append : MtM X "list.append" rAppend := by
  intro pins s σ H x vs v us Q I rx rv h
  obtain ⟨l, xs, y, rfl, rfl, hH, hz, q⟩ := h
  cases rx
  obtain ⟨u, rfl, ru⟩ := rv.one
  obtain ⟨z, its, n, r, hl, e⟩ := I.lstM hH
  refine call_meets F.slot_list_append ⟨_, e, rfl⟩ F.entry_list_append (F.args_list_append_2 _ _) (PySem.list_append l its.toArray n u (by rw [List.size_toArray]; omega)) ⟨e, ?_⟩
  refine ⟨.non, _, I.lset (its' := its ++ [u]) hH e (by simp) (r.append (.cons ru .nil)) ?_, rfl, q⟩
  rw [List.length_append, List.length_singleton]
  omega

def rExtend : V → List V → Hp → VK → Prop := fun x vs H Q => ∃ l b xs zs, x = .ref l ∧ vs = [.ref b] ∧ H l = some (.lst xs) ∧ H b = some (.lst zs) ∧ xs.length + zs.length ≤ sizeLine ∧ Q .non (upd H l (.lst (xs ++ zs)))
theorem mt_extend : MtM X "list.extend" rExtend := by
  intro pins s σ H x vs v us Q I rx rv h
  obtain ⟨l, b, xs, zs, rfl, rfl, hH, hB, hz, q⟩ := h
  cases rx
  obtain ⟨u, rfl, ru⟩ := rv.one
  cases ru
  obtain ⟨z, its, n, r, hl, e⟩ := I.lstM hH
  obtain ⟨z2, its2, n2, r2, hl2, e2⟩ := I.lstM hB
  have hsz : its.toArray.size + its2.toArray.size ≤ sizeLine := by rw [List.size_toArray, List.size_toArray]; omega
  have hlong : ¬ (!its.toArray.isEmpty && Builtin.List.listTooLong (its.toArray.size + its2.toArray.size)) = true := by
    rw [notLongL hsz, Bool.and_false]
    exact Bool.false_ne_true
  refine call_meets F.slot_list_extend ⟨_, e, rfl⟩ F.entry_list_extend (F.args_list_extend_2 _ _)
    (AutoSeq1.list_extend_list_list_0 l its.toArray n b its2.toArray n2 hlong (by rw [List.size_toArray]; omega) (by omega)) ⟨e, e2, ?_⟩
  refine ⟨.non, _, I.lset (its' := its ++ its2) hH e (by simp) (r.append r2) ?_, rfl, q⟩
  rw [List.length_append]
  omega

def rPop : V → List V → Hp → VK → Prop := fun x vs H Q => ∃ l xs y, x = .ref l ∧ vs = [] ∧ H l = some (.lst xs) ∧ xs[xs.length - 1]? = some y ∧ Q y (upd H l (.lst xs.dropLast))
theorem mt_pop : MtM X "list.pop" rPop := by
  intro pins s σ H x vs v us Q I rx rv h
  obtain ⟨l, xs, y, rfl, rfl, hH, hy, q⟩ := h
  cases rx
  have hus := rv.zero
  subst hus
  obtain ⟨z, its, n, r, hl, e⟩ := I.lstM hH
  obtain ⟨u, hu, ru⟩ := r.get hy
  have hy' : its.toArray[its.toArray.size - 1]? = some u := by
    show its.toArray[its.length - 1]? = some u
    rw [← Array.getElem?_toList, ← hl]
    exact hu
  refine call_meets F.slot_list_pop ⟨_, e, rfl⟩ F.entry_list_pop (F.args_list_pop_1 _) (MeetsSeq.list_pop_last l its.toArray n u hy' (by rw [List.size_toArray]; omega)) ⟨e, ?_⟩
  refine ⟨y, _, I.lset (its' := its.dropLast) hH e ?_ r.dropLast ?_, ru, q⟩
  · show its.toArray.eraseIdxIfInBounds (its.toArray.size - 1) = its.dropLast.toArray
    rw [List.size_toArray, List.eraseIdxIfInBounds_toArray, erase_last]
  · rw [List.length_dropLast]
    omega




/-! ### list + list, list += list, list * int -/
def rCat : R2 := fun x y H Q => ∃ l b xs zs, x = .ref l ∧ y = .ref b ∧ H l = some (.lst xs) ∧ H b = some (.lst zs) ∧ xs.length + zs.length ≤ sizeLine ∧ ∀ p, H p = none → Q (.ref p) (upd H p (.lst (xs ++ zs)))
theorem op_cat : OpR X (binaryOp .Add) rCat := by
  intro pins s σ H x y v u Q I rx ry h
  obtain ⟨l, b, xs, zs, rfl, rfl, hH, hB, hz, q⟩ := h
  cases rx
  cases ry
  obtain ⟨z, its, n, r, hl, e⟩ := I.lstM hH
  obtain ⟨z2, its2, n2, r2, hl2, e2⟩ := I.lstM hB
  refine PySem.P.add_list e e2 ?_ (by rw [List.size_toArray, List.size_toArray]; omega)
  have ea : its.toArray ++ its2.toArray = (its ++ its2).toArray := by simp
  rw [ea]
  exact ⟨.ref _, _, I.lnew (t' := s.toks) (r.append r2) (by rw [List.length_append]; omega), rfl, q _ I.fresh⟩
/-- a list times an int (a negative one is nothing) -/
def rRep : R2 := fun x y H Q => ∃ l k xs, x = .ref l ∧ y = .int k ∧ H l = some (.lst xs) ∧ -(2 ^ 63) ≤ k ∧ k < 2 ^ 63 ∧ xs.length * k.toNat ≤ sizeLine ∧
  ∀ p, H p = none → Q (.ref p) (upd H p (.lst (List.replicate k.toNat xs).flatten))
theorem len_rep {α : Type} (xs : List α) (k : Nat) : (List.replicate k xs).flatten.length = k * xs.length := by
  induction k with
  | zero => simp
  | succ k ih => rw [List.replicate_succ, List.flatten_cons, List.length_append, ih, Nat.succ_mul, Nat.add_comm]
theorem op_rep : OpR X (binaryOp .Mult) rRep := by
  intro pins s σ H x y v u Q I rx ry h
  obtain ⟨l, k, xs, rfl, rfl, hH, h1, h2, hz, q⟩ := h
  cases rx
  obtain ⟨t, rfl⟩ := ry
  obtain ⟨z, its, n, r, hl, e⟩ := I.lstM hH
  have hlen : its.toArray.size * k.toNat ≤ sizeLine := by rw [List.size_toArray, ← hl]; exact hz
  have hcap : ¬ its.toArray.size * k.toNat > (2 ^ 63 - 1) / 8 := by
    have : (sizeLine : Nat) ≤ (2 ^ 63 - 1) / 8 := by decide
    omega
  have hfit : ¬ (!Builtin.List.listFitsIndex k) = true := by
    rw [fitsIndex_both h1 h2]
    exact Bool.false_ne_true
  have hlong : ¬ Builtin.List.listTooLong (its.toArray.size * k.toNat) = true := by
    rw [notLongL hlen]
    exact Bool.false_ne_true
  have hnew : List.foldl (fun x1 x2 => x1 ++ x2) #[] (List.replicate (if its.toArray.isEmpty = true then 0 else k.toNat) its.toArray) = (List.replicate k.toNat its).flatten.toArray := by
    have f0 : ∀ m : Nat, List.foldl (fun x1 x2 => x1 ++ x2) #[] (List.replicate m its.toArray) = (List.replicate m its).flatten.toArray := fun m => by
      have := foldl_rep its m []
      rw [List.nil_append] at this
      exact this
    rw [f0]
    cases its with
    | nil => simp
    | cons a r' => rw [if_neg (by simp)]
  refine wpAny_binaryOp_repeat_ref (T := "list") (U := "int") (by decide) ⟨_, e, rfl⟩ (fun s' => typeIs_int s' k t) noFill_list_mul F.fills_int_mul F.slot_int_rmul repeat_list F.slot_int_index.lookup
    (call_meets F.slot_int_rmul (typeIs_int s k t) F.entry_int_rmul (F.args_int_rmul_2 _ _) (int___rmul___int_list k t l its.toArray n)
      ⟨e, rfl, ⟨_, e, rfl⟩, call_meets F.slot_list_mul ⟨_, e, rfl⟩ F.entry_list_mul (F.args_list_mul_2 _ _) (AutoListH.list___mul___list_int_3 l its.toArray n k t hfit hcap hlong) ⟨e, ?_⟩⟩)
  rw [hnew]
  exact ⟨.ref _, _, I.lnew (t' := s.toks) (r.rep k.toNat) (by rw [len_rep, Nat.mul_comm]; exact hz), rfl, q _ I.fresh⟩

/-! ### del xs[i] -/
end

/-! ### xs[a:b] = ys -/
section
variable {prog : Program} {w : World} {A : Around} {E : Value → Shared → Prop} {s : Shared}
end

section
variable {X : Cx}
end
end L2

namespace L2
open PySem PySem.Spec PyProof.Rows

/-! ### lists of pairs as tables -/
section
variable {κ : Type} [DecidableEq κ]
def valV (kvs : List (κ × V)) (k : κ) : Option V := (kvs.find? fun kv => decide (kv.1 = k)).map (·.2)
/-- in its place, or at the end -/
def putK (kvs : List (κ × V)) (k : κ) (v : V) : List (κ × V) :=
  if (kvs.any fun kv => decide (kv.1 = k)) = true then kvs.map (fun kv => if kv.1 = k then (kv.1, v) else kv) else kvs ++ [(k, v)]

theorem valV_pos {p : κ × V} {r : List (κ × V)} {k : κ} (e : p.1 = k) : valV (p :: r) k = some p.2 := by simp [valV, List.find?_cons, e]
theorem valV_neg {p : κ × V} {r : List (κ × V)} {k : κ} (e : ¬ p.1 = k) : valV (p :: r) k = valV r k := by simp [valV, List.find?_cons, e]
theorem valV_any (k : κ) : ∀ kvs : List (κ × V), (kvs.any fun kv => decide (kv.1 = k)) = (valV kvs k).isSome
  | [] => rfl
  | p :: r => by
    rw [List.any_cons]
    by_cases e : p.1 = k
    · simp only [valV_pos e, decide_eq_true e, Bool.true_or, Option.isSome_some]
    · rw [valV_neg e, decide_eq_false e, Bool.false_or]; exact valV_any k r
theorem valV_map (k j : κ) (y : V) : ∀ kvs : List (κ × V), valV (kvs.map fun kv => if kv.1 = k then (kv.1, y) else kv) j = (valV kvs j).map fun x => if j = k then y else x
  | [] => rfl
  | p :: r => by
    have ih := valV_map k j y r
    rw [List.map_cons]
    by_cases h : p.1 = k
    · rw [if_pos h]
      by_cases e : p.1 = j
      · rw [valV_pos (p := (p.1, y)) e, valV_pos e, Option.map_some, if_pos (e.symm.trans h)]
      · rw [valV_neg (p := (p.1, y)) e, valV_neg e, ih]
    · rw [if_neg h]
      by_cases e : p.1 = j
      · rw [valV_pos (p := p) e, valV_pos e, Option.map_some, if_neg (fun z => h (e.trans z))]
      · rw [valV_neg (p := p) e, valV_neg e, ih]
theorem valV_snoc (k j : κ) (y : V) : ∀ kvs : List (κ × V), valV kvs k = none → valV (kvs ++ [(k, y)]) j = if j = k then some y else valV kvs j
  | [], _ => by
    by_cases e : k = j
    · rw [if_pos e.symm]; exact valV_pos (p := (k, y)) e
    · rw [if_neg (fun z => e z.symm)]; exact valV_neg (p := (k, y)) e
  | p :: r, hn => by
    rw [List.cons_append]
    have hk : ¬ p.1 = k := fun z => by rw [valV_pos z] at hn; cases hn
    rw [valV_neg hk] at hn
    have ih := valV_snoc k j y r hn
    by_cases e : p.1 = j
    · rw [valV_pos e, valV_pos e, if_neg (fun z => hk (e.trans z))]
    · rw [valV_neg e, valV_neg e, ih]
theorem valV_put (kvs : List (κ × V)) (k j : κ) (y : V) : valV (putK kvs k y) j = if j = k then some y else valV kvs j := by
  unfold putK
  by_cases a : (kvs.any fun kv => decide (kv.1 = k)) = true
  · rw [if_pos a, valV_map]
    rw [valV_any] at a
    by_cases e : j = k
    · obtain ⟨x, hx⟩ := Option.isSome_iff_exists.mp a
      rw [if_pos e, e, hx, Option.map_some, if_pos rfl]
    · rw [if_neg e]
      cases valV kvs j with
      | none => rfl
      | some x => rw [Option.map_some, if_neg e]
  · rw [if_neg a]
    refine valV_snoc k j y kvs ?_
    rw [valV_any] at a
    cases q : valV kvs k with
    | none => rfl
    | some x => rw [q] at a; exact (a rfl).elim
theorem length_putK (kvs : List (κ × V)) (k : κ) (v : V) : (putK kvs k v).length ≤ kvs.length + 1 := by
  unfold putK
  split
  · rw [List.length_map]; omega
  · rw [List.length_append, List.length_cons, List.length_nil]; omega

theorem RelO.isSome_eq {o : Option V} {u : Option Value} (r : RelO o u) : o.isSome = u.isSome := by
  cases o with
  | none => cases u with
    | none => rfl
    | some _ => exact (show False from r).elim
  | some _ => cases u with
    | none => exact (show False from r).elim
    | some _ => rfl

/-- raw tables of the same keys -/
theorem KV.val {kvs : List (κ × V)} {vs : List (κ × Value)} (r : KV kvs vs) (k : κ) : RelO (valV kvs k) (valueAt vs k) := by
  unfold KV at r
  induction r with
  | nil => exact True.intro
  | @cons p q ps qs h t ih =>
    obtain ⟨h1, h2⟩ := h
    by_cases e : p.1 = k
    · have e' : q.1 = k := h1.symm.trans e
      have b : valueAt (q :: qs) k = some q.2 := by simp [valueAt, List.find?_cons, e']
      rw [valV_pos e, b]; exact h2
    · have e' : ¬ q.1 = k := fun z => e (h1.trans z)
      have b : valueAt (q :: qs) k = valueAt qs k := by simp [valueAt, List.find?_cons, e']
      rw [valV_neg e, b]; exact ih
theorem KV.any {kvs : List (κ × V)} {vs : List (κ × Value)} (r : KV kvs vs) (k : κ) : (kvs.any fun kv => decide (kv.1 = k)) = vs.any fun kv => decide (kv.1 = k) := by
  unfold KV at r
  induction r with
  | nil => rfl
  | cons h t ih => rw [List.any_cons, List.any_cons, ih, h.1]
theorem KV.repl {kvs : List (κ × V)} {vs : List (κ × Value)} (r : KV kvs vs) (k : κ) {y : V} {u : Value} (ry : RelV y u) :
    KV (kvs.map fun kv => if kv.1 = k then (kv.1, y) else kv) (vs.map fun kv => if kv.1 = k then (kv.1, u) else kv) := by
  unfold KV at r ⊢
  induction r with
  | nil => exact .nil
  | @cons p q ps qs h t ih =>
    rw [List.map_cons, List.map_cons]
    refine .cons ?_ ih
    obtain ⟨h1, h2⟩ := h
    by_cases e : p.1 = k
    · rw [if_pos e, if_pos (h1.symm.trans e)]; exact ⟨h1, ry⟩
    · rw [if_neg e, if_neg (fun z => e (h1.trans z))]; exact ⟨h1, h2⟩
theorem KV.put {kvs : List (κ × V)} {vs : List (κ × Value)} (r : KV kvs vs) (k : κ) {y : V} {u : Value} (ry : RelV y u) : KV (putK kvs k y) (stored vs k u) := by
  unfold putK stored
  rw [r.any k]
  by_cases e : (vs.any fun kv => decide (kv.1 = k)) = true
  · rw [if_pos e, if_pos e]; exact r.repl k ry
  · rw [if_neg e, if_neg e]; exact Paired.snoc r ⟨rfl, ry⟩
theorem KV.length {kvs : List (κ × V)} {vs : List (κ × Value)} (r : KV kvs vs) : kvs.length = vs.length := Paired.length r
end


/-! ### a tracked dict, its keys ints and texts or tuples of these -/
theorem kV_is {P : Program} {w : World} {k : Key} {u : Value} (r : RelV (kV k) u) : (mixKind P w).is k u = true := by
  cases k with
  | inl i => obtain ⟨t, e⟩ := (show ∃ t, u = Value.int i t from r); subst e; exact mixKind_int P w i t
  | inr x => obtain ⟨t, e⟩ := (show ∃ t, u = Value.str x t from r); subst e; exact mixKind_str P w x t
theorem items_are {P : Program} {w : World} : ∀ {ks : List Key} {us : List Value}, Vals (ks.map kV) us → ItemsAre (mixKind P w) ks us
  | [], _, r => by rw [List.map_nil] at r; cases r; exact .nil
  | k :: ks, _, r => by
    rw [List.map_cons] at r
    cases r with
    | cons h t => exact .cons (kV_is h) (items_are t)

/-- raw entries of a dict with tuple keys -/
abbrev KT (H : Hp) : List (List Key × V) → List (List Key × Addr × Value) → Prop := Paired fun p q => p.1 = q.1 ∧ H q.2.1 = some (.tup (p.1.map kV)) ∧ RelV p.2 q.2.2
theorem KT.val {H : Hp} {kvs : List (List Key × V)} {xs : List (List Key × Addr × Value)} (r : KT H kvs xs) (k : List Key) : RelO (valV kvs k) ((atKey xs k).map (·.2)) := by
  induction r with
  | nil => exact True.intro
  | @cons p q ps qs h t ih =>
    obtain ⟨h1, _, h2⟩ := h
    by_cases e : p.1 = k
    · have e' : q.1 = k := h1.symm.trans e
      have b : atKey (q :: qs) k = some q.2 := by simp [atKey, List.find?_cons, e']
      rw [valV_pos e, b]; exact h2
    · have e' : ¬ q.1 = k := fun z => e (h1.trans z)
      have b : atKey (q :: qs) k = atKey qs k := by simp [atKey, List.find?_cons, e']
      rw [valV_neg e, b]; exact ih
theorem KT.repl {H : Hp} {kvs : List (List Key × V)} {xs : List (List Key × Addr × Value)} (r : KT H kvs xs) (k : List Key) {y : V} {u : Value} (ry : RelV y u) :
    KT H (kvs.map fun kv => if kv.1 = k then (kv.1, y) else kv) (xs.map (putAt k u)) := by
  induction r with
  | nil => exact .nil
  | @cons p q ps qs h t ih =>
    rw [List.map_cons, List.map_cons]
    refine .cons ?_ ih
    obtain ⟨h1, h2, h3⟩ := h
    unfold putAt
    by_cases e : p.1 = k
    · rw [if_pos e, if_pos (h1.symm.trans e)]; exact ⟨h1, h2, ry⟩
    · rw [if_neg e, if_neg (fun z => e (h1.trans z))]; exact ⟨h1, h2, h3⟩
theorem KT.put {H : Hp} {kvs : List (List Key × V)} {xs : List (List Key × Addr × Value)} (r : KT H kvs xs) (k : List Key) {b : Addr} {y : V} {u : Value} (hb : H b = some (.tup (k.map kV))) (ry : RelV y u) :
    KT H (putK kvs k y) (storedH xs k b u) := by
  have e : (kvs.any fun kv => decide (kv.1 = k)) = (atKey xs k).isSome := by
    rw [valV_any, (r.val k).isSome_eq, Option.isSome_map]
  unfold putK storedH
  rw [e]
  by_cases q : (atKey xs k).isSome = true
  · rw [if_pos q, if_pos q]; exact r.repl k ry
  · rw [if_neg q, if_neg q]; exact Paired.snoc r ⟨rfl, hb, ry⟩
theorem KT.keeps {H H' : Hp} {kvs : List (List Key × V)} {xs : List (List Key × Addr × Value)} (r : KT H kvs xs) (ht : ∀ b ys, H b = some (.tup ys) → H' b = some (.tup ys)) : KT H' kvs xs :=
  Paired.mapP r fun _ _ z => ⟨z.1, ht _ _ z.2.1, z.2.2⟩

section
variable {P : Program} {w : World} {H : Hp} {h : Heap} {a : Addr}
theorem rd_of {u : HO} (ok : HOk P w H h) (e : Rd H a u) : ObjOk P w H h a u := e.ok ok
theorem dk_rd {kvs : List (Key × V)} (ok : HOk P w H h) (e : Rd H a (.dK kvs)) : kvs.length ≤ sizeLine ∧ (a == sysModules) = false ∧ ∃ vs, KV kvs vs ∧ h.DictOf (mixKind P w) a vs :=
  show ObjOk P w H h a (.dK kvs) from rd_of ok e
theorem dk_of {kvs : List (Key × V)} (ok : HOk P w H h) (e : H a = some (.dK kvs)) : kvs.length ≤ sizeLine ∧ (a == sysModules) = false ∧ ∃ vs, KV kvs vs ∧ h.DictOf (mixKind P w) a vs := dk_rd ok (.inl e)
/-- a tracked tuple of ints and texts is a key -/
theorem key_of {ks : List Key} (ok : HOk P w H h) (e : H a = some (.tup (ks.map kV))) : (tupleKind (mixKind P w)).is h ks a := by
  obtain ⟨_, its, r, o, h1, h2, n, h3⟩ := (show ObjOk P w H h a (.tup (ks.map kV)) from ok a _ e)
  exact ⟨o, its.toArray, n, h1, h2, h3, by simpa using items_are r⟩
theorem dt_rd {kvs : List (List Key × V)} (ok : HOk P w H h) (e : Rd H a (.dT kvs)) : kvs.length ≤ sizeLine ∧ (a == sysModules) = false ∧
    ∃ xs, KT H kvs xs ∧ h.DictOfH (tupleKind (mixKind P w)) a xs := by
  obtain ⟨z, y, xs, r, o, es, ep, h1, h2, h3, h4, h5⟩ := (show ObjOk P w H h a (.dT kvs) from rd_of ok e)
  refine ⟨z, y, xs, r, o, es, ep, h1, h2, h3, h4, fun x hx => ?_, h5⟩
  have all : ∀ {l : List (List Key × V)} {m : List (List Key × Addr × Value)}, KT H l m → ∀ x ∈ m, (tupleKind (mixKind P w)).is h x.1 x.2.1 := by
    intro l m q
    induction q with
    | nil => intro x hx; exact nomatch hx
    | @cons p q ps qs hq t ih =>
      intro x hx
      rcases List.mem_cons.mp hx with e | hx
      · subst e
        exact key_of ok (by rw [← hq.1]; exact hq.2.1)
      · exact ih x hx
  exact all r x hx
theorem dt_of {kvs : List (List Key × V)} (ok : HOk P w H h) (e : H a = some (.dT kvs)) : kvs.length ≤ sizeLine ∧ (a == sysModules) = false ∧
    ∃ xs, KT H kvs xs ∧ h.DictOfH (tupleKind (mixKind P w)) a xs := dt_rd ok (.inl e)
end

/-- what the dict at a holds at the key y -/
def DGet (H : Hp) (a : Addr) (y : V) (r : Option V) : Prop :=
  (∃ kvs k, Rd H a (.dK kvs) ∧ y = kV k ∧ r = valV kvs k) ∨ ∃ kvs k b, Rd H a (.dT kvs) ∧ y = .ref b ∧ H b = some (.tup (k.map kV)) ∧ r = valV kvs k
/-- the heap behind a[y] = v -/
def DPut (H : Hp) (a : Addr) (y v : V) (H' : Hp) : Prop :=
  (∃ kvs k, H a = some (.dK kvs) ∧ y = kV k ∧ kvs.length < sizeLine ∧ H' = upd H a (.dK (putK kvs k v))) ∨
  ∃ kvs k b, H a = some (.dT kvs) ∧ y = .ref b ∧ H b = some (.tup (k.map kV)) ∧ kvs.length < sizeLine ∧ H' = upd H a (.dT (putK kvs k v))
theorem DGet.k {H : Hp} {a : Addr} {kvs : List (Key × V)} {k : Key} (e : H a = some (.dK kvs)) : DGet H a (kV k) (valV kvs k) := .inl ⟨kvs, k, .inl e, rfl, rfl⟩
theorem DPut.k {H : Hp} {a : Addr} {kvs : List (Key × V)} {k : Key} {v : V} (e : H a = some (.dK kvs)) (hl : kvs.length < sizeLine) : DPut H a (kV k) v (upd H a (.dK (putK kvs k v))) := .inl ⟨kvs, k, e, rfl, hl, rfl⟩


section
variable {X : Cx} {pins : List (Addr × Obj)} {σ : St} {H : Hp} {s : Shared} {a : Addr} {y v : V} {u r : Value} {o : Option V} {A : Around} {E : Value → Shared → Prop}

theorem Inv.big (I : Inv X pins σ H s) : sysModules < s.heap.objs.size := by
  have h : mainGlobals < s.heap.objs.size := (I.mod.glob.keeps I.bk).lt
  exact Nat.lt_trans (by decide) h

/-- d[y], there -/
theorem d_getItem {Q : Value → Shared → Prop} (hu : A.units + 1 < cLine) (I : Inv X pins σ H s) (g : DGet H a y (some v)) (ry : RelV y u) (h : ∀ w' s', Inv X pins σ H s' → RelV v w' → Q w' s') :
    wpAny (model X.prog X.w) A (getItem (.ref a) u) Q E s := by
  rcases g with ⟨kvs, k, e, ey, l⟩ | ⟨kvs, k, b, e, ey, eb, l⟩
  · subst ey
    obtain ⟨z, hd, vs, rel, dd⟩ := dk_rd I.hok e
    obtain ⟨w', hw, rw'⟩ := RelO.some_of (v := v) (o := valueAt vs k) (by rw [l]; exact rel.val k)
    exact wpAny_getItem_of (kV_is ry) dd.mapOf hw (h w' _ (I.tok _) rw')
  · subst ey
    cases (show u = Value.ref b from ry)
    obtain ⟨z, hd, xs, rel, dd⟩ := dt_rd I.hok e
    obtain ⟨w', hw, rw'⟩ := RelO.some_of (v := v) (o := (atKey xs k).map (·.2)) (by rw [l]; exact rel.val k)
    obtain ⟨p, hp, hp2⟩ := Option.map_eq_some_iff.mp hw
    refine wpAny_getItem_heap (tupleKind_room_in1 hu) (key_of I.hok eb) dd hp ?_
    rw [hp2]
    exact h w' _ (I.tok _) rw'
/-- a dict's object is replaced -/
theorem d_write {h' : Heap} {t' : Nat} {ob : HO} (I : Inv X pins σ H s) (mu : Mut (H a)) (hs : Heap.SameBut a s.heap h') (he : ∃ q, h'.get? a = some q) (new : ObjOk X.prog X.w (upd H a ob) h' a ob) :
    Inv X pins σ (upd H a ob) { s with heap := h', toks := t' } :=
  I.write (x := a) (e := a) mu (.inl rfl) (fun b q hb z => (hs.2 b hb).trans z) he new
theorem dk_new {P : Program} {w : World} {H' : Hp} {h' : Heap} {kvs : List (Key × V)} {vs : List (Key × Value)} (z : kvs.length ≤ sizeLine) (hd : (a == sysModules) = false) (rel : KV kvs vs) (dd : h'.DictOf (mixKind P w) a vs) :
    ObjOk P w H' h' a (.dK kvs) := ⟨z, hd, vs, rel, dd⟩
/-- d[y] = v -/
theorem d_setItem {H' : Hp} {Q : Unit → Shared → Prop} (hu : A.units + 1 < cLine) (I : Inv X pins σ H s) (g : DPut H a y v H') (ry : RelV y u) (rv : RelV v r) (h : ∀ s', Inv X pins σ H' s' → Q () s') :
    wpAny (model X.prog X.w) A (setItem (.ref a) u r) Q E s := by
  rcases g with ⟨kvs, k, e, ey, l, eH⟩ | ⟨kvs, k, b, e, ey, eb, l, eH⟩
  · subst ey eH
    obtain ⟨z, hd, vs, rel, dd⟩ := dk_of I.hok e
    have hz : vs.length ≤ sizeLine := by rw [← rel.length]; exact z
    have hl : (putK kvs k v).length ≤ sizeLine := by have := length_putK kvs k v; omega
    refine wpAny_setItem_pairs (hsz := hz) (kV_is ry) dd fun h' dd' hs => h _ ?_
    have he : ∃ q, h'.get? a = some q := let ⟨q, _, _, hq, _⟩ := dd'; ⟨q, hq⟩
    exact d_write I (by rw [e]; exact True.intro) hs he (dk_new hl hd (rel.put k rv) dd')
  · subst ey eH
    cases (show u = Value.ref b from ry)
    obtain ⟨z, hd, xs, rel, dd⟩ := dt_of I.hok e
    have hz : xs.length ≤ sizeLine := by rw [← Paired.length rel]; exact z
    have hl : (putK kvs k v).length ≤ sizeLine := by have := length_putK kvs k v; omega
    refine wpAny_setItem_heap (hsz := hz) (tupleKind_room_in1 hu) (key_of I.hok eb) dd fun h' dd' hs => h _ ?_
    obtain ⟨q, es, ep, hq, h2, h3, h4, _, h5⟩ := dd'
    refine d_write I (by rw [e]; exact True.intro) hs ⟨q, hq⟩ ⟨hl, hd, _, (rel.put k eb rv).keeps fun c ys ec => ?_, q, es, ep, hq, h2, h3, h4, h5⟩
    rw [upd_ne (ne_of ec e (fun z => nomatch z))]
    exact ec
end

section
variable {X : Cx} {pins : List (Addr × Obj)} {σ : St} {H : Hp} {s : Shared} {a : Addr} {kvs : List (Key × V)} {k : Key} {u : Value} {A : Around} {E : Value → Shared → Prop}
end


/-! ### readings and rules -/
/-- the element of a subscription, not a slice -/
def NoSl (i : Expr) : Prop := ∀ ov iv, subscripted i false ov iv = operate [ov, iv] (getItem ov iv)
theorem subD_of {prog : Program} {w : World} {A : Around} {E : Value → Shared → Prop} {s : Shared} {env : Env} {value slice : Expr} {pos : Pos} {T id : String} {Q : Value → Shared → Prop}
    (hl : typeLookup (.type T) "__getitem__" = pure (some (.builtin id))) (hs : NoSl slice)
    (h : wpAny (model prog w) A (eval value env) (fun o s₁ => wpAny (model prog w) A (eval slice env) (fun i s₂ => s₂.TypeIs o T ∧ wpAny (model prog w) A (getItem o i) Q E s₂) E s₁) E s) :
    wpAny (model prog w) A (eval (.Subscript value slice pos) env) Q E s := by
  refine Subscript_ (wpAny_mono h (fun o s₁ h₁ => wpAny_mono h₁ (fun i s₂ h₂ => ?_) fun _ _ x => x) fun _ _ x => x)
  obtain ⟨hT, h₂⟩ := h₂
  unfold subscriptTail
  refine wpAny_bind ?_
  rw [getitemInPython_of_ne hT.not_modules]
  refine wpAny_bind (wpAny_specialOf hT hl ?_)
  have fin : wpAny (model prog w) A (subscripted slice false o i) (fun r s₃ => wpAny (model prog w) A (letTemporaryGo value o r >>= fun _ => pure r) Q E s₃) E s₂ := by
    rw [hs o i]
    exact wpAny_operating (wpAny_mono h₂ (fun r s₃ h₃ => wpAny_bind (wpAny_letTemporaryGo (wpAny_pure h₃))) fun _ _ x => x)
  first
    | exact wpAny_pure (wpAny_bind fin)
    | exact wpAny_bind (wpAny_pure (wpAny_bind fin))
    | exact wpAny_bind fin

theorem dict_typeIs {X : Cx} {pins : List (Addr × Obj)} {σ : St} {H : Hp} {s : Shared} {a : Addr} {y : V} {o : Option V} (I : Inv X pins σ H s) (g : DGet H a y o) : s.TypeIs (.ref a) "dict" := by
  rcases g with ⟨kvs, k, e, _, _⟩ | ⟨kvs, k, b, e, _, _, _⟩
  · obtain ⟨_, _, vs, _, dd⟩ := dk_rd I.hok e
    exact dd.typeIs
  · obtain ⟨_, _, xs, _, dd⟩ := dt_rd I.hok e
    exact dd.typeIs

/-- d[y] -/
def tDGet (td ty : TE) : TE := fun σ H Q => td σ H fun x H1 => ty σ H1 fun y H2 => ∃ a v, x = .ref a ∧ DGet H2 a y (some v) ∧ Q v H2
/-- d[y] = v -/
def sDPut (td ty tv : TE) : TS := fun D σ H => tv σ H fun v H1 => td σ H1 fun x H2 => ty σ H2 fun y H3 => ∃ a H4, x = .ref a ∧ DPut H3 a y v H4 ∧ D.nx σ H4

section
variable {X : Cx} {o i e value : Expr} {pos pos' tpos : Pos} {td ty tv : TE}
theorem pe_dget (hu : X.A.units + 1 < cLine) (ho : PE X o td) (hi : PE X i ty) (hs : NoSl i) : PE X (.Subscript o i pos) (tDGet td ty) := by
  intro pins s σ H Q I h
  refine subD_of PySem.F.slot_dict_getitem.lookup hs (thn (ho pins s σ H _ I h) fun u s1 ⟨x, H1, I1, rx, q1⟩ => thn (hi pins s1 σ H1 _ I1 q1) fun iv s2 ⟨y, H2, I2, ry, a, v, ex, g, q2⟩ => ?_)
  subst ex
  obtain rfl : u = Value.ref a := rx
  exact ⟨dict_typeIs I2 g, d_getItem hu I2 g ry fun w' s3 I3 rw' => ⟨v, H2, I3, rw', q2⟩⟩
theorem ps_dput (hu : X.A.units + 1 < cLine) (ho : PE X o td) (hi : PE X i ty) (hv : PE X value tv) (hs : swapsWith value (some (.Subscript o i pos')) pos.line X.env = pure false) :
    PS X (.Assign [.Subscript o i pos'] value pos) (sDPut td ty tv) := by
  intro pins s σ H D I h
  refine wpAny_Assign_Subscript (thn (hv pins s σ H _ I h) fun r s1 ⟨v, H1, I1, rv, q1⟩ => thn (ho pins s1 σ H1 _ I1 q1) fun u s2 ⟨x, H2, I2, rx, q2⟩ => thn (hi pins s2 σ H2 _ I2 q2) fun iv s3 ⟨y, H3, I3, ry, a, H4, ex, g, q3⟩ => ?_) hs
  subst ex
  obtain rfl : u = Value.ref a := rx
  exact d_setItem hu I3 g ry rv fun s4 I4 => ⟨σ, H4, I4, q3⟩
end


/-! ### displays -/
theorem dk_empty {P : Program} {w : World} {H : Hp} (h : Heap) (hb : sysModules < h.objs.size) : ObjOk P w H (h.push { cls := .type "dict", data := .dict #[] }) h.objs.size (.dK []) :=
  ⟨Nat.zero_le _, beq_eq_false_iff_ne.mpr (Ne.symm (Nat.ne_of_lt hb)), [], .nil, Heap.DictOf.new h⟩
/-- {}, to be a dict of the kind that is wanted -/
def tDNewK : TE := fun _ H Q => ∀ p, H p = none → Q (.ref p) (upd H p (.dK []))
section
variable {X : Cx} {pos : Pos}
theorem pe_dnewK : PE X (.Dict [] [] pos) tDNewK := fun pins s σ H Q I h =>
  wpAny_Dict_empty ⟨.ref s.heap.objs.size, _, I.laid (a := s.heap.objs.size) (o := .dK []) (t' := s.toks) (fun _ _ q => Heap.get?_push_of_some _ q) (Nat.le_refl _) (dk_empty s.heap I.big), rfl, h _ (I.hok.fresh (Nat.le_refl _))⟩
end

/-- the pairs of a display, from the left -/
def tPairs : List (TE × TE) → St → Hp → (List (V × V) → Hp → Prop) → Prop
  | [], _, H, Q => Q [] H
  | (tk, tv) :: r, σ, H, Q => tk σ H fun x H1 => tv σ H1 fun y H2 => tPairs r σ H2 fun ps H3 => Q ((x, y) :: ps) H3
abbrev VV : List (V × V) → List (Value × Value) → Prop := Paired fun p q => RelV p.1 q.1 ∧ RelV p.2 q.2
def PPs (X : Cx) (pos : Pos) (keys : List (Option Expr)) (values : List Expr) (trs : List (TE × TE)) : Prop :=
  ∀ (pins : List (Addr × Obj)) (s : Shared) (σ : St) (H : Hp) (Q : List (V × V) → Hp → Prop), Inv X pins σ H s → tPairs trs σ H Q →
    wpAny (model X.prog X.w) X.A (evalPairs (pairTrees keys values X.env pos)) (fun vs s' => ∃ ps H', Inv X pins σ H' s' ∧ VV ps vs ∧ Q ps H') X.xe s
theorem pps_nil {X : Cx} {pos : Pos} : PPs X pos [] [] [] := fun pins s σ H Q I h => pairTrees_nil_walk ⟨[], H, I, .nil, h⟩
theorem pps_cons {X : Cx} {pos : Pos} {k v : Expr} {ks : List (Option Expr)} {vs : List Expr} {tk tv : TE} {trs : List (TE × TE)} (hk : PE X k tk) (hv : PE X v tv) (hr : PPs X pos ks vs trs) :
    PPs X pos (some k :: ks) (v :: vs) ((tk, tv) :: trs) := fun pins s σ H Q I h =>
  pairTrees_cons_walk (thn (hk pins s σ H _ I h) fun u s1 ⟨x, H1, I1, rx, q1⟩ => thn (hv pins s1 σ H1 _ I1 q1) fun w2 s2 ⟨y, H2, I2, ry, q2⟩ =>
    thn (hr pins s2 σ H2 _ I2 q2) fun ws s3 ⟨ps, H3, I3, rel, q3⟩ => ⟨(x, y) :: ps, H3, I3, .cons ⟨rx, ry⟩ rel, q3⟩)

def mergeK (kvs more : List (Key × V)) : List (Key × V) := more.foldl (fun acc kv => putK acc kv.1 kv.2) kvs
theorem KV.merge : ∀ {more : List (Key × V)} {rs : List (Key × Value)} {kvs : List (Key × V)} {vs : List (Key × Value)}, KV more rs → KV kvs vs → KV (mergeK kvs more) (merged vs rs) := by
  intro more rs kvs vs r
  unfold KV at r
  induction r generalizing kvs vs with
  | nil => intro q; exact q
  | @cons p q ps qs h t ih =>
    intro r0
    have e : KV (putK kvs p.1 p.2) (stored vs q.1 q.2) := by
      have := r0.put p.1 h.2
      rw [← h.1]; exact this
    exact ih e
theorem length_mergeK : ∀ (more kvs : List (Key × V)), (mergeK kvs more).length ≤ kvs.length + more.length
  | [], kvs => by show kvs.length ≤ kvs.length + 0; omega
  | p :: r, kvs => by
    have h1 := length_mergeK r (putK kvs p.1 p.2)
    have h2 := length_putK kvs p.1 p.2
    show (mergeK (putK kvs p.1 p.2) r).length ≤ _
    rw [List.length_cons]; omega
theorem carries_of {P : Program} {w : World} : ∀ {kvs : List (Key × V)} {ws : List (Value × Value)}, VV (kvs.map fun kv => (kV kv.1, kv.2)) ws → ∃ rs, Carries (mixKind P w) ws rs ∧ KV kvs rs
  | [], _, r => by rw [List.map_nil] at r; cases r; exact ⟨[], True.intro, .nil⟩
  | p :: kvs, _, r => by
    rw [List.map_cons] at r
    cases r with
    | @cons a b as bs h t =>
      obtain ⟨rs, c, q⟩ := carries_of (P := P) (w := w) t
      obtain ⟨b1, b2⟩ := b
      exact ⟨(p.1, b2) :: rs, ⟨kV_is h.1, rfl, c⟩, .cons ⟨rfl, h.2⟩ q⟩
/-- {k: v, ..} with keys ints and texts; the new dict stands empty while the pairs are made -/
def tDisp (trs : List (TE × TE)) : TE := fun σ H Q => ∀ p, H p = none → tPairs trs σ (upd H p (.dK [])) fun ps H2 => H2 p = some (.dK []) ∧ ∃ kvs : List (Key × V), ps = kvs.map (fun kv => (kV kv.1, kv.2)) ∧ kvs.length ≤ 15 ∧ Q (.ref p) (upd H2 p (.dK (mergeK [] kvs)))
theorem pe_disp {X : Cx} {pos : Pos} {keys : List (Option Expr)} {values : List Expr} {trs : List (TE × TE)} (h : PPs X pos keys values trs) (hall : keys.all (·.isSome) = true) (hl : keys.length = values.length) (h0 : keys ≠ [])
    (h15 : keys.length ≤ 15) : PE X (.Dict keys values pos) (tDisp trs) := by
  intro pins s σ H Q I q
  have hn := I.hok.fresh (Nat.le_refl s.heap.objs.size)
  have I1 := I.laid (a := s.heap.objs.size) (o := .dK []) (h' := s.heap.push { cls := .type "dict", data := .dict #[] }) (t' := s.toks) (fun _ _ q => Heap.get?_push_of_some _ q) (Nat.le_refl _) (dk_empty s.heap I.big)
  refine wpAny_Dict_walk (knd := mixKind X.prog X.w) hall hl h0 h15 (thn (h pins _ σ _ _ I1 (q _ hn)) fun ws s2 ⟨ps, H2, I2, rel, e, kvs, ep, lk, q2⟩ => ?_)
  subst ep
  obtain ⟨rs, c, rk⟩ := carries_of (P := X.prog) (w := X.w) rel
  obtain ⟨z, hd, vs0, r0, dd⟩ := dk_of I2.hok e
  cases r0
  refine ⟨rs, c, dd, fun h' dd' hs => ⟨.ref s.heap.objs.size, _, ?_, rfl, q2⟩⟩
  have hz : (mergeK [] kvs).length ≤ sizeLine := by
    have h1 := length_mergeK kvs []
    rw [List.length_nil] at h1
    rw [sizeLine_eq]; omega
  have he : ∃ q, h'.get? s.heap.objs.size = some q := let ⟨q, _, _, hq, _⟩ := dd'; ⟨q, hq⟩
  exact d_write I2 (by rw [e]; exact True.intro) hs he (dk_new hz hd (rk.merge .nil) dd')


/-! ### methods -/


section
variable {X : Cx} {pins : List (Addr × Obj)} {σ : St} {H : Hp} {s : Shared} {a : Addr} {y d : V} {u r : Value} {o : Option V} {A : Around} {E : Value → Shared → Prop}
end

section
variable {X : Cx} {o e f : Expr} {apos cpos : Pos} {td ty tx : TE}
end

/-! ### dict(d): a copy -/
section
variable {X : Cx} {pins : List (Addr × Obj)} {σ : St} {H : Hp} {s : Shared} {a : Addr} {kvs : List (Key × V)} {A : Around} {E : Value → Shared → Prop}
theorem d_copyOf {Q : Value → Shared → Prop} (I : Inv X pins σ H s) (e : Rd H a (.dK kvs)) (h : ∀ p s', H p = none → Inv X pins σ (upd H p (.dK kvs)) s' → Q (.ref p) s') : wpAny (model X.prog X.w) A (call (.type "dict") [.ref a]) Q E s := by
  obtain ⟨z, hd, vs, rel, dd⟩ := dk_rd I.hok e
  refine kt_call_dict hd dd (by rw [← rel.length]; exact z) fun h' dd' hs => ?_
  refine h _ _ (I.hok.fresh (Nat.le_refl _)) (I.laid (a := s.heap.objs.size) (o := .dK kvs) (t' := s.toks) (fun b q hq => ?_) (Nat.le_refl _) (dk_new z (beq_eq_false_iff_ne.mpr (Ne.symm (Nat.ne_of_lt I.big))) rel dd'))
  exact (hs.2 b (Nat.ne_of_lt (Heap.lt_size hq))).trans (Heap.get?_push_of_some _ hq)
end


section
variable {X : Cx} {pins : List (Addr × Obj)} {σ : St} {H : Hp} {s : Shared} {a : Addr} {y : V} {u : Value} {A : Around} {E : Value → Shared → Prop}
end
end L2

namespace Att
open PySem PySem.W PySem.Calls PyProof.Rows

/-! ### the script -/
theorem ints_of_wellAll {P : Params} {h : Heap} : ∀ (ns : List Int) (vs : List Value), WellAll P h vs (ns.map WData.int) → IntsAre vs ns := by
  intro ns
  induction ns with
  | nil =>
    intro vs w
    rw [List.map_nil] at w
    cases w
    exact .nil
  | cons n ns ih =>
    intro vs w
    rw [List.map_cons] at w
    cases w with
    | cons a b =>
      cases a
      exact .cons _ _ (ih _ b)

theorem script_of {l : OpenLaw} {n : Nat} (hn : l.most = some n) {P : Params} {h : Heap} {args : List WData} {vals : List Value}
    (hpre : l.row.toRowW.claim.pre args = true) (hwl : WellAll P h vals args) :
    ∃ a vs ns, vals = [Value.ref a] ∧ args = [WData.list (ns.map WData.int)] ∧ h.get? a = some { cls := .type "list", data := .seq vs.toArray } ∧ IntsAre vs ns ∧ ns.length ≤ n := by
  have hsh : WShape.hasAll [] args [.list .int] = true := (pre_splitW hpre).1
  have hc : l.pre.holds [] { args := args } = true := (pre_splitW hpre).2
  obtain ⟨d, r, rfl, h1, h2⟩ := hasAllW_cons hsh
  obtain rfl := hasAllW_nil h2
  obtain ⟨xs, rfl, h3⟩ := hasW_list h1
  obtain ⟨ns, rfl⟩ := items_int h3
  have hlen : ns.length ≤ n := by
    unfold OpenLaw.pre at hc
    have h4 : (WTm.not (.lt (.lit (.int (n : Int))) (.len (.arg 0)))).holds [] { args := [.list (ns.map .int)] } = true := by
      have h4 := (holds_andW hc).1
      rw [hn] at h4
      exact h4
    have h5 := condW_of h4 (w_not (w_lt w_lit (w_len_list (w_arg rfl))))
    rw [List.length_map] at h5
    refine Nat.le_of_not_lt fun q => ?_
    have q' : (n : Int) < ((ns.length : Nat) : Int) := by omega
    first
      | (rw [decide_eq_true q'] at h5; exact absurd h5 (by decide))
      | (simp at h5; omega)
  cases hwl with
  | cons w1 w2 =>
    cases w2
    cases w1 with
    | list ho hall => exact ⟨_, _, ns, rfl, rfl, ho, ints_of_wellAll ns _ hall, hlen⟩

theorem post_true (l : OpenLaw) (args : List WData) : l.row.toRowW.claim.post args (.bool true) args = true :=
  postW_of (r := l.row.toRowW) (X := (true == true))
    (show WShape.has [] (.bool true) .bool = true by first | rfl | decide | simp [WShape.has, WShape.arms, WShape.armsAll])
    (show (WTm.eq .res (.lit (.bool true))).value [] { args := args, res := some (.bool true), after := args } = some (.bool (true == true)) from w_eq_bool (w_res rfl) w_lit) rfl

/-! ### the attachment: holds_open's last premise (the goal 'hc' behind k_head) from a wpAny of the law's body -/

/-- the same from a codeAny of the CALL (for a layer whose function contracts speak of calls) -/
theorem attach_call {l : OpenLaw} {n : Nat} {q : Program} {loose : List Str} {XP : (Str → Option Value) → Heap → Prop} {YP : World → Heap → Prop} {d : DefRec}
    (hn : l.most = some n) (hdf : d.params.defaults = [])
    (call : ∀ (w : World) (s₀ s₁ : Shared) (mg mb : Str → Option Value) (fa : Addr) (o : Obj) (pm cd doc : Value) (a : Addr) (vs : List Value) (ns : List Int),
      Ground q loose [] XP w s₀ mg mb s₁.heap → YP w s₁.heap →
      s₁.heap.get? fa = some o → o.data = .func (docDef d.name d.params d.body d.scope pm cd doc) → s₁.heap.CodeRec cd d.name → mg d.name = some (.ref fa) →
      s₁.heap.get? a = some { cls := .type "list", data := .seq vs.toArray } → IntsAre vs ns → ns.length ≤ n → s₁.gens = #[] →
      codeAny (model l.prog w) callerA (.call (.ref fa) ⟨[.ref a], []⟩) (fun r s' => r = .ok (.ret (.bool true)) ∧ OldK s₁.heap s'.heap ∧ s'.os = s₁.os ∧ AllBare s'.gens) s₁) :
    WalkO q loose XP YP l.row.toRowW d [] (fun f vs => PySem.call f vs) := by
  intro w s₀ s₁ mg mb G Y fa o pm cd doc dV kV ho hd hcd hD hmg hg args vals as hpre hlay hrd hwl hlo
  obtain rfl : dV = .none := Dflts.none hD hdf
  obtain rfl : kV = .none := Dflts.noKw hD
  obtain ⟨a, vs, ns, rfl, rfl, hobj, hints, hlen⟩ := script_of hn hpre hwl
  refine enter_call (codeAny_mono (call w s₀ s₁ mg mb fa o pm cd doc a vs ns G Y ho (fd_plain hd) hcd hmg hobj hints hlen hg) fun r s' hq => ?_)
  obtain ⟨rfl, h2, h3, h4⟩ := hq
  exact ⟨.inl ⟨.bool true, .bool true, [], rfl, fun _ => rfl, .bool true, post_true l _, fun _ => ⟨List.Pairwise.nil, fun _ hm => (nomatch hm)⟩⟩, h2, h3, h4⟩


/-! ### rules over ANY heap (no ledger) from facts about the written part K: the library's own take a ledger (News) for what they write -/
section
variable {prog : Program} {w : World} {A : Around} {E : Value → Shared → Prop} {s : Shared} {K : Frag}





/-! the whole heap as the ledger: makes every rule that writes through a ledger a rule over any heap -/

end
end Att

namespace L2
open PySem PySem.Spec PyProof.Rows

theorem vals_ints : ∀ {vs : List Value} {ns : List Int}, IntsAre vs ns → Vals (ns.map V.int) vs
  | _, _, .nil => .nil
  | _, _, .cons n t h => .cons ⟨t, rfl⟩ (vals_ints h)

/-- nothing is tracked but the script, known to the object (or it is an object of the module) -/
def Only (H : Hp) : Prop := ∀ b, H b = none ∨ ∃ o xs, H b = some (.frz o (.lst xs))

/-- THE HEAD: the law's promise, at the heap behind the top. F, the promise of the law's def, may use that base is part of the heap (so K.In base, base.Ns mainGlobals mg stand in Mod) -/
theorem law_call {P : Program} {w : World} {K : PySem.W.Frag} {mg mb : Str → Option Value} {CX : CXT} {k : Nat} {fa a : Addr} {fd : FuncData} {x : Str} {sp : Sp} {s₁ : Shared} {vs : List Value} {ns : List Int}
    (KX : K.In s₁.heap) (hns : s₁.heap.Ns mainGlobals mg) (hb : s₁.heap.Ns builtinsNs mb) (hbb : ∀ x : Str, x ≠ "__name__" → mb x = bootBuiltins x) (hlim : s₁.heap.NoLimit) (hg : s₁.gens = #[])
    (ha : s₁.heap.get? a = some { cls := .type "list", data := .seq vs.toArray }) (hi : IntsAre vs ns) (hl : ns.length ≤ sizeLine) (hr : Room k callerA)
    (F : ∀ base : Heap, K.In base → base.Ns mainGlobals mg → FnOk P w K mg base CX k fa fd [x] sp) (hbind : ∀ (s : Shared) (u : Value), BindsTo s fd ⟨[u], []⟩ [(x, u)])
    (hsp : ∀ H : Hp, Only H → SqL K H a (ns.map V.int) → sp [.ref a] H (fun v _ => v = .bl true) fun _ _ _ => False)
    (hCX : ∀ H e s', CX [] H s₁ (fun _ _ _ => False) e s' → False) :
    codeAny (model P w) callerA (.call (.ref fa) ⟨[.ref a], []⟩) (fun r s' => r = .ok (.ret (.bool true)) ∧ OldK s₁.heap s'.heap ∧ s'.os = s₁.os ∧ AllBare s'.gens) s₁ := by
  have rv := vals_ints hi
  have lenV := hi.length
  -- from an abstract heap in which nothing but the script may be tracked
  have core : ∀ H : Hp, Only H → SqL K H a (ns.map V.int) → HOk P w H s₁.heap → (∀ b, H b ≠ none → b = a) → (H a ≠ none → K.lookup a = none) →
      codeAny (model P w) callerA (.call (.ref fa) ⟨[.ref a], []⟩) (fun r s' => r = .ok (.ret (.bool true)) ∧ OldK s₁.heap s'.heap ∧ s'.os = s₁.os ∧ AllBare s'.gens) s₁ := by
    intro H hO hS hok hA hK
    have base_of : ∀ {b : Addr} {o : Obj}, s₁.heap.get? b = some o → H b = none → (hidT s₁.heap H).get? b = some o := fun e n => hidT_get e n
    have noA : ∀ {b : Addr} {o : Obj} {es : Array DictEntry} {ep : Nat}, s₁.heap.get? b = some o → o.data = .dict es ep → H b = none := fun {b o es ep} e d => by
      cases q : H b with
      | none => rfl
      | some u =>
        have e' : b = a := hA b (by rw [q]; simp)
        subst e'
        rw [ha] at e; cases e
        have d' : Data.seq vs.toArray _ = Data.dict es ep := d
        cases d'
    have nsK : ∀ {b : Addr} {m : Str → Option Value}, s₁.heap.Ns b m → (hidT s₁.heap H).Ns b m := fun {b m} ⟨o, es, ep, e, d, r⟩ => ⟨o, es, ep, base_of e (noA e d), d, r⟩
    have hKb : K.In (hidT s₁.heap H) := fun b o e => base_of (KX b o e) (by
      cases q : H b with
      | none => rfl
      | some u =>
        have e' : b = a := hA b (by rw [q]; simp)
        subst e'
        rw [hK (by rw [q]; simp)] at e; cases e)
    have hM : Mod K mg (hidT s₁.heap H) := ⟨hKb, nsK hns, ⟨mb, nsK hb, hbb⟩, let ⟨mc, h1, h2⟩ := hlim; ⟨mc, nsK h1, h2⟩⟩
    have e0 : Env0 P w K mg (hidT s₁.heap H) callerA [] s₁ H := ⟨rfl, hM, fun b o e => of_hidT e, Nat.le_of_eq (hidT_size _ _), trivial, fun b hb => absurd (show b ∈ ([] : List Addr) from hb) (by simp), hok, .of_eq hg⟩
    refine codeAny_mono ((F _ hKb (nsK hns)).run callerA [] s₁ H ⟨[.ref a], []⟩ [.ref a] [.ref a] _ _ hr e0 (hbind s₁ (.ref a)) (.cons rfl .nil) (hsp H hO hS)) fun r s' h => ?_
    cases r with
    | error e => exact (hCX H e s' h).elim
    | ok fl =>
      cases fl with
      | next => exact False.elim h
      | brk => exact False.elim h
      | cont => exact False.elim h
      | ret u =>
        obtain ⟨v, H', os, bare, un, hok', r', q⟩ := h
        have q' : v = .bl true := q
        subst q'
        obtain rfl : u = Value.bool true := r'
        refine ⟨rfl, OldK.of_keep fun b o e => ?_, os, bare⟩
        cases q : H b with
        | none => exact un.keep b o e q (by intro z; exact absurd (show b ∈ ([] : List Addr) from z) (by simp)) (by simp)
        | some u =>
          rcases hO b with z | ⟨ob, xs, z⟩
          · rw [q] at z; cases z
          · have z2 := un.frzs b ob _ z
            obtain ⟨e1, _⟩ := hok b _ z
            obtain ⟨e2, _⟩ := hok' b _ z2
            rw [e] at e1; cases e1
            exact e2
  cases hk : K.lookup a with
  | some o =>
    -- the script is one of the module's own objects
    have e := KX a o hk
    rw [ha] at e
    cases e
    refine core (fun _ => none) (fun _ => .inl rfl) (.inr ⟨_, vs.toArray, _, hk, rfl, rfl, rfl, by rw [List.size_toArray, lenV]; exact hl, by simpa using rv⟩) (fun b u z => by have z' : (none : Option HO) = some u := z; cases z') (fun b z => absurd rfl z) fun z => absurd rfl z
  | none =>
    refine core (fun b => if b = a then some (.frz { cls := .type "list", data := .seq vs.toArray } (.lst (ns.map V.int))) else none) (fun b => ?_) (.inl (.inr ⟨{ cls := .type "list", data := .seq vs.toArray }, if_pos rfl⟩)) (fun b u z => ?_) (fun b z => ?_) fun _ => hk
    · by_cases hb : b = a
      · exact .inr ⟨_, _, if_pos hb⟩
      · exact .inl (if_neg hb)
    · by_cases hb : b = a
      · have z' := (if_pos hb).symm.trans z
        cases z'
        subst hb
        exact ⟨ha, by rw [List.length_map]; exact hl, vs, _, rv, ha⟩
      · have z' := (if_neg hb).symm.trans z
        cases z'
    · by_cases hb : b = a
      · exact hb
      · exact absurd (if_neg hb) z
end L2

namespace L2
open PySem PySem.Spec PyProof.Rows


/-- the goal that k_head leaves (case hc), from the law's promise. F gives the function object fd (K's own) once, then the promise over every base -/
theorem walk_of {l : PySem.W.OpenLaw} {n k : Nat} {q : Program} {loose : List Str} {XP : (Str → Option Value) → Heap → Prop} {YP : World → Heap → Prop} {d : DefRec} {K : Params → PySem.W.Frag} {CX : World → CXT} {sp : World → Sp} {x : Str}
    (hn : l.most = some n) (hn2 : n ≤ sizeLine) (hdf : d.params.defaults = []) (hr : Room k callerA)
    (hY : ∀ (w : World) (h : Heap), YP w h → (K w.params).In h)
    (F : ∀ (w : World) (mg : Str → Option Value) (fa : Addr) (h : Heap), (K w.params).In h → h.Ns mainGlobals mg → mg d.name = some (.ref fa) →
      ∃ fd : FuncData, (∀ (s : Shared) (u : Value), BindsTo s fd ⟨[u], []⟩ [(x, u)]) ∧
        ∀ base : Heap, (K w.params).In base → base.Ns mainGlobals mg → FnOk l.prog w (K w.params) mg base (CX w) k fa fd [x] (sp w))
    (hsp : ∀ (w : World) (H : Hp) (a : Addr) (ns : List Int), ns.length ≤ n → Only H → SqL (K w.params) H a (ns.map V.int) → sp w [.ref a] H (fun v _ => v = .bl true) fun _ _ _ => False)
    (hCX : ∀ (w : World) (H : Hp) (s : Shared) (e : Value) (s' : Shared), CX w [] H s (fun _ _ _ => False) e s' → False) :
    PySem.W.WalkO q loose XP YP l.row.toRowW d [] (fun f vs => PySem.call f vs) := by
  refine Att.attach_call hn hdf fun w s₀ s₁ mg mb fa o pm cd doc a vs ns G Y ho hd hcd hmg hobj hints hlen hg => ?_
  have KX := hY w _ Y
  obtain ⟨fd, hb, hF⟩ := F w mg fa _ KX G.T.g hmg
  exact law_call KX G.T.g G.T.b G.T.builtins G.T.nolimit hg hobj hints (Nat.le_trans hlen hn2) hr hF hb (fun H hO hS => hsp w H a ns hlen hO hS) fun H e s' => hCX w H s₁ e s'
end L2

/- THE LAST THEOREM (shape; LID, My.* are yours):
   My.Adr: a structure of the addresses that your layer names (classes, functions); My.Txt K t: a structure (Prop) of the equations over K;
   My.txt_mk : {K} {implicit addresses ..} (e1 : nsIn K mainGlobals "law" = some (some (.ref f))) (e2 : K.lookup f = some ⟨oc, od, .func (fnOf "law" "law" params body scope dV kV doc pm an cdv ct), sl⟩) (e3 : codeIn K cdv "law" = true) .. : ∃ t, My.Txt K t

set_option maxRecDepth 100000 in
set_option maxHeartbeats 0 in
theorem PySem.Challenge.cw_LID_holds : PySem.Challenge.rw_LID.Holds := by
  w_on; o_law; k_head; (case hw => w_witness2)
  k_fill
  refine L2.walk_of (l := PySem.Challenge.rw_LID) (n := 63) (k := 40) (x := "script") (CX := fun w => ..) (sp := fun _ => My.sp_law) rfl (by decide) rfl ⟨rfl, by decide, by decide⟩ (fun w h Y => PySem.W.kIn_of Y) ?F ?S ?C
  case F =>
    intro w mg fa h KX G hmg
    have T : ∃ t, My.Txt (L2.KOf KX) t := by
      dsimp only [L2.KOf]                          -- K must stand as «<heap const> w.params» for k_is
      refine' My.txt_mk ?e1 ?e2 ?e3 ..
      (case e1 => PySem.W.k_is)                    -- in the order: a name -> its address -> its object -> its parts
      (case e2 => PySem.W.k_is)
      ..
    obtain ⟨t, T⟩ := T
    have e0 := hmg.symm.trans (PySem.W.mg_of KX G T.law)
    cases e0                                       -- fa is the law's own address
    exact ⟨_, fun s u => .of_eq rfl, fun base kb nb => My.law_fn T kb nb⟩     -- if «.of_eq rfl» comes too early: refine' ⟨_, ?b, fun base kb nb => My.law_fn T kb nb⟩; exact fun s u => .of_eq rfl
  case S => exact fun w H a ns hl hO hS => ..
  case C => exact ..
(the tactic k_is has no namespace: write k_is) -/

/-! SHORT WORDS over the layer: a def of the text, its body, what a loop and a test want. -/
namespace L2
open PySem PySem.Spec PyProof.Rows

/-! ### the text by places -/

/-! ### no exception leaves a def -/
abbrev CX0 : CXT := fun _ _ _ _ _ _ => False
abbrev E0 : XK := fun _ _ _ => False
theorem pass0 {X : Cx} : Passes CX0 X E0 := fun _ _ _ _ _ _ _ h => h.elim

/-! ### a def (or method) of the text as it stands behind the top -/
structure Fun (K : PySem.W.Frag) (x qual : Str) (st : Stmt) (f : Addr) (fd : FuncData) : Prop where
  ex : ∃ (oc : Value) (od : Option Addr) (kV doc pm : Value) (an : Option Addr) (cdv ct : Value) (osl : Array (Option Value)),
    fd = PySem.W.fnOf x qual (defArgs st) (defBody st) (defScope st) .none kV doc pm an cdv ct ∧ K.lookup f = some ⟨oc, od, .func fd, osl⟩ ∧ PySem.W.codeIn K cdv qual = true
  kp : PySem.W.keepIn K (.ref f) = true
section
variable {P : Program} {w : World} {K : PySem.W.Frag} {mg : Str → Option Value} {base : Heap}
/-- THE RULE for a def: its body as a term of rules, and the reading of that term -/
theorem Fun.ok {x qual : Str} {st : Stmt} {f : Addr} {fd : FuncData} {N ps : List Str} {k : Nat} {sp : Sp} (F : Fun K x qual st f fd) (S : FnScope N ps (defScope st)) (len : ∀ vs H Q E, sp vs H Q E → vs.length = ps.length)
    (hbody : ∀ (cdv : Value) (A : Around) (outer : List Env) (s : Shared) (H : Hp) (vs : List V) (Q : VK) (E : XK), Room k (A.deeper (envOfC qual (defScope st) s.heap.objs.size f cdv)) → sp vs H Q E →
      ∃ t, PSs (cxOf CX0 P w K mg base N qual (defScope st) f cdv A outer s H E).nox (defBody st) t ∧ t { nx := fun _ H' => Q .non H', rt := Q } (start N vs) H) : FnOk P w K mg base CX0 (k + 1) f fd ps sp := by
  obtain ⟨oc, od, kV, doc, pm, an, cdv, ct, osl, rfl, lk, hcd⟩ := F.ex
  refine fn_of lk hcd S len fun A outer s H vs Q E hr hsp => ?_
  obtain ⟨t, h, q⟩ := hbody cdv A outer s H vs Q E hr hsp
  exact ⟨t, h.nox, q⟩
/-- how its arguments bind (no defaults): h is «fun _ _ _ _ _ _ us hl => match us, hl with | [_, _], _ => rfl», one _ a parameter -/
theorem Fun.binds {x qual : Str} {st : Stmt} {f : Addr} {fd : FuncData} {ps : List Str} (F : Fun K x qual st f fd)
    (h : ∀ (kV doc pm : Value) (an : Option Addr) (cdv ct : Value) (us : List Value), us.length = ps.length → bindArgs (PySem.W.fnOf x qual (defArgs st) (defBody st) (defScope st) .none kV doc pm an cdv ct) ⟨us, []⟩ = pure (ps.zip us)) : Binds K fd ps [] := by
  obtain ⟨oc, od, kV, doc, pm, an, cdv, ct, osl, rfl, lk, hcd⟩ := F.ex
  exact .all (h kV doc pm an cdv ct)
theorem fun_mk {x qual : Str} {st : Stmt} {f : Addr} {oc : Value} {od an : Option Addr} {osl : Array (Option Value)} {kV doc pm cdv ct : Value} (l : K.lookup f = some ⟨oc, od, .func (PySem.W.fnOf x qual (defArgs st) (defBody st) (defScope st) .none kV doc pm an cdv ct), osl⟩)
    (c : PySem.W.codeIn K cdv qual = true) (k : PySem.W.keepIn K (.ref f) = true) : Fun K x qual st f (PySem.W.fnOf x qual (defArgs st) (defBody st) (defScope st) .none kV doc pm an cdv ct) := ⟨⟨oc, od, kV, doc, pm, an, cdv, ct, osl, rfl, l, c⟩, k⟩
end
theorem hu_of {A : Around} {k : Nat} (hr : Room k A) : A.units + 1 < cLine := Nat.lt_of_le_of_lt (Nat.add_le_add_left (by decide : 1 ≤ 64) _) hr.units

/-! ### expressions in short: the name that stands in the i-th slot -/
section
variable {X : Cx}
theorem pv (i : Nat) {x : Str} {pos : Pos} (hN : X.N[i]? = some x := by rfl) (hv : Vis X.env.scope x := by first | exact Or.inl rfl | exact Or.inr (Or.inl rfl) | exact Or.inr (Or.inr rfl)) (hd : (x == ("__debug__" : Str)) = false := by decide)
    (hcd : (x == ("__classdict__" : Str)) = false := by decide) : PE X (.Name x pos) (tVar i) := pe_var hN hv hd hcd
end

/-! ### tests -/
theorem iteF {A B : Prop} (h : B) : if false = true then A else B := by
  rw [if_neg Bool.false_ne_true]
  exact h
theorem iteT {A B : Prop} (h : A) : if true = true then A else B := by
  rw [if_pos rfl]
  exact h
theorem ite2 {c A B : Prop} [Decidable c] (h1 : c → A) (h2 : ¬ c → B) : if c then A else B := by
  by_cases h : c
  · rw [if_pos h]
    exact h1 h
  · rw [if_neg h]
    exact h2 h

/-! ### heaps -/
/-- all that was tracked is as it was -/
def Same (H H' : Hp) : Prop := ∀ b o, H b = some o → H' b = some o
theorem Same.refl (H : Hp) : Same H H := fun _ _ h => h
theorem Same.trans {H H1 H2 : Hp} (a : Same H H1) (b : Same H1 H2) : Same H H2 := fun c o h => b c o (a c o h)
theorem Same.seq {K : PySem.W.Frag} {H H' : Hp} {a : Addr} {xs : List V} (e : Same H H') (h : SqL K H a xs) : SqL K H' a xs := by
  rcases h with (h | ⟨o, h⟩) | h
  · exact .inl (.inl (e _ _ h))
  · exact .inl (.inr ⟨o, e _ _ h⟩)
  · exact .inr h

end L2

namespace L2
open PySem PySem.Spec PyProof.Rows
section
variable {X : Cx}
end
/-! ### a dict's pairs: keys that differ -/
section
variable {κ : Type} [DecidableEq κ]
end
end L2


set_option Elab.async false
set_option linter.all false
set_option maxRecDepth 100000
set_option maxHeartbeats 4000000
namespace L2
open PySem PySem.Spec PyProof.Rows

/-! ### a list comprehension of one clause -/
section
variable {prog : Program} {w : World} {A : Around} {E : Value → Shared → Prop} {R : Result → Shared → Prop} {s : Shared}
theorem compLoop_gen {elt target iter : Expr} {ifs : List Expr} {scope : Scope} {pos : Pos} {it acc : Value} {env : Env} (I : Nat → Shared → Prop)
    (turn : ∀ n s, I n s → wpAny (model prog w) A (pyNext it) (fun r s1 => match r with
      | none => R (.ok .next) s1
      | some v => wpAny (model prog w) A (letOwnedTupleGo target it v) (fun _ s1' => wpAny (model prog w) A (assign target env v) (fun _ s2 =>
          wpAny (model prog w) A (forIn ifs true fun c r => if r = true then do let ok ← isTrue c env (eval c env); pure (ForInStep.yield ok) else pure (ForInStep.yield r)) (fun ok s3 =>
            if ok = true then wpAny (model prog w) A (eval elt env) (fun x s4 =>
              wpAny (model prog w) A (call (.builtin "list.append") [acc, x]) (fun _ s5 => ∃ m, m < n ∧ I m s5) (fun _ _ => False) s4) (fun _ _ => False) s3
            else ∃ m, m < n ∧ I m s3) (fun _ _ => False) s2) (fun _ _ => False) s1') (fun _ _ => False) s1) (fun _ _ => False) s)
    (n : Nat) (h : I n s) :
    codeAny (model prog w) A (.compLoop (.ListComp elt [⟨target, iter, ifs, 0⟩] scope pos) 0 it acc env) R s := by
  refine codeAny_loop rfl I (fun n s hI => ?_) n h
  show wpAny _ A ((compTurn (.ListComp elt [⟨target, iter, ifs, 0⟩] scope pos) 0 it acc env).onRaise (fun x => do noteFrame x env; theTreesLotGoes x)) _ _ s
  refine wpAny_noted ?_
  rw [compTurn_list]
  refine wpAny_bind (wpAny_standAt (wpAny_bind (wpAny_mono (turn n s hI) (fun r s₁ h₁ => ?_) fun _ _ h' => h'.elim)))
  cases r with
  | none => exact wpAny_pure h₁
  | some v =>
    refine wpAny_bind (wpAny_mono h₁ (fun _ s1' h1' => ?_) fun _ _ h' => h'.elim)
    refine wpAny_bind (wpAny_mono h1' (fun _ s₂ h₂ => wpAny_bind (wpAny_mono h₂ (fun ok s₃ h₃ => ?_) fun _ _ h' => h'.elim)) fun _ _ h' => h'.elim)
    cases ok with
    | false => exact wpAny_pure ⟨rfl, h₃⟩
    | true =>
      exact wpAny_bind (wpAny_bind (wpAny_mono h₃ (fun x s₄ h₄ => wpAny_bind (wpAny_mono h₄ (fun _ s₅ h₅ => wpAny_pure (wpAny_pure ⟨rfl, h₅⟩)) fun _ _ h' => h'.elim)) fun _ _ h' => h'.elim))
end

theorem closure_of {env : Env} : ∀ (names : List (Str × NameKind)) (cs : List (Str × Addr)), (∀ n, (n, NameKind.free) ∈ names → ∃ c, env.cells.lookup n = some c) →
    ∃ cl, (forIn names cs fun (x : Str × NameKind) (r : List (Str × Addr)) => match x with
      | (name, kind) => if (kind == NameKind.free) = true then do let c ← cellOf env name; pure (ForInStep.yield ((name, c) :: r)) else pure (ForInStep.yield r) : Sem (List (Str × Addr))) = pure cl ∧
      (∀ p ∈ cl, p ∈ cs ∨ env.cells.lookup p.1 = some p.2) ∧ (∀ p ∈ cs, p ∈ cl) ∧ (∀ n, (n, NameKind.free) ∈ names → ∃ c, (n, c) ∈ cl)
  | [], cs, _ => ⟨cs, by simp, fun p hp => .inl hp, fun p hp => hp, fun n hn => by cases hn⟩
  | (n, k) :: r, cs, h => by
    by_cases hk : (k == NameKind.free) = true
    · have hk' : k = NameKind.free := eq_of_beq hk
      subst hk'
      obtain ⟨c, hc⟩ := h n (List.mem_cons_self)
      obtain ⟨cl, e, h1, h2, h3⟩ := closure_of r ((n, c) :: cs) fun m hm => h m (List.mem_cons_of_mem _ hm)
      refine ⟨cl, ?_, fun p hp => ?_, fun p hp => h2 p (List.mem_cons_of_mem _ hp), fun m hm => ?_⟩
      · rw [List.forIn_cons]
        simp only [hk, if_true]
        unfold cellOf
        rw [hc]
        exact e
      · rcases h1 p hp with q | q
        · rcases List.mem_cons.mp q with q | q
          · subst q; exact .inr hc
          · exact .inl q
        · exact .inr q
      · rcases List.mem_cons.mp hm with q | q
        · cases q; exact ⟨c, h2 _ List.mem_cons_self⟩
        · exact h3 m q
    · obtain ⟨cl, e, h1, h2, h3⟩ := closure_of r cs fun m hm => h m (List.mem_cons_of_mem _ hm)
      refine ⟨cl, ?_, h1, h2, fun m hm => ?_⟩
      · rw [List.forIn_cons]
        simp only [hk]
        exact e
      · rcases List.mem_cons.mp hm with q | q
        · cases q; exact absurd rfl hk
        · exact h3 m q
theorem lookup_mem {κ : Type} [BEq κ] [LawfulBEq κ] {β : Type} : ∀ {l : List (κ × β)} {x : κ} {c : β}, l.lookup x = some c → (x, c) ∈ l
  | [], _, _, h => by simp at h
  | (n, k) :: r, x, c, h => by
    cases hx : x == n with
    | true =>
      simp only [List.lookup_cons, hx] at h
      cases h
      have e := eq_of_beq hx
      subst e
      exact List.mem_cons_self
    | false =>
      simp only [List.lookup_cons, hx] at h
      exact List.mem_cons_of_mem _ (lookup_mem h)
theorem mem_lookup {κ : Type} [BEq κ] [LawfulBEq κ] {β : Type} : ∀ {l : List (κ × β)} {x : κ} {c : β}, (x, c) ∈ l → ∃ c', l.lookup x = some c'
  | (n, k) :: r, x, c, h => by
    cases hx : x == n with
    | true => exact ⟨k, by simp only [List.lookup_cons, hx]⟩
    | false =>
      rcases List.mem_cons.mp h with q | q
      · cases q; simp at hx
      · obtain ⟨c', e⟩ := mem_lookup q
        exact ⟨c', by simp only [List.lookup_cons, hx]; exact e⟩
/-- the closure that a block takes along -/
theorem closure_ok {scope : Scope} {env : Env} (h : ∀ n, (n, NameKind.free) ∈ scope.names → ∃ c, env.cells.lookup n = some c) :
    ∃ cl, closureFor scope env = pure cl ∧ (∀ x c, cl.lookup x = some c → env.cells.lookup x = some c) ∧ ∀ n, (n, NameKind.free) ∈ scope.names → ∃ c, cl.lookup n = some c := by
  obtain ⟨cl, e, h1, _, h3⟩ := closure_of scope.names [] h
  refine ⟨cl, ?_, fun x c hx => ?_, fun n hn => ?_⟩
  · have e2 : closureFor scope env = ((forIn scope.names ([] : List (Str × Addr)) fun (x : Str × NameKind) (r : List (Str × Addr)) => match x with
          | (name, kind) => if (kind == NameKind.free) = true then do let c ← cellOf env name; pure (ForInStep.yield ((name, c) :: r)) else pure (ForInStep.yield r) : Sem (List (Str × Addr))) >>= fun r => pure r) := rfl
    rw [e2, e]
    rfl
  · rcases h1 _ (lookup_mem hx) with q | q
    · cases q
    · exact q
  · obtain ⟨c, hc⟩ := h3 n hn
    exact mem_lookup hc

/-- the context of a comprehension's block: N' its names, ex its iterator's records and its list -/
def compCx (X : Cx) (N' : List Str) (scope : Scope) (cl : List (Str × Addr)) (C : Addr) (ex : List Addr) (s0 : Shared) (H0 : Hp) : Cx :=
  { X with N := N', s₀ := s0, H₀ := H0, env := compEnvC scope cl C X.env, outer := X.stack, stack := X.stack, ex := ex, fn := fun _ => false, pn := [], xe := fun _ _ => False }
end L2

set_option Elab.async false
set_option linter.all false
set_option maxRecDepth 100000
set_option maxHeartbeats 4000000
namespace L2
open PySem PySem.Spec PyProof.Rows
section
variable {X : Cx} {pins : List (Addr × Obj)} {σ : St} {H : Hp} {s : Shared}
/-- an object of ours, not tracked so far, is tracked from here on -/
theorem Inv.track {a : Addr} {o : HO} (I : Inv X pins σ H s) (f : FpOk X pins H a) (new : ObjOk X.prog X.w (upd H a o) s.heap a o) : Inv X pins σ (upd H a o) s := by
  obtain ⟨f0, f1, f2, f3, f4, f5⟩ := f
  have ne : ∀ b u, H b = some u → b ≠ a := fun b u e => ne_of_none e f0
  refine ⟨I.ok, I.os, I.bare, ⟨I.base.keep, I.base.slot, fun b ob e n hx => ?_, I.base.there, fun b xs e => ?_, fun b ob u e => ?_, fun b ps e => ?_⟩, I.loc, I.cell, ?_, fun x c e => ?_, fun p hp => ?_, fun b u e => ?_, I.len⟩
  · have hb : b ≠ a := by
      rintro rfl
      rcases f3 with z | z
      · exact hx z
      · exact absurd (Nat.lt_of_lt_of_le (Heap.lt_size e) z) (Nat.lt_irrefl _)
    rw [upd_ne hb]
    exact I.base.free b ob e n hx
  · have q := I.base.tups b xs e
    rw [upd_ne (ne _ _ q)]; exact q
  · have q := I.base.frzs b ob u e
    rw [upd_ne (ne _ _ q)]; exact q
  · obtain ⟨more, q⟩ := I.base.tbls b ps e
    exact ⟨more, by rw [upd_ne (ne _ _ q)]; exact q⟩
  · rw [upd_ne (Ne.symm f1)]; exact I.free
  · rw [upd_ne (f4 x c e)]; exact I.freeC x c e
  · obtain ⟨e, n, ne', nf, d⟩ := I.pin p hp
    exact ⟨e, by rw [upd_ne (f5 p hp)]; exact n, ne', nf, d⟩
  · by_cases hb : b = a
    · subst hb
      rw [upd_same] at e; cases e
      exact new
    · rw [upd_ne hb] at e
      exact (I.hok b u e).stay (fun c v _ q => q) (fun c q => by rw [upd_ne (ne _ _ q)]; exact q) fun c xs q => by rw [upd_ne (ne _ _ q)]; exact q
end

/-- the tests of a clause -/
def PTs (X : Cx) (ifs : List Expr) (t : TT) : Prop :=
  ∀ (pins : List (Addr × Obj)) (s : Shared) (σ : St) (H : Hp) (Q : Bool → Hp → Prop), Inv X pins σ H s → t σ H Q →
    wpAny (model X.prog X.w) X.A (forIn ifs true fun c r => if r = true then do let ok ← isTrue c X.env (eval c X.env); pure (ForInStep.yield ok) else pure (ForInStep.yield r)) (TP X pins σ Q) X.xe s
def tNoTest : TT := fun _ H Q => Q true H
theorem pts_nil {X : Cx} : PTs X [] tNoTest := fun _ _ _ H _ I h => wpAny_tests_nil ⟨H, I, h⟩
theorem pts_one {X : Cx} {c : Expr} {t : TT} (h : PT X c t) : PTs X [c] t := fun pins s σ H Q I q => wpAny_tests_one (h pins s σ H Q I q)

/-- slot i of the block is slot j of the body (some j), or the block's own (none) -/
def liftSt (src : List (Option Nat)) (σ : St) : St := src.map fun o => match o with | some j => (σ[j]?).getD none | none => none
def tComp (src : List (Option Nat)) (wi : TI) (g : TG) (tt : TT) (te : TE) : TE := fun σ H Q => wi σ H fun J H1 => ∃ W : Nat → Nat → List V → St → Hp → Prop, (∃ m, W 0 m [] (liftSt src σ) H1) ∧ ∀ i m ys σc H, W i m ys σc H →
  (J.stop i H ∧ ∀ l, H l = none → Q (.ref l) (upd H l (.lst ys))) ∨
  (J.go i H ∧ ys.length < sizeLine ∧ ∀ x H', J.yld i H x H' → g x σc H' fun σ2 H2 => tt σ2 H2 fun b H3 =>
    if b = true then te σ2 H3 fun v H4 => ∃ m', m' < m ∧ W (i + 1) m' (ys ++ [v]) σ2 H4 else ∃ m', m' < m ∧ W (i + 1) m' ys σ2 H3)

section
variable {X : Cx} {elt tg iter : Expr} {ifs : List Expr} {scope : Scope} {pos : Pos} {N' : List Str} {src : List (Option Nat)} {wi : TI} {g : TG} {tt : TT} {te : TE}

theorem relabel_free {env : Env} : ∀ {names : List (Str × NameKind)} {x : Str} {k : NameKind}, (names.map fun (n, k) => if (k == NameKind.free && env.scope.kind == .function && env.kindOf n == some .cell) then (n, NameKind.cell) else (n, k)).lookup x = some k →
    (k = .cell ∨ k = .free) → (∀ y ∈ names, y.2 ≠ .cell) → (x, NameKind.free) ∈ names
  | [], _, _, h, _, _ => by simp at h
  | (n, k') :: r, x, k, h, hk, hc => by
    have ih := @relabel_free env r x k
    have h' : List.lookup x ((if (k' == NameKind.free && env.scope.kind == .function && env.kindOf n == some .cell) = true then (n, NameKind.cell) else (n, k')) :: (r.map fun (n, k) => if (k == NameKind.free && env.scope.kind == .function && env.kindOf n == some .cell) then (n, NameKind.cell) else (n, k))) = some k := h
    by_cases hx : x = n
    · subst hx
      by_cases hf : k' = .free
      · subst hf; exact List.mem_cons_self
      · have e : (k' == NameKind.free) = false := by simpa using hf
        rw [e] at h'
        simp only [Bool.false_and, Bool.false_eq_true, if_false, List.lookup_cons, beq_self_eq_true] at h'
        have e' : k' = k := Option.some.inj h'
        rcases hk with q | q
        · exact absurd (e'.trans q) (hc (x, k') List.mem_cons_self)
        · exact absurd (e'.trans q) hf
    · have e : (x == n) = false := by simpa using hx
      have h2 : (r.map fun (n, k) => if (k == NameKind.free && env.scope.kind == .function && env.kindOf n == some .cell) then (n, NameKind.cell) else (n, k)).lookup x = some k := by
        by_cases hc2 : (k' == NameKind.free && env.scope.kind == .function && env.kindOf n == some .cell) = true
        · rw [if_pos hc2] at h'; simp only [List.lookup_cons, e] at h'; exact h'
        · rw [if_neg hc2] at h'; simp only [List.lookup_cons, e] at h'; exact h'
      exact List.mem_cons_of_mem _ (ih h2 hk fun y hy => hc y (List.mem_cons_of_mem _ hy))

/-- what a comprehension's scope must be (each by rfl or decide) -/
structure CompScope (X : Cx) (scope : Scope) (N' : List Str) (src : List (Option Nat)) : Prop where
  kind : scope.kind = .function
  cell : ∀ y ∈ scope.names, y.2 ≠ .cell
  names : ∀ x ∈ scope.names, x.2 = .local → scope.names.lookup x.1 = some .local
  fr : ∀ n, (n, NameKind.free) ∈ scope.names → X.env.kindOf n = some .cell ∨ X.env.kindOf n = some .free
  excl : ∀ n, (n, NameKind.free) ∈ scope.names → ¬ scope.names.lookup n = some .local
  len : N'.length = src.length
  src : ∀ (i j : Nat), src[i]? = some (some j) → ∃ x : Str, N'[i]? = some x ∧ X.N[j]? = some x ∧ (x, NameKind.free) ∈ scope.names

/-- the block's own context, as it is entered -/
theorem comp_enter {cl : List (Str × Addr)} {C D : Addr} {fp : List Addr} {pins : List (Addr × Obj)} {σ : St} {H : Hp} {s3 : Shared} {h1 : Heap} {tk : Nat} (S : CompScope X scope N' src) (I3 : Inv X pins σ H s3)
    (hcl1 : ∀ x c, cl.lookup x = some c → X.env.cells.lookup x = some c) (hcl2 : ∀ n, (n, NameKind.free) ∈ scope.names → ∃ c, cl.lookup n = some c) (hC : C = s3.heap.objs.size)
    (hf : ∀ b ∈ D :: fp, FpOk X pins H b) (hlt : ∀ b ∈ D :: fp, b < s3.heap.objs.size) (hns : h1.Ns C (fun _ => none)) (hk : ∀ b o, s3.heap.get? b = some o → h1.get? b = some o) :
    Inv (compCx X N' scope cl C (D :: fp) s3 H) [] (liftSt src σ) H { s3 with heap := h1, toks := tk } := by
  have neC : ∀ b o, s3.heap.get? b = some o → b ≠ C := fun b o e => by rw [hC]; exact Nat.ne_of_lt (Heap.lt_size e)
  have HC : H C = none := I3.hok.fresh (Nat.le_of_eq hC.symm)
  have ok : (compCx X N' scope cl C (D :: fp) s3 H).Ok := by
    refine ⟨I3.ok.mod, S.kind, I3.ok.glob, I3.ok.blt, Nat.le_of_eq hC.symm, fun x y c e1 e2 => I3.ok.inj x y c (hcl1 x c e1) (hcl1 y c e2), fun x hx => ?_, fun x c z => absurd z Bool.false_ne_true, I3.ok.hd, I3.ok.frames, .inl rfl, fun b hb => ⟨?_, fun x c e => ?_⟩, I3.bs, Nat.le_trans I3.ok.bsz I3.sz, fun b o e hb => ?_, fun b hb => ?_, I3.stack, I3.stkFree⟩
    · refine hcl2 x ?_
      rcases hx with z | z
      · exact relabel_free (env := X.env) (show ((scope.names.map _).lookup x) = some .cell from z) (.inl rfl) S.cell
      · exact relabel_free (env := X.env) (show ((scope.names.map _).lookup x) = some .free from z) (.inr rfl) S.cell
    · show b ≠ C
      rw [hC]; exact Nat.ne_of_lt (hlt b hb)
    · exact (hf b hb).2.2.2.2.1 x c (hcl1 x c e)
    · rcases (hf b hb).2.2.2.1 with z | z
      · exact I3.ok.noex b o e z
      · exact absurd (Nat.lt_of_lt_of_le (Nat.lt_of_lt_of_le (Heap.lt_size e) I3.ok.bsz) z) (Nat.lt_irrefl _)
    · intro z
      have z' : b ∈ frs X.stack := z
      rcases List.mem_cons.mp (I3.stkSub b z') with q | q
      · exact (hf b hb).2.1 q
      · exact (hf b hb).2.2.1 q
  refine ⟨ok, rfl, I3.bare, Un.kept hk, ⟨_, hns, fun i x v e1 e2 e3 => ?_⟩, fun x c e => ?_, HC, fun x c e => I3.freeC x c (hcl1 x c e), fun p hp => absurd (show p ∈ ([] : List (Addr × Obj)) from hp) (by simp), I3.hok.kept hk, ?_⟩
  · have e2' : (src.map fun o => match o with | some j => (σ[j]?).getD none | none => none)[i]? = some (some v) := e2
    rw [List.getElem?_map] at e2'
    cases q : src[i]? with
    | none => rw [q] at e2'; cases e2'
    | some o =>
      rw [q] at e2'
      cases o with
      | none => cases e2'
      | some j =>
        obtain ⟨x', hx1, hx2, hx3⟩ := S.src i j q
        have ex : x' = x := Option.some.inj (hx1.symm.trans e1)
        subst ex
        have ev : σ[j]? = some (some v) := by
          cases q2 : σ[j]? with
          | none => simp [q2] at e2'
          | some o => simp [q2] at e2'; rw [e2']
        obtain ⟨m, hn, hl⟩ := I3.loc
        have hkind := S.fr x' hx3
        obtain ⟨u, r, l⟩ := hl j x' v hx2 ev (by
          rcases hkind with z | z
          · exact .inr (.inl z)
          · exact .inr (.inr z))
        refine ⟨u, r, .inr ⟨?_, ?_⟩⟩
        · rcases e3 with z | z | z
          · exfalso
            have z' : (scope.names.map fun (n, k) => if (k == NameKind.free && X.env.scope.kind == .function && X.env.kindOf n == some .cell) then (n, NameKind.cell) else (n, k)).lookup x' = some .local := z
            rcases l with ⟨k, _⟩ | ⟨_, c, hc, hcell⟩
            · rcases hkind with y | y <;> (rw [y] at k; cases k)
            · exact (show False by
                have := S.names
                have hm := hx3
                clear e2 e2'
                have key : ∀ (names : List (Str × NameKind)), (names.map fun (n, k) => if (k == NameKind.free && X.env.scope.kind == .function && X.env.kindOf n == some .cell) then (n, NameKind.cell) else (n, k)).lookup x' = some .local →
                    names.lookup x' = some .local := by
                  intro names
                  induction names with
                  | nil => intro h; simp at h
                  | cons y r ih =>
                    obtain ⟨n, k⟩ := y
                    intro h
                    have h' : List.lookup x' ((if (k == NameKind.free && X.env.scope.kind == .function && X.env.kindOf n == some .cell) = true then (n, NameKind.cell) else (n, k)) :: (r.map fun (n, k) => if (k == NameKind.free && X.env.scope.kind == .function && X.env.kindOf n == some .cell) then (n, NameKind.cell) else (n, k))) = some .local := h
                    by_cases hx : (x' == n) = true
                    · by_cases hc2 : (k == NameKind.free && X.env.scope.kind == .function && X.env.kindOf n == some .cell) = true
                      · rw [if_pos hc2] at h'; simp only [List.lookup_cons, hx] at h'; cases h'
                      · rw [if_neg hc2] at h'; simp only [List.lookup_cons, hx] at h' ⊢; exact h'
                    · have hx' : (x' == n) = false := by simpa using hx
                      by_cases hc2 : (k == NameKind.free && X.env.scope.kind == .function && X.env.kindOf n == some .cell) = true
                      · rw [if_pos hc2] at h'; simp only [List.lookup_cons, hx'] at h' ⊢; exact ih h'
                      · rw [if_neg hc2] at h'; simp only [List.lookup_cons, hx'] at h' ⊢; exact ih h'
                have z2 := key _ z'
                obtain ⟨c2, hc2⟩ := hcl2 x' hx3
                exact S.excl x' hx3 z2)
          · exact .inl z
          · exact .inr z
        · rcases l with ⟨k, _⟩ | ⟨_, c, hc, hcell⟩
          · rcases hkind with y | y <;> (rw [y] at k; cases k)
          · obtain ⟨c2, hc2⟩ := hcl2 x' hx3
            have e := hcl1 x' c2 hc2
            rw [hc] at e; cases e
            obtain ⟨oc, ho, hd⟩ := hcell
            exact ⟨c, hc2, oc, hk c oc ho, hd⟩
  · obtain ⟨v, oc, ho, hd⟩ := I3.cell x c (hcl1 x c e)
    exact ⟨v, oc, hk c oc ho, hd⟩
  · show (src.map _).length = N'.length
    rw [List.length_map, S.len]

/-- what stands behind the block: the list is tracked, the block's names are let go -/
theorem comp_leave {cl : List (Str × Addr)} {C D : Addr} {fp : List Addr} {pins pinsY : List (Addr × Obj)} {σ σc : St} {H H' : Hp} {s3 s4 : Shared} {h' : Heap} {ys : List V} {us : List Value} (I3 : Inv X pins σ H s3) (hC : C = s3.heap.objs.size)
    (hf : ∀ b ∈ D :: fp, FpOk X pins H b) (hlt : ∀ b ∈ D :: fp, b < s3.heap.objs.size) (IY : Inv (compCx X N' scope cl C (D :: fp) s3 H) pinsY σc H' s4) (hD : H' D = none) (pl : s4.heap.PlainList D us.toArray) (rv : Vals ys us) (hz : ys.length ≤ sizeLine)
    (hs : Heap.SameBut C s4.heap h') : Inv X pins σ (upd H' D (.lst ys)) { s4 with heap := h' } := by
  have J : Inv X pins σ H' s4 := I3.call' IY.os IY.base IY.hok IY.bare (ch := D :: fp) fun b hb => ⟨(hf b hb).2.2.2.1, (hf b hb).2.1, (hf b hb).2.2.2.2.1, (hf b hb).2.2.2.2.2⟩
  have fC : FpOk X pins H' C := I3.fpOk (Nat.le_of_eq hC.symm) IY.free
  have J2 : Inv X pins σ H' { s4 with heap := h' } := J.turned (t' := s4.toks) (fun b o hb e => (hs.2 b hb).trans e) fC.1 fC.2.1 fC.2.2.2.1 fC.2.2.2.2.1 fC.2.2.2.2.2
  have hDC : D ≠ C := by rw [hC]; exact Nat.ne_of_lt (hlt D List.mem_cons_self)
  obtain ⟨n, e⟩ := pl
  have fD := hf D List.mem_cons_self
  exact J2.track ⟨hD, fD.2⟩ ⟨hz, us, n, rv, (hs.2 D hDC).trans e⟩

theorem comp_run {cl : List (Str × Addr)} {C D it : Addr} {fp : List Addr} {tn : Nat → Heap → Prop} {J : It} {pins : List (Addr × Obj)} {σ σ0 : St} {H : Hp} {s3 s4 : Shared} {R : Result → Shared → Prop} {W : Nat → Nat → List V → St → Hp → Prop} {m0 : Nat} {Q : List V → Hp → Prop}
    (hc : X.calm = true) (T : Turn X.prog X.w X.K tg J fp it tn) (I3 : Inv X pins σ H s3) (hC : C = s3.heap.objs.size)
    (hf : ∀ b ∈ D :: fp, FpOk X pins H b) (hlt : ∀ b ∈ D :: fp, b < s3.heap.objs.size) (hDf : D ∉ fp) (IY : Inv (compCx X N' scope cl C (D :: fp) s3 H) [] σ0 H s4) (st : tn 0 s4.heap) (pl : s4.heap.PlainList D #[])
    (hg : PG (compCx X N' scope cl C (D :: fp) s3 H) tg g) (ht : PTs (compCx X N' scope cl C (D :: fp) s3 H) ifs tt) (he : PE (compCx X N' scope cl C (D :: fp) s3 H) elt te) (w0 : W 0 m0 [] σ0 H)
    (turn : ∀ i m ys σc H, W i m ys σc H → (J.stop i H ∧ Q ys H) ∨ (J.go i H ∧ ys.length < sizeLine ∧ ∀ x H', J.yld i H x H' → g x σc H' fun σ2 H2 => tt σ2 H2 fun b H3 =>
      if b = true then te σ2 H3 fun v H4 => ∃ m', m' < m ∧ W (i + 1) m' (ys ++ [v]) σ2 H4 else ∃ m', m' < m ∧ W (i + 1) m' ys σ2 H3))
    (fin : ∀ s5 σc H' ys us pinsY, Inv (compCx X N' scope cl C (D :: fp) s3 H) pinsY σc H' s5 → H' D = none → s5.heap.PlainList D us.toArray → Vals ys us → ys.length ≤ sizeLine → Q ys H' → R (.ok .next) s5) :
    codeAny (model X.prog X.w) X.A (.compLoop (.ListComp elt [⟨tg, iter, ifs, 0⟩] scope pos) 0 (.ref it) (.ref D) (compEnvC scope cl C X.env)) R s4 := by
  have eY : (compCx X N' scope cl C (D :: fp) s3 H).env = compEnvC scope cl C X.env := rfl
  generalize hY : compCx X N' scope cl C (D :: fp) s3 H = Y at *
  have e1 : Y.prog = X.prog := by rw [← hY]; rfl
  have e2 : Y.w = X.w := by rw [← hY]; rfl
  have e3 : Y.K = X.K := by rw [← hY]; rfl
  have e4 : Y.A = X.A := by rw [← hY]; rfl
  have e5 : Y.calm = true := by rw [← hY]; exact hc
  have e6 : Y.xe = fun _ _ => False := by rw [← hY]; rfl
  have e7 : Y.env.locals = C := by rw [eY]; rfl
  have e8 : Y.ex = D :: fp := by rw [← hY]; rfl
  have e9 : Y.pn = [] := by rw [← hY]; rfl
  have e10 : Y.fs = frs X.stack := by rw [← hY]; rfl
  have e11 : ∀ x c, Y.env.cells.lookup x = some c → ∀ b ∈ D :: fp, c ≠ b := fun x c e b hb => (IY.ok.exf b (by rw [e8]; exact hb)).2 x c e
  have nst : ∀ b ∈ D :: fp, b ∉ Y.fs := fun b hb => IY.ok.exfs b (by rw [e8]; exact hb)
  have fpY : ∀ (pinsY : List (Addr × Obj)) (H' : Hp), (∀ p ∈ pinsY, p.1 = D) → ∀ b ∈ fp, H' b = none → FpOk Y pinsY H' b := fun pinsY H' hp b hb hn =>
    ⟨hn, by rw [e7, hC]; exact Nat.ne_of_lt (hlt b (List.mem_cons_of_mem _ hb)), nst b (List.mem_cons_of_mem _ hb), .inl (by rw [e8]; exact List.mem_cons_of_mem _ hb), fun x c e => e11 x c e b (List.mem_cons_of_mem _ hb), fun p hp' z => by
      rw [e9, List.nil_append] at hp'
      have q := hp p hp'
      rw [z] at q
      rw [q] at hb
      exact hDf hb⟩
  have fpD : ∀ (pinsY : List (Addr × Obj)) (H' : Hp), (∀ p ∈ pinsY, p.1 ≠ D) → H' D = none → FpOk Y pinsY H' D := fun pinsY H' hp hn =>
    ⟨hn, by rw [e7, hC]; exact Nat.ne_of_lt (hlt D List.mem_cons_self), nst D List.mem_cons_self, .inl (by rw [e8]; exact List.mem_cons_self), fun x c e => e11 x c e D List.mem_cons_self, fun p hp' => by
      rw [e9, List.nil_append] at hp'
      exact hp p hp'⟩
  have T' : Turn Y.prog Y.w Y.K tg J fp it tn := by rw [e1, e2, e3]; exact T
  rw [← eY, ← e1, ← e2, ← e4]
  refine compLoop_gen (fun n s' => ∃ i ys us σc H', Inv Y [] σc H' s' ∧ tn i s'.heap ∧ (∀ b ∈ fp, H' b = none) ∧ H' D = none ∧ s'.heap.PlainList D (us : List Value).toArray ∧ Vals ys us ∧ ys.length ≤ sizeLine ∧ W i n ys σc H') ?_ m0
    ⟨0, [], [], σ0, H, IY, st, fun b hb => (hf b (List.mem_cons_of_mem _ hb)).1, (hf D List.mem_cons_self).1, pl, .nil, Nat.zero_le _, w0⟩
  rintro n s5 ⟨i, ys, us, σc, H5, I5, st5, fr5, hD5, pl5, rv5, hz5, w5⟩
  obtain ⟨nn, hob⟩ := id pl5
  -- D is pinned as it stands
  have I5' : Inv Y [(D, { cls := .type "list", data := .seq us.toArray nn })] σc H5 s5 := I5.pins_of fun p hp => by
    rw [List.mem_singleton] at hp
    subst hp
    exact ⟨hob, hD5, by rw [e7, hC]; exact Nat.ne_of_lt (hlt D List.mem_cons_self), nst D List.mem_cons_self, fun v z => by
      have z' : Data.seq us.toArray nn = Data.cell v := z
      cases z'⟩
  have f5 : ∀ b ∈ fp, FpOk Y [(D, { cls := .type "list", data := .seq us.toArray nn })] H5 b := fun b hb => fpY _ _ (fun p hp => by rw [List.mem_singleton] at hp; rw [hp]) b hb (fr5 b hb)
  rcases turn i n ys σc H5 w5 with ⟨stop, q⟩ | ⟨go, hz, step⟩
  · refine thn (T'.done Y rfl rfl rfl e5 i _ s5 σc H5 (fun _ _ => False) I5' f5 st5 stop) fun r s6 ⟨hr, I6⟩ => ?_
    subst hr
    exact fin s6 σc H5 ys us _ I6 hD5 ⟨nn, (I6.pin (D, _) (List.mem_append_right _ List.mem_cons_self)).1⟩ rv5 hz5 q
  · refine thn (T'.item Y rfl rfl rfl e5 i _ s5 σc H5 (fun _ _ => False) I5' f5 st5 go) fun r s6 ⟨u, hr, h6⟩ => ?_
    subst hr
    refine thn h6 fun _ s7 ⟨x, H7, I7, r7, y7, st7, fr7⟩ => ?_
    have f7 : ∀ b ∈ fp, FpOk Y [(D, { cls := .type "list", data := .seq us.toArray nn })] H7 b := fun b hb => fpY _ _ (fun p hp => by rw [List.mem_singleton] at hp; rw [hp]) b hb (fr7 b hb)
    have I7' := I7.pinned f7 (T.obj _ _ st7)
    have hx := hg _ s7 σc H7 x u _ I7' r7 (step x H7 y7)
    rw [e6] at hx
    refine thn hx fun _ s8 ⟨σ8, H8, I8, q8⟩ => ?_
    have hx2 := ht _ s8 σ8 H8 _ I8 q8
    rw [e6] at hx2
    -- behind a turn: the records stand as they stood
    have keepT : ∀ {σ9 : St} {H9 : Hp} {s9 : Shared}, Inv Y ([(D, { cls := .type "list", data := .seq us.toArray nn })] ++ pinsAt fp s7.heap) σ9 H9 s9 → tn (i + 1) s9.heap ∧ (∀ b ∈ fp, H9 b = none) ∧ H9 D = none ∧ s9.heap.get? D = some { cls := .type "list", data := .seq us.toArray nn } := fun {σ9 H9 s9} I9 => by
      have pD := I9.pin (D, _) (List.mem_append_right _ (List.mem_append_left _ List.mem_cons_self))
      refine ⟨T.keep _ _ _ st7 fun b hb o e => (I9.pin (b, o) (List.mem_append_right _ (List.mem_append_right _ (mem_pinsAt hb e)))).1, fun b hb => ?_, pD.2.1, pD.1⟩
      obtain ⟨o, e, d⟩ := T.obj _ _ st7 b hb
      exact (I9.pin (b, o) (List.mem_append_right _ (List.mem_append_right _ (mem_pinsAt hb e)))).2.1
    refine thn hx2 fun ok s9 ⟨H9, I9, q9⟩ => ?_
    cases ok with
    | false =>
      rw [if_neg Bool.false_ne_true] at q9
      rw [if_neg Bool.false_ne_true]
      obtain ⟨m', hm, w9⟩ := q9
      obtain ⟨k1, k2, k3, k4⟩ := keepT I9
      exact ⟨m', hm, i + 1, ys, us, σ8, H9, I9.pins_of (fun p hp => nomatch hp), k1, k2, k3, ⟨nn, k4⟩, rv5, hz5, w9⟩
    | true =>
      rw [if_pos rfl] at q9
      rw [if_pos rfl]
      have hx3 := he _ s9 σ8 H9 _ I9 q9
      rw [e6] at hx3
      refine thn hx3 fun xv s10 ⟨v, H10, I10, r10, m', hm, w10⟩ => ?_
      obtain ⟨k1, k2, k3, k4⟩ := keepT I10
      have hl := rv5.length
      refine wpAny_list_append_plain ⟨nn, k4⟩ (fun h' pl' sb => ?_) (by rw [List.size_toArray]; omega)
      have fD := fpD [] H10 (fun p hp => nomatch hp) k3
      have I11 : Inv Y [] σ8 H10 { s10 with heap := h' } := (I10.pins_of (pins' := []) fun p hp => nomatch hp).turned (t' := s10.toks) (fun b o hb e => (sb.2 b hb).trans e) fD.1 fD.2.1 fD.2.2.2.1 fD.2.2.2.2.1 fD.2.2.2.2.2
      refine ⟨m', hm, i + 1, ys ++ [v], us ++ [xv], σ8, H10, I11, T.keep _ _ _ k1 (fun b hb o e => (sb.2 b ?_).trans e), k2, k3, ?_, rv5.append (.cons r10 .nil), ?_, w10⟩
      · intro z; rw [z] at hb; exact hDf hb
      · rw [show (us ++ [xv]).toArray = us.toArray.push xv by simp]; exact pl'
      · rw [List.length_append, List.length_singleton]; exact hz

/-- [elt for tg in iter if ..] -/
theorem pe_comp (hc : X.calm = true) (S : CompScope X scope N' src) (hi : PI X tg iter wi)
    (hb : ∀ cl C ex s0 H0, PG (compCx X N' scope cl C ex s0 H0) tg g ∧ PTs (compCx X N' scope cl C ex s0 H0) ifs tt ∧ PE (compCx X N' scope cl C ex s0 H0) elt te)
    (hs : ∀ x, foldedSetIterable iter X.env x = pure x := by intro _; rfl) : PE X (.ListComp elt [⟨tg, iter, ifs, 0⟩] scope pos) (tComp src wi g tt te) := by
  intro pins s σ H Q I h
  obtain ⟨cl, hclos, hcl1, hcl2⟩ := closure_ok (scope := scope) (env := X.env) fun n hn => I.ok.has n (S.fr n hn)
  rw [eval_ListComp]
  refine wpAny_comprehension_free (use := none) rfl hs hclos S.kind S.names ?_
  refine thn (hi pins s σ H _ I h) fun v s1 h1 => thn h1 fun itv s2 h2 => ?_
  obtain ⟨it, fp, tn, J, H2, e, I2, T, st2, f2, W, ⟨m0, w0⟩, turn⟩ := h2
  subst e
  refine wpAny_newObj_type (wpAny_newFunctionEnv S.cell (by intro y hy; simp at hy) (fun h₁ hns₁ hsb₁ => ?_) S.kind)
  dsimp only at hns₁ hsb₁ ⊢
  generalize hH3 : s2.heap.push { cls := .type "list", dict := none, data := .seq ([] : List Value).toArray } = H3 at hns₁ hsb₁ ⊢
  have hsz : H3.objs.size = s2.heap.objs.size + 1 := by rw [← hH3, Heap.size_push]
  have I3 : Inv X pins σ H2 { s2 with heap := H3 } := I2.kept (t' := s2.toks) fun b o e => by rw [← hH3]; exact Heap.get?_push_of_some _ e
  have fD : FpOk X pins H2 s2.heap.objs.size := I2.fpOk (Nat.le_refl _) (I2.hok.fresh (Nat.le_refl _))
  have hDf : s2.heap.objs.size ∉ fp := fun hm => by
    obtain ⟨o, e, _⟩ := T.obj 0 _ st2 _ hm
    exact Nat.lt_irrefl _ (Heap.lt_size e)
  have hf : ∀ b ∈ s2.heap.objs.size :: fp, FpOk X pins H2 b := fun b hb => by
    rcases List.mem_cons.mp hb with z | z
    · rw [z]; exact fD
    · exact f2 b z
  have hlt : ∀ b ∈ s2.heap.objs.size :: fp, b < H3.objs.size := fun b hb => by
    rcases List.mem_cons.mp hb with z | z
    · rw [z, hsz]; exact Nat.lt_succ_self _
    · obtain ⟨o, e, _⟩ := T.obj 0 _ st2 b z
      rw [hsz]; exact Nat.lt_succ_of_lt (Heap.lt_size e)
  have kp : ∀ b o, H3.get? b = some o → h₁.get? b = some o := fun b o e => hsb₁.extBut b o (Nat.ne_of_lt (Heap.lt_size e)) (Heap.get?_push_of_some _ e)
  have kp0 : ∀ b o, s2.heap.get? b = some o → h₁.get? b = some o := fun b o e => kp b o (by rw [← hH3]; exact Heap.get?_push_of_some _ e)
  have hacc : h₁.PlainList s2.heap.objs.size #[] := ⟨_, kp _ _ (by rw [← hH3]; exact Heap.get?_push_size _ rfl)⟩
  have st1 : tn 0 h₁ := T.keep _ _ _ st2 fun b _ o e => kp0 b o e
  have IY := comp_enter (N' := N') (src := src) (scope := scope) (cl := cl) (C := H3.objs.size) (D := s2.heap.objs.size) (fp := fp) (s3 := { s2 with heap := H3 }) (h1 := h₁) (tk := s2.toks) S I3 hcl1 hcl2 rfl hf hlt hns₁ kp
  obtain ⟨hg, ht, he⟩ := hb cl H3.objs.size (s2.heap.objs.size :: fp) { s2 with heap := H3 } H2
  have loop := comp_run (R := compPost (model X.prog X.w) X.A X.xe none (EP X pins σ Q) (.ref s2.heap.objs.size) H3.objs.size) (elt := elt) (iter := iter) (ifs := ifs) (pos := pos) (Q := fun ys H => ∀ l, H l = none → Q (.ref l) (upd H l (.lst ys)))
    hc T I3 rfl hf hlt hDf IY st1 hacc hg ht he w0 turn (fun s5 σc H' ys us pinsY IY5 hD pl rv hz q => by
      obtain ⟨m, hn, _⟩ := IY5.loc
      refine ⟨m, hn, fun h' hs' => ⟨.ref s2.heap.objs.size, upd H' s2.heap.objs.size (.lst ys), ?_, rfl, q _ hD⟩⟩
      exact comp_leave I3 rfl hf hlt IY5 hD pl rv hz hs')
  exact codeAny_compStart_list loop (T.self _ 0 _ _ _ st1 loop)
end
end L2

set_option Elab.async false
set_option linter.all false
set_option maxRecDepth 100000
set_option maxHeartbeats 4000000
namespace L2
open PySem PySem.Spec PyProof.Rows

/-! ### a text, sign by sign -/
section
variable {X : Cx} {tg : Expr}

/-! ### comparisons of texts -/

/-! ### a slice of a text -/
def rSlS : V → Option Int → Option Int → Hp → VK → Prop := fun x lo hi H Q => ∃ z, x = .str z ∧ z.length ≤ sizeLine ∧ Q (.str (Txt.slice z lo hi)) H
theorem sl_str : SlR X rSlS := by
  intro pins s σ H x v vl vu lo hi sl Q I rx hs pl pu h
  obtain ⟨z, rfl, hz, q⟩ := h
  obtain ⟨t, rfl⟩ := rx
  refine ⟨"str", _, F.slot_str_getitem.lookup, typeIs_str _ _ _, ?_⟩
  obtain ⟨os, hos, hcs, hds⟩ := id hs
  have fin : ∀ t' k, EP X pins σ Q (.str (Txt.slice z lo hi) t') { s with toks := k } := fun t' k => ⟨.str _, H, I.tok _, ⟨_, rfl⟩, q⟩
  cases pl with
  | none =>
    cases pu with
    | none => exact wpAny_getItem_str_slice (l := none) (u := none) (st := none) ⟨os, hos, hcs, hds⟩ rfl (post_val_or_str ⟨Nat.le_trans (Txt.slice_le z _ _) hz, fin⟩)
    | int j uj => exact wpAny_getItem_str_slice (l := none) (u := some (j, uj)) (st := none) ⟨os, hos, hcs, hds⟩ rfl (post_val_or_str ⟨Nat.le_trans (Txt.slice_le z _ _) hz, fin⟩)
  | int i ui =>
    cases pu with
    | none => exact wpAny_getItem_str_slice (l := some (i, ui)) (u := none) (st := none) ⟨os, hos, hcs, hds⟩ rfl (post_val_or_str ⟨Nat.le_trans (Txt.slice_le z _ _) hz, fin⟩)
    | int j uj => exact wpAny_getItem_str_slice (l := some (i, ui)) (u := some (j, uj)) (st := none) ⟨os, hos, hcs, hds⟩ rfl (post_val_or_str ⟨Nat.le_trans (Txt.slice_le z _ _) hz, fin⟩)

/-! ### isinstance by a built-in class -/
theorem call_isinst : CallR X (.builtin "isinstance") (fun xs H Q => ∃ x T ty b, xs = [x, .ty T] ∧ TyOf X.K H x ty ∧ PySem.W.kitOne X.K ty (.type T) = some b ∧ Q (.bl b) H) := by
  intro pins s σ H xs us Q I r h
  obtain ⟨x, T, ty, b, rfl, h1, h2, q⟩ := h
  obtain ⟨u, w', rfl, rx, rT⟩ := vals2 r
  cases (show w' = Value.type T from rT)
  exact isinst_ok I rx h1 h2 fun tk => ⟨.bl b, H, I.tok _, rfl, q⟩

/-! ### all, any of a list of truths -/
theorem boolsAre : ∀ {bs : List Bool} {us : List Value}, Vals (bs.map V.bl) us → us = bs.map Value.bool
  | [], us, r => by cases r; rfl
  | b :: bs, us, r => by
    cases r with
    | cons r1 r2 => cases r1; rw [boolsAre r2]; rfl
theorem range_all' (bs : List Bool) : ((List.range bs.length).all fun i => (bs[i]?).getD true) = bs.all id := by
  rw [Bool.eq_iff_iff, List.all_eq_true, List.all_eq_true]
  constructor
  · intro h b hb
    obtain ⟨i, hi, rfl⟩ := List.getElem_of_mem hb
    have := h i (List.mem_range.mpr hi)
    simpa [List.getElem?_eq_getElem hi] using this
  · intro h i hi
    have hi' := List.mem_range.mp hi
    rw [List.getElem?_eq_getElem hi']
    exact h _ (List.getElem_mem hi')
theorem call_all_of (hc : X.calm = true) : CallR X (.builtin "all") (fun xs H Q => ∃ (p : Addr) (bs : List Bool), xs = [.ref p] ∧ SqL X.K H p (bs.map V.bl) ∧ Q (.bl (bs.all id)) H) := by
  intro pins s σ H xs us Q I r h
  obtain ⟨p, bs, rfl, hq, q⟩ := h
  obtain ⟨u, rfl, rx⟩ := vals1 r
  cases rx
  obtain ⟨its, r', pl, hz⟩ := I.list hq
  have e := boolsAre r'
  subst e
  have hlt : p < s.heap.objs.size := by obtain ⟨_, e, _⟩ := pl.isList; exact Heap.lt_size e
  refine call_all_walk (wpAny_pyIter_list pl.isList ?_)
  refine ⟨s.heap.objs.size, [s.heap.objs.size, p], [s.heap.objs.size], (bs.map Value.bool).toArray.size, _, _, fun i => (bs[i]?).getD true, rfl, Walks.list (A := X.A.in1) (I.ok.hd hc) _ p (Nat.ne_of_lt hlt) (bs.map Value.bool).toArray,
    ⟨⟨_, Heap.get?_push_size _ rfl, rfl, rfl⟩, pl.isList.push _⟩, fun i v s' Q' E' hP hQ => ?_, fun h' tk hk => ?_⟩
  · have hP' : (bs.map Value.bool)[i]? = some v := by simpa using hP
    rw [List.getElem?_map] at hP'
    cases e : bs[i]? with
    | none => rw [e] at hP'; cases hP'
    | some b =>
      rw [e] at hP'
      cases hP'
      simp only [e, Option.getD_some] at hQ
      exact wpAny_truthy_bool hQ
  · have e : ((List.range (bs.map Value.bool).toArray.size).all fun i => (bs[i]?).getD true) = bs.all id := by
      rw [List.size_toArray, List.length_map]; exact range_all' bs
    rw [e]
    refine ⟨.bl _, H, I.kept fun b o eb => hk b o ?_ (Heap.get?_push_of_some _ eb), rfl, q⟩
    intro z
    rw [List.mem_singleton.mp z] at eb
    exact Nat.lt_irrefl _ (Heap.lt_size eb)

/-! ### == of two lists of flat items -/
def eqVs (xs ys : List V) : Bool := xs.length == ys.length && (List.range xs.length).all fun j => eqV (xs.getD j .non) (ys.getD j .non)
end
end L2

set_option Elab.async false
set_option linter.all false
set_option maxRecDepth 100000
set_option maxHeartbeats 4000000
namespace L2
open PySem PySem.Spec PyProof.Rows
section
variable {X : Cx} {elt tg iter : Expr} {ifs : List Expr} {scope : Scope} {pos : Pos} {N' : List Str} {src : List (Option Nat)} {wi : TI} {g : TG} {tt : TT} {te : TE}
/-- x = [elt for tg in iter if ..], the name a plain local -/
theorem ps_setComp {i : Nat} {x : Str} {pos' spos : Pos} (hc : X.calm = true) (hN : X.N.Nodup) (hix : X.N[i]? = some x) (hx : Loc X.env.scope x) (S : CompScope X scope N' src) (hi : PI X tg iter wi)
    (hb : ∀ cl C ex s0 H0, PG (compCx X N' scope cl C ex s0 H0) tg g ∧ PTs (compCx X N' scope cl C ex s0 H0) ifs tt ∧ PE (compCx X N' scope cl C ex s0 H0) elt te)
    (hsw : swapsWith (.ListComp elt [⟨tg, iter, ifs, 0⟩] scope pos) (some (.Name x pos')) spos.line X.env = pure true := by rfl)
    (hs : ∀ x, foldedSetIterable iter X.env x = pure x := by intro _; rfl)
    (hfn : X.fn x = true ∨ X.env.scope.names.lookup x = some .local := by first | exact .inl rfl | exact .inr rfl | assumption) :
    PS X (.Assign [.Name x pos'] (.ListComp elt [⟨tg, iter, ifs, 0⟩] scope pos) spos) (tAsg (tComp src wi g tt te) (gName i)) := by
  intro pins s σ H D I h
  obtain ⟨cl, hclos, hcl1, hcl2⟩ := closure_ok (scope := scope) (env := X.env) fun n hn => I.ok.has n (S.fr n hn)
  rw [exec_Assign_Name_used _ _ _ _ hsw]
  refine wpAny_bind (wpAny_standAt (wpAny_bind ?_))
  show wpAny _ _ (do let _ ← comprehension (.ListComp elt [⟨tg, iter, ifs, 0⟩] scope pos) scope X.env _ (newList []) false (eval iter X.env) (some (assign (.Name x pos') X.env))) _ _ s
  refine wpAny_bind (wpAny_mono (wpAny_comprehension_free (use := some (assign (.Name x pos') X.env)) (Q := fun _ s' => SP X pins D .next s') rfl hs hclos S.kind S.names ?_) (fun _ s' hq => wpAny_pure (wpAny_pure hq)) fun _ _ e => e)
  refine thn (hi pins s σ H _ I h) fun v s1 h1 => thn h1 fun itv s2 h2 => ?_
  obtain ⟨it, fp, tn, J, H2, e, I2, T, st2, f2, W, ⟨m0, w0⟩, turn⟩ := h2
  subst e
  refine wpAny_newObj_type (wpAny_newFunctionEnv S.cell (by intro y hy; simp at hy) (fun h₁ hns₁ hsb₁ => ?_) S.kind)
  dsimp only at hns₁ hsb₁ ⊢
  generalize hH3 : s2.heap.push { cls := .type "list", dict := none, data := .seq ([] : List Value).toArray } = H3 at hns₁ hsb₁ ⊢
  have hsz : H3.objs.size = s2.heap.objs.size + 1 := by rw [← hH3, Heap.size_push]
  have I3 : Inv X pins σ H2 { s2 with heap := H3 } := I2.kept (t' := s2.toks) fun b o e => by rw [← hH3]; exact Heap.get?_push_of_some _ e
  have fD : FpOk X pins H2 s2.heap.objs.size := I2.fpOk (Nat.le_refl _) (I2.hok.fresh (Nat.le_refl _))
  have hDf : s2.heap.objs.size ∉ fp := fun hm => by
    obtain ⟨o, e, _⟩ := T.obj 0 _ st2 _ hm
    exact Nat.lt_irrefl _ (Heap.lt_size e)
  have hf : ∀ b ∈ s2.heap.objs.size :: fp, FpOk X pins H2 b := fun b hb => by
    rcases List.mem_cons.mp hb with z | z
    · rw [z]; exact fD
    · exact f2 b z
  have hlt : ∀ b ∈ s2.heap.objs.size :: fp, b < H3.objs.size := fun b hb => by
    rcases List.mem_cons.mp hb with z | z
    · rw [z, hsz]; exact Nat.lt_succ_self _
    · obtain ⟨o, e, _⟩ := T.obj 0 _ st2 b z
      rw [hsz]; exact Nat.lt_succ_of_lt (Heap.lt_size e)
  have kp : ∀ b o, H3.get? b = some o → h₁.get? b = some o := fun b o e => hsb₁.extBut b o (Nat.ne_of_lt (Heap.lt_size e)) (Heap.get?_push_of_some _ e)
  have kp0 : ∀ b o, s2.heap.get? b = some o → h₁.get? b = some o := fun b o e => kp b o (by rw [← hH3]; exact Heap.get?_push_of_some _ e)
  have hacc : h₁.PlainList s2.heap.objs.size #[] := ⟨_, kp _ _ (by rw [← hH3]; exact Heap.get?_push_size _ rfl)⟩
  have st1 : tn 0 h₁ := T.keep _ _ _ st2 fun b _ o e => kp0 b o e
  have IY := comp_enter (N' := N') (src := src) (scope := scope) (cl := cl) (C := H3.objs.size) (D := s2.heap.objs.size) (fp := fp) (s3 := { s2 with heap := H3 }) (h1 := h₁) (tk := s2.toks) S I3 hcl1 hcl2 rfl hf hlt hns₁ kp
  obtain ⟨hg, ht, he⟩ := hb cl H3.objs.size (s2.heap.objs.size :: fp) { s2 with heap := H3 } H2
  have loop := comp_run (R := compPost (model X.prog X.w) X.A X.xe (some (assign (.Name x pos') X.env)) (fun _ s' => SP X pins D .next s') (.ref s2.heap.objs.size) H3.objs.size) (elt := elt) (iter := iter) (ifs := ifs) (pos := pos) (Q := fun ys H => ∀ l, H l = none → D.nx (σ.set i (some (.ref l))) (upd H l (.lst ys)))
    hc T I3 rfl hf hlt hDf IY st1 hacc hg ht he w0 turn (fun s5 σc H' ys us pinsY IY5 hD pl rv hz q => by
      have IX : Inv X pins σ (upd H' s2.heap.objs.size (.lst ys)) s5 := comp_leave (h' := s5.heap) I3 rfl hf hlt IY5 hD pl rv hz (.refl ..)
      show wpAny _ _ (assign (.Name x pos') X.env (.ref s2.heap.objs.size)) _ _ s5
      refine wpAny_assign_Name (store_ok2 (v := .ref s2.heap.objs.size) IX hN hix hx rfl (fun s6 I6 ⟨a, sb, ha⟩ => ?_) hfn)
      obtain ⟨m, hn, _⟩ := IY5.loc
      have fC : FpOk X pins (upd H' s2.heap.objs.size (.lst ys)) H3.objs.size := I3.fpOk (Nat.le_refl _) (by
        rw [upd_ne (by rw [hsz]; exact Nat.ne_of_gt (Nat.lt_succ_self _))]
        exact IY5.free)
      have hCa : H3.objs.size ≠ a := by
        rcases ha with z | z
        · rw [z]; exact fC.2.1
        · exact fun q => fC.2.2.2.2.1 x a z q.symm
      refine ⟨m, hn.sameBut sb hCa, fun h' hs' => ⟨_, _, I6.turned (t' := s6.toks) (fun b o hb e => (hs'.2 b hb).trans e) fC.1 fC.2.1 fC.2.2.2.1 fC.2.2.2.2.1 fC.2.2.2.2.2, q _ hD⟩⟩)
  exact codeAny_compStart_list loop (T.self _ 0 _ _ _ st1 loop)
end
end L2

set_option Elab.async false
set_option linter.all false
set_option maxRecDepth 100000
set_option maxHeartbeats 4000000
namespace L2
open PySem PySem.Spec PyProof.Rows
section
variable {X : Cx}
/-- // by a positive divisor below 2^64 -/
def CDivL (_ j : Int) : Prop := 0 < j ∧ j < 18446744073709551616
theorem op_fdivL : OpR X (binaryOp .FloorDiv) (rI CDivL fun i j => .int (i / j)) := opI fun i j _ _ _ _ _ hc q => by
  have h1 : (0 : Int) < j := hc.1
  have h2 : j < 18446744073709551616 := hc.2
  refine floordiv_int (by omega) (by rw [Int.fdiv_eq_ediv_of_nonneg i (by omega)]; exact q) (.inl (PyProof.noPylong_of_log2 ?_))
  have h64 : j.natAbs.log2 < 64 := (Nat.log2_lt (by omega)).mpr (by omega)
  omega
/-- != of two lists of flat items -/
theorem op_ne_list (hu : X.A.units < cLine) : OpR X (compareOp .NotEq) (fun x y H Q => ∃ a b xs ys, x = .ref a ∧ y = .ref b ∧ SqL X.K H a xs ∧ SqL X.K H b ys ∧ xs.all flatV = true ∧ ys.all flatV = true ∧ Q (.bl (!eqVs xs ys)) H) := by
  intro pins s σ H x y v u Q I rx ry h
  obtain ⟨a, b, xs, ys, rfl, rfl, hx, hy, fx, fy, q⟩ := h
  cases rx
  cases ry
  obtain ⟨its, r, pl, hz⟩ := I.list hx
  obtain ⟨its2, r2, pl2, hz2⟩ := I.list hy
  have hl := r.length
  have hl2 := r2.length
  by_cases hs : xs.length = ys.length
  · refine SeqAt.RcNeAt.lists (e := fun j => eqV (xs.getD j .non) (ys.getD j .non)) pl.isList pl2.isList (by simp only [List.size_toArray]; omega) hu (fun j h1 h2 => ?_) X.prog X.w _ _ ?_
    · simp only [List.size_toArray] at h1 h2
      have g1 : xs[j]? = some xs[j] := List.getElem?_eq_getElem (by omega)
      have g2 : ys[j]? = some ys[j] := List.getElem?_eq_getElem (by omega)
      obtain ⟨u1, e1, ru1⟩ := r.get g1
      obtain ⟨u2, e2, ru2⟩ := r2.get g2
      have k1 : its.toArray[j] = u1 := by
        have : its[j]? = some its[j] := List.getElem?_eq_getElem h1
        rw [e1] at this
        simpa using (Option.some.inj this).symm
      have k2 : its2.toArray[j] = u2 := by
        have : its2[j]? = some its2[j] := List.getElem?_eq_getElem h2
        rw [e2] at this
        simpa using (Option.some.inj this).symm
      rw [k1, k2, show xs.getD j .non = xs[j] by simp [List.getD, g1], show ys.getD j .non = ys[j] by simp [List.getD, g2]]
      exact eqAt_V ru1 ru2 (List.all_eq_true.mp fx _ (List.getElem_mem _)) (List.all_eq_true.mp fy _ (List.getElem_mem _))
    · refine fin_bl I q ?_
      unfold eqVs
      rw [List.size_toArray, ← hl, hs]
      simp
  · refine SeqAt.RcNeAt.lists_lengths pl.isList pl2.isList (by simp only [List.size_toArray, bne_iff_ne]; omega) hu X.prog X.w _ _ ?_
    refine fin_bl I q ?_
    unfold eqVs
    rw [beq_eq_false_iff_ne.mpr hs]
    rfl
end
end L2

set_option Elab.async false
set_option linter.all false
set_option maxRecDepth 100000
set_option maxHeartbeats 4000000
namespace L2
open PySem PySem.Spec PyProof.Rows
/-- a cut: what holds behind the statement, then the rest once -/
def tCut (t u : TS) : TS := fun D σ H => ∃ Pv : St → Hp → Prop, t { D with nx := Pv } σ H ∧ ∀ σ' H', Pv σ' H' → u D σ' H'
section
variable {X : Cx} {st : Stmt} {rest : List Stmt} {t u : TS}
theorem pss_cut (h1 : PS X st t) (h2 : PSs X rest u) : PSs X (st :: rest) (tCut t u) := by
  intro pins s σ H D I h
  obtain ⟨Pv, h, hr⟩ := h
  refine wpAny_execs_cons (thn (h1 pins s σ H { D with nx := Pv } I h) fun f s1 q => ?_)
  cases f with
  | next =>
    obtain ⟨σ', H', I', q⟩ := q
    exact h2 pins s1 σ' H' D I' (hr σ' H' q)
  | ret v => exact q
  | brk => exact q
  | cont => exact q
end
/-! a comprehension's scope, by one look -/
def compLook (kindOf : Str → Option NameKind) (XN : List Str) (scope : Scope) (N' : List Str) (src : List (Option Nat)) : Bool :=
  (scope.kind == .function) && (scope.names.all fun y => (y.2 != .cell) && (y.2 != .local || scope.names.lookup y.1 == some .local) && (y.2 != .free || ((kindOf y.1 == some .cell || kindOf y.1 == some .free) && scope.names.lookup y.1 != some .local))) &&
  (N'.length == src.length) && ((List.range src.length).all fun i => match src[i]? with
    | some (some j) => (match N'[i]?, XN[j]? with | some x, some y => x == y && scope.names.contains (x, NameKind.free) | _, _ => false)
    | _ => true)
theorem compScope_of {X : Cx} {scope : Scope} {N' : List Str} {src : List (Option Nat)} (sc : Scope) (hsc : X.env.scope = sc) (N : List Str) (hN : X.N = N) (h : compLook (fun x => sc.names.lookup x) N scope N' src = true) : CompScope X scope N' src := by
  subst hsc hN
  unfold compLook at h
  simp only [Bool.and_eq_true, List.all_eq_true, beq_iff_eq, bne_iff_ne, ne_eq, Bool.or_eq_true] at h
  obtain ⟨⟨⟨h1, h2⟩, h3⟩, h4⟩ := h
  refine ⟨h1, fun y hy => (h2 y hy).1.1, fun y hy hl => ?_, fun n hn => ?_, fun n hn => ?_, h3, fun i j e => ?_⟩
  · rcases (h2 y hy).1.2 with z | z
    · exact absurd hl z
    · exact z
  · rcases (h2 _ hn).2 with z | z
    · exact absurd rfl z
    · exact z.1
  · rcases (h2 _ hn).2 with z | z
    · exact absurd rfl z
    · exact z.2
  · have hi : i < src.length := (List.getElem?_eq_some_iff.mp e).1
    have q := h4 i (List.mem_range.mpr hi)
    rw [e] at q
    dsimp only at q
    cases e1 : N'[i]? with
    | none => rw [e1] at q; cases q
    | some x =>
      cases e2 : X.N[j]? with
      | none => rw [e1, e2] at q; cases q
      | some y =>
        rw [e1, e2] at q
        simp only [Bool.and_eq_true, beq_iff_eq] at q
        obtain ⟨rfl, q⟩ := q
        exact ⟨x, rfl, rfl, by simpa using q⟩
/-! the two usual comprehensions -/
def Nx (N i : Nat) (P : Prop) : Prop := ∃ m', m' < N - i ∧ m' = N - (i + 1) ∧ i + 1 ≤ N ∧ P
theorem nx {N i : Nat} {P : Prop} (h : i < N) (p : P) : Nx N i P := ⟨_, by omega, rfl, h, p⟩
section
variable {x : Str} {σ0 : St} {H : Hp} {g : TG} {tt : TT} {te : TE} {Q : List V → Hp → Prop}
theorem comp_range {lo : Int} {n : Nat} (Pv : Nat → List V → St → Hp → Prop) (h0 : Pv 0 [] σ0 H)
    (hs : ∀ i ys σc H, i < n → Pv i ys σc H → ys.length < sizeLine ∧ g (.int (lo + i)) σc H fun σ2 H2 => tt σ2 H2 fun b H3 =>
      if b = true then te σ2 H3 fun v H4 => Nx n i (Pv (i + 1) (ys ++ [v]) σ2 H4) else Nx n i (Pv (i + 1) ys σ2 H3))
    (hd : ∀ ys σc H, Pv n ys σc H → Q ys H) :
    ∃ W : Nat → Nat → List V → St → Hp → Prop, (∃ m, W 0 m [] σ0 H) ∧ ∀ i m ys σc H, W i m ys σc H →
      ((Itr lo n).stop i H ∧ Q ys H) ∨ ((Itr lo n).go i H ∧ ys.length < sizeLine ∧ ∀ v H', (Itr lo n).yld i H v H' → g v σc H' fun σ2 H2 => tt σ2 H2 fun b H3 =>
        if b = true then te σ2 H3 fun v H4 => ∃ m', m' < m ∧ W (i + 1) m' (ys ++ [v]) σ2 H4 else ∃ m', m' < m ∧ W (i + 1) m' ys σ2 H3) := by
  refine ⟨fun i m ys σc H => m = n - i ∧ i ≤ n ∧ Pv i ys σc H, ⟨_, rfl, Nat.zero_le _, h0⟩, ?_⟩
  rintro i m ys σc H ⟨rfl, hi, p⟩
  by_cases hlt : i < n
  · obtain ⟨z, _⟩ := hs i ys σc H hlt p
    refine .inr ⟨hlt, z, fun v H' y => ?_⟩
    obtain ⟨e, ev⟩ := y
    subst e ev
    exact (hs i ys σc _ hlt p).2
  · have e : i = n := by omega
    subst e
    exact .inl ⟨Nat.le_refl _, hd ys σc H p⟩
end
theorem same_upd {H : Hp} {a : Addr} {o : HO} (h : H a = none) : Same H (upd H a o) := fun b u e => by rw [upd_ne (ne_of_none e h)]; exact e
theorem at_mod {α : Type} {xs : List α} (h : 0 < xs.length) (i : Int) : ∃ v, v ∈ xs ∧ atI xs (i % (xs.length : Int)) = some v := by
  have h0 : 0 ≤ i % (xs.length : Int) := Int.emod_nonneg _ (by omega)
  have h1 : i % (xs.length : Int) < xs.length := Int.emod_lt_of_pos _ (by omega)
  obtain ⟨j, hj⟩ := Int.eq_ofNat_of_zero_le h0
  have hl : j < xs.length := by omega
  refine ⟨xs[j], List.getElem_mem hl, ?_⟩
  rw [hj]
  exact atI_nat (List.getElem?_eq_getElem hl)
theorem at_in {α : Type} {xs : List α} {i : Int} (h0 : 0 ≤ i) (h1 : i < xs.length) : ∃ v, v ∈ xs ∧ atI xs i = some v := by
  obtain ⟨j, hj⟩ := Int.eq_ofNat_of_zero_le h0
  have hl : j < xs.length := by omega
  refine ⟨xs[j], List.getElem_mem hl, ?_⟩
  rw [hj]
  exact atI_nat (List.getElem?_eq_getElem hl)

/-! argument lists, item by item, whatever stands behind -/
section
variable {X : Cx} {es : List Expr} {te : TE} {t : TA}
theorem pa_k {c : Const} {j : Nat} {p : Pos} (h : PE X (.Constant c j p) te) (hr : PA X es t) : PA X (.Constant c j p :: es) (tCons te t) := pa_cons h hr rfl
theorem pa_n {x : Str} {p : Pos} (h : PE X (.Name x p) te) (hr : PA X es t) : PA X (.Name x p :: es) (tCons te t) := pa_cons h hr rfl
theorem pa_t {xs : List Expr} {j : Nat} {p : Pos} (h : PE X (.Tuple xs j p) te) (hr : PA X es t) : PA X (.Tuple xs j p :: es) (tCons te t) := pa_cons h hr rfl
theorem pa_l {xs : List Expr} {p : Pos} (h : PE X (.List xs p) te) (hr : PA X es t) : PA X (.List xs p :: es) (tCons te t) := pa_cons h hr rfl
theorem pa_c {f : Expr} {xs : List Expr} {ks : List Keyword} {p : Pos} (h : PE X (.Call f xs ks p) te) (hr : PA X es t) : PA X (.Call f xs ks p :: es) (tCons te t) := pa_cons h hr rfl
end
/-- the value of a written constant -/
def constV : Expr → Option V
  | .Constant (.int i) _ _ => some (.int i)
  | .Constant (.str x) _ _ => some (.str x)
  | .Constant (.bool b) _ _ => some (.bl b)
  | .Constant .none _ _ => some .non
  | _ => none
theorem pa_consts {X : Cx} : ∀ {es : List Expr} {vs : List V}, es.map constV = vs.map some → PA X es (fun _ H Q => Q vs H)
  | [], [], _ => pa_nil
  | [], v :: vs, h => by cases h
  | e :: es, [], h => by cases h
  | e :: es, v :: vs, h => by
    rw [List.map_cons, List.map_cons] at h
    injection h with h1 h2
    have ih := pa_consts (X := X) h2
    cases e with
    | Constant c j p =>
      cases c with
      | int i => cases h1; exact pa_k pe_int ih
      | str x => cases h1; exact pa_k pe_str ih
      | bool b => cases h1; exact pa_k pe_bl ih
      | none => cases h1; exact pa_k pe_non ih
      | _ => cases h1
    | _ => cases h1
theorem nd1 (x : Str) : [x].Nodup := by simp
end L2

set_option Elab.async false
set_option linter.all false
set_option maxRecDepth 100000
set_option maxHeartbeats 4000000
namespace L2
open PySem PySem.Spec PyProof.Rows
section
variable {K : PySem.W.Frag} {a : Addr} {xs : List V} {σ0 : St} {H : Hp} {g : TG} {tt : TT} {te : TE} {Q : List V → Hp → Prop}
/-- a comprehension over a tuple -/
theorem comp_tup (Pv : Nat → List V → St → Hp → Prop) (h0 : Pv 0 [] σ0 H) (hl : ∀ i ys σc H, Pv i ys σc H → SqT K H a xs)
    (hs : ∀ i x ys σc H, xs[i]? = some x → i < xs.length → Pv i ys σc H → ys.length < sizeLine ∧ g x σc H fun σ2 H2 => tt σ2 H2 fun b H3 =>
      if b = true then te σ2 H3 fun v H4 => Nx xs.length i (Pv (i + 1) (ys ++ [v]) σ2 H4) else Nx xs.length i (Pv (i + 1) ys σ2 H3))
    (hd : ∀ ys σc H, Pv xs.length ys σc H → Q ys H) :
    ∃ W : Nat → Nat → List V → St → Hp → Prop, (∃ m, W 0 m [] σ0 H) ∧ ∀ i m ys σc H, W i m ys σc H →
      ((Itt K a).stop i H ∧ Q ys H) ∨ ((Itt K a).go i H ∧ ys.length < sizeLine ∧ ∀ v H', (Itt K a).yld i H v H' → g v σc H' fun σ2 H2 => tt σ2 H2 fun b H3 =>
        if b = true then te σ2 H3 fun v H4 => ∃ m', m' < m ∧ W (i + 1) m' (ys ++ [v]) σ2 H4 else ∃ m', m' < m ∧ W (i + 1) m' ys σ2 H3) := by
  refine ⟨fun i m ys σc H => m = xs.length - i ∧ i ≤ xs.length ∧ Pv i ys σc H, ⟨_, rfl, Nat.zero_le _, h0⟩, ?_⟩
  rintro i m ys σc H ⟨rfl, hi, p⟩
  have q := hl i ys σc H p
  by_cases hlt : i < xs.length
  · have hx : xs[i]? = some xs[i] := List.getElem?_eq_getElem hlt
    obtain ⟨z, _⟩ := hs i _ ys σc H hx hlt p
    refine .inr ⟨⟨xs, xs[i], q, hx⟩, z, fun v H' y => ?_⟩
    obtain ⟨e, y⟩ := y
    subst e
    exact (hs i v ys σc _ (y xs q) hlt p).2
  · have e : i = xs.length := by omega
    subst e
    exact .inl ⟨⟨xs, q, Nat.le_refl _⟩, hd ys σc H p⟩
/-- a comprehension over a list that the block leaves as it is -/
theorem comp_list (Pv : Nat → List V → St → Hp → Prop) (h0 : Pv 0 [] σ0 H) (hl : ∀ i ys σc H, Pv i ys σc H → SqL K H a xs)
    (hs : ∀ i x ys σc H, xs[i]? = some x → i < xs.length → Pv i ys σc H → ys.length < sizeLine ∧ g x σc H fun σ2 H2 => tt σ2 H2 fun b H3 =>
      if b = true then te σ2 H3 fun v H4 => Nx xs.length i (Pv (i + 1) (ys ++ [v]) σ2 H4) else Nx xs.length i (Pv (i + 1) ys σ2 H3))
    (hd : ∀ ys σc H, Pv xs.length ys σc H → Q ys H) :
    ∃ W : Nat → Nat → List V → St → Hp → Prop, (∃ m, W 0 m [] σ0 H) ∧ ∀ i m ys σc H, W i m ys σc H →
      ((Itl K a).stop i H ∧ Q ys H) ∨ ((Itl K a).go i H ∧ ys.length < sizeLine ∧ ∀ v H', (Itl K a).yld i H v H' → g v σc H' fun σ2 H2 => tt σ2 H2 fun b H3 =>
        if b = true then te σ2 H3 fun v H4 => ∃ m', m' < m ∧ W (i + 1) m' (ys ++ [v]) σ2 H4 else ∃ m', m' < m ∧ W (i + 1) m' ys σ2 H3) := by
  refine ⟨fun i m ys σc H => m = xs.length - i ∧ i ≤ xs.length ∧ Pv i ys σc H, ⟨_, rfl, Nat.zero_le _, h0⟩, ?_⟩
  rintro i m ys σc H ⟨rfl, hi, p⟩
  have q := hl i ys σc H p
  by_cases hlt : i < xs.length
  · have hx : xs[i]? = some xs[i] := List.getElem?_eq_getElem hlt
    obtain ⟨z, _⟩ := hs i _ ys σc H hx hlt p
    refine .inr ⟨⟨xs, xs[i], q, hx⟩, z, fun v H' y => ?_⟩
    obtain ⟨e, y⟩ := y
    subst e
    exact (hs i v ys σc _ (y xs q) hlt p).2
  · have e : i = xs.length := by omega
    subst e
    exact .inl ⟨⟨xs, q, Nat.le_refl _⟩, hd ys σc H p⟩
end
/-- isinstance, the written part named (within a block: K is the same for all blocks) -/
theorem call_isinstK {X : Cx} {K : PySem.W.Frag} (hK : X.K = K) : CallR X (.builtin "isinstance") (fun xs H Q => ∃ x T ty b, xs = [x, .ty T] ∧ TyOf K H x ty ∧ PySem.W.kitOne K ty (.type T) = some b ∧ Q (.bl b) H) := by
  subst hK
  exact call_isinst
/-! ### trees of tuples: what a node has of its own, then its parts -/
theorem take_nextR {α : Type} {l : List α} {i : Nat} {c : α} (p : α → Bool) (h : l[i]? = some c) : (l.take (i + 1)).filter p = (l.take i).filter p ++ (if p c = true then [c] else []) := by
  rw [List.take_add_one, h, List.filter_append]
  cases hp : p c <;> simp [hp]
end L2

set_option Elab.async false
set_option linter.all false
set_option maxRecDepth 100000
set_option maxHeartbeats 4000000
namespace L2
open PySem PySem.Spec PyProof.Rows
/-! ### tuples kept -/
/-! ### the rules over a fragment named (within a block) -/
section
variable {X : Cx} {K : PySem.W.Frag}
theorem op_notIn_seqK (hK : X.K = K) : OpR X (compareOp .NotIn) (rIn K true) := by subst hK; exact op_notIn_seq
theorem ix_tupK (hK : X.K = K) : IxR X (rIxT K) := by subst hK; exact ix_tup
theorem ix_listK (hK : X.K = K) : IxR X (rIxL K) := by subst hK; exact ix_list
end
/-! ### sorted of texts -/
theorem strs_of : ∀ {ts : List Str} {us : List Value}, Vals (ts.map V.str) us → StrsAre us ts
  | [], _, .nil => .nil
  | t :: ts, _, .cons r rs => by obtain ⟨k, rfl⟩ := r; exact .cons t k (strs_of rs)
section
variable {X : Cx}
end
/-! ### tuples of tuples of plain values, and == of them -/
section
variable {X : Cx} {pins : List (Addr × Obj)} {σ : St} {H : Hp} {s : Shared}
end
section
variable {X : Cx}
end
end L2
namespace L2
open PySem PySem.Spec PyProof.Rows PySem.Builtin PySem.Builtin.Str
/-! ### texts cut -/
theorem cut_all {n : Nat} {j : Int} (h : (n : Int) ≤ j) : (strSliceIndices none (some j) 1 n).length = n := by
  unfold strSliceIndices sliceRange
  simp only [show (1 : Int) > 0 by decide, if_true, List.length_map, List.length_range]
  split <;> (try split) <;> (try split) <;> (try simp only [Int.ediv_one]) <;> omega
/-- x[:j] has a sign where x has one and j is 1 or more -/
theorem cut_pos {x : Str} {j : Int} (hx : 0 < x.length) (hj : 1 ≤ j) : 0 < (Txt.slice x none (some j)).length := by
  have hl : x.cps.toList.length = x.length := by simp [Str.length]
  by_cases h : j ≤ x.length
  · have e := beq_iff_eq.mp (slice_closes_to (x := x) (j := j) ⟨by omega, by rw [hl]; exact h⟩)
    rw [e]
    show 0 < (List.toArray _).size
    rw [List.size_toArray, List.length_take, List.length_drop, hl]
    omega
  · have e : Txt.slice x none (some j) = x := by
      unfold Txt.slice
      rw [cut_all (show ((x.length : Nat) : Int) ≤ j by omega)]
      simp
    rw [e]; exact hx
/-- x[:j] has at most j signs -/
theorem cut_le {x : Str} {j : Int} (hj : 0 ≤ j) : ((Txt.slice x none (some j)).length : Int) ≤ j := by
  have hl : x.cps.toList.length = x.length := by simp [Str.length]
  by_cases h : j ≤ x.length
  · have e := beq_iff_eq.mp (slice_closes_to (x := x) (j := j) ⟨hj, by rw [hl]; exact h⟩)
    rw [e]
    show (((List.toArray _).size : Nat) : Int) ≤ j
    rw [List.size_toArray, List.length_take, List.length_drop, hl]
    omega
  · have := Txt.slice_le x none (some j)
    omega
/-- x[i:] has what is left -/
theorem cut_from {x : Str} {i : Int} (h0 : 0 ≤ i) (h : i ≤ x.length) : ((Txt.slice x (some i) none).length : Int) = x.length - i := by
  have hl : x.cps.toList.length = x.length := by simp [Str.length]
  rw [slice_from_eq h0 h rfl]
  show (((List.toArray _).size : Nat) : Int) = _
  rw [List.size_toArray, List.length_take, List.length_drop, hl]
  omega
end L2

set_option Elab.async false
set_option linter.all false
set_option maxRecDepth 100000
set_option maxHeartbeats 4000000
namespace L2
open PySem PySem.Spec PyProof.Rows
/-- a display of constants as the values that it lists -/
def constsOf : Expr → Option (List V)
  | .List es _ => es.mapM constV
  | _ => none
theorem mapM_map : ∀ {es : List Expr} {vs : List V}, es.mapM constV = some vs → es.map constV = vs.map some := by
  intro es
  induction es with
  | nil =>
    intro vs h
    rw [List.mapM_nil] at h
    have : vs = [] := (Option.some.inj h).symm
    subst this
    rfl
  | cons e es ih =>
    intro vs h
    rw [List.mapM_cons] at h
    cases he : constV e with
    | none => rw [he] at h; cases h
    | some v =>
      cases hr : es.mapM constV with
      | none => rw [he, hr] at h; cases h
      | some r =>
        rw [he, hr] at h
        have : vs = v :: r := (Option.some.inj h).symm
        subst this
        rw [List.map_cons, List.map_cons, he, ih hr]
/-- [c, c, ..] of constants, whatever its length -/
theorem pe_consts {X : Cx} {e : Expr} {vs : List V} (h : constsOf e = some vs) : PE X e (tLst (fun _ H Q => Q vs H)) := by
  cases e with
  | List es p => exact pe_lst (pa_consts (mapM_map h))
  | _ => cases h
end L2

set_option Elab.async false
set_option linter.all false
set_option maxRecDepth 100000
set_option maxHeartbeats 4000000
namespace L2
open PySem PySem.Spec PyProof.Rows
/-! ### a call of a function that a name holds (a parameter, a thing out of a table) -/
section
variable {X : Cx} {CX : CXT} {k : Nat} {E : XK} {x : Str} {p pos : Pos} {e : Expr} {es : List Expr} {tf : TE} {t : TA} {Pf : Addr → Prop} {sp : Addr → Sp}
end
/-! ### any thing: flat values, tuples and lists of things -/
inductive Th where
  | at (v : V)
  | tup (xs : List Th)
  | lst (xs : List Th)
/-- a flat value, a text of at most a thousand signs -/
def smallV : V → Bool
  | .str x => decide (x.length ≤ 1000)
  | v => flatV v
mutual
inductive IsTh (H : Hp) : V → Th → Prop where
  | at {v : V} (f : smallV v = true) : IsTh H v (.at v)
  | tup {a : Addr} {vs : List V} {ts : List Th} (h : H a = some (.tup vs)) (r : IsThs H vs ts) : IsTh H (.ref a) (.tup ts)
  | lst {a : Addr} {vs : List V} {ts : List Th} (h : H a = some (.lst vs)) (r : IsThs H vs ts) : IsTh H (.ref a) (.lst ts)
inductive IsThs (H : Hp) : List V → List Th → Prop where
  | nil : IsThs H [] []
  | cons {v : V} {vs : List V} {t : Th} {ts : List Th} (h : IsTh H v t) (r : IsThs H vs ts) : IsThs H (v :: vs) (t :: ts)
end
/-- all but dicts stays -/
def Kp (H H' : Hp) : Prop := ∀ a o, H a = some o → (∀ kvs, o ≠ .dK kvs) → H' a = some o
theorem Kp.of {H H1 : Hp} (a : Same H H1) : Kp H H1 := fun c o e _ => a c o e
mutual
theorem IsTh.kp {H H' : Hp} (k : Kp H H') : ∀ {v : V} {t : Th}, IsTh H v t → IsTh H' v t
  | _, _, .at f => .at f
  | _, _, .tup h r => .tup (k _ _ h (fun _ z => by cases z)) (IsThs.kp k r)
  | _, _, .lst h r => .lst (k _ _ h (fun _ z => by cases z)) (IsThs.kp k r)
theorem IsThs.kp {H H' : Hp} (k : Kp H H') : ∀ {vs : List V} {ts : List Th}, IsThs H vs ts → IsThs H' vs ts
  | _, _, .nil => .nil
  | _, _, .cons h r => .cons (IsTh.kp k h) (IsThs.kp k r)
end
theorem IsThs.len {H : Hp} : ∀ (vs : List V) {ts : List Th}, IsThs H vs ts → vs.length = ts.length := by
  intro vs
  induction vs with
  | nil => intro ts h; cases h; rfl
  | cons v vs ih =>
    intro ts h
    cases h with
    | cons a b => rw [List.length_cons, List.length_cons, ih b]
theorem IsThs.app {H : Hp} : ∀ (vs : List V) {ws : List V} {ts us : List Th}, IsThs H vs ts → IsThs H ws us → IsThs H (vs ++ ws) (ts ++ us) := by
  intro vs
  induction vs with
  | nil => intro ws ts us h g; cases h; exact g
  | cons v vs ih =>
    intro ws ts us h g
    cases h with
    | cons a b => exact .cons a (ih b g)
end L2

set_option Elab.async false
set_option linter.all false
set_option maxRecDepth 100000
set_option maxHeartbeats 4000000
namespace L2
open PySem PySem.Spec PyProof.Rows
/-! ### a dict of the module, its keys texts -/
section
variable {X : Cx} {o e f : Expr} {apos cpos : Pos} {td ty tx : TE}
end
end L2

set_option Elab.async false
set_option linter.all false
set_option maxRecDepth 100000
set_option maxHeartbeats 4000000
namespace L2
open PySem PySem.Spec PyProof.Rows
section
variable {X : Cx}
/-- while by a measure that is told beside the state -/
theorem while_m {c : TT} {tb : TS} {D : Ends} {σ : St} {H : Hp} (Pv : Nat → St → Hp → Prop) (m0 : Nat) (h0 : Pv m0 σ H)
    (hs : ∀ m σ H, Pv m σ H → c σ H fun b H1 => if b = true then tb { D with nx := fun σ' H' => ∃ m', m' < m ∧ Pv m' σ' H', ct := fun σ' H' => ∃ m', m' < m ∧ Pv m' σ' H', bk := D.nx } σ H1 else D.nx σ H1)
    (mono : ∀ σ H Q Q', (∀ b H1, Q b H1 → Q' b H1) → c σ H Q → c σ H Q') : tWhile c tb D σ H := by
  refine ⟨Pv, ⟨m0, h0⟩, ?_⟩
  intro m σ H p
  refine mono σ H _ _ (fun b H1 q => ?_) (hs m σ H p)
  cases b with
  | true => exact ⟨_, fun σ' H' z => z, q⟩
  | false => exact q
/-- xs.extend(t) of a tuple -/
def rExtendT : V → List V → Hp → VK → Prop := fun x vs H Q => ∃ l b xs zs, x = .ref l ∧ vs = [.ref b] ∧ H l = some (.lst xs) ∧ H b = some (.tup zs) ∧ xs.length + zs.length ≤ sizeLine ∧ Q .non (upd H l (.lst (xs ++ zs)))
theorem list_extend_tupW (l : Addr) (items : Array Value) (n : Nat) (b : Addr) (items2 : Array Value) (n2 : Nat) (dd2 : Option Addr) (sl2 : Array (Option Value)) (hs0 : ¬(!items.isEmpty && Builtin.List.listTooLong (items.size + items2.size)) = true) (hs1 : items.size ≤ sizeLine) (hs2 : items.size + items2.size ≤ sizeLine + 1) :
    Meets (Builtin.«list.extend» ⟨[.ref l, .ref b], []⟩) (fun _ R s => s.heap.get? l = some { cls := .type "list", dict := none, data := .seq items n, slots := #[] } ∧ s.heap.get? b = some { cls := .type "tuple", dict := dd2, data := .seq items2 n2, slots := sl2 } ∧ R (.ok (.ret Value.none)) { s with heap := s.heap.update l (Obj.mapSeq (· ++ items2)), toks := s.toks }) := by
  refine .of_wp fun prog w A R s h => ?_
  obtain ⟨hp, g, d, tk, os⟩ := s
  obtain ⟨e1, e2, k⟩ := h
  have g1 := AutoSeq1.idx_int
  have g2 := AutoSeq1.sub_tuple_tuple
  have g3 := AutoSeq1.sub_list_list
  have g4 := AutoSeq1.sub_tuple_list
  have g5 := AutoSeq1.sub_list_tuple
  have fits : (items ++ items2).size ≤ sizeLine + 1 := by
    rw [Array.size_append]
    exact hs2
  wp_walk using (wpAny_updateSeq e1 rfl (hz := hs1) (_hz' := fits)), AutoSeq1.wpAny_loadPart' e1, AutoSeq1.wpAny_loadPart' e2
  exact ⟨_, rfl, k⟩
theorem mt_extendT : MtM X "list.extend" rExtendT := by
  intro pins s σ H x vs v us Q I rx rv h
  obtain ⟨l, b, xs, zs, rfl, rfl, hH, hB, hz, q⟩ := h
  cases rx
  obtain ⟨u, rfl, ru⟩ := rv.one
  cases ru
  obtain ⟨z, its, n, r, hl, e⟩ := I.lstM hH
  obtain ⟨its2, r2, p2, hz2⟩ := I.tuple (SqT.of (K := X.K) hB)
  have hl2 := r2.length
  obtain ⟨⟨c2, dd2, data2, sl2⟩, ho2, hc2, n2, hd2⟩ := id p2
  simp only at hc2 hd2
  subst hc2 hd2
  have hsz : its.toArray.size + its2.toArray.size ≤ sizeLine := by rw [List.size_toArray, List.size_toArray]; omega
  have hlong : ¬ (!its.toArray.isEmpty && Builtin.List.listTooLong (its.toArray.size + its2.toArray.size)) = true := by
    rw [notLongL hsz, Bool.and_false]
    exact Bool.false_ne_true
  refine call_meets F.slot_list_extend ⟨_, e, rfl⟩ F.entry_list_extend (F.args_list_extend_2 _ _)
    (list_extend_tupW l its.toArray n b its2.toArray n2 dd2 sl2 hlong (by rw [List.size_toArray]; omega) (by omega)) ⟨e, ho2, ?_⟩
  refine ⟨.non, _, I.lset (its' := its ++ its2) hH e (by simp) (r.append r2) ?_, rfl, q⟩
  rw [List.length_append]
  omega
end
end L2

set_option Elab.async false
set_option linter.all false
set_option maxRecDepth 100000
set_option maxHeartbeats 4000000
namespace L2
open PySem PySem.Spec PyProof.Rows PySem.Builtin PySem.Builtin.Str
end L2

set_option Elab.async false
set_option linter.all false
set_option maxRecDepth 100000
set_option maxHeartbeats 4000000
namespace L2
open PySem PySem.Spec PyProof.Rows
section
variable {X : Cx}
/-- xs == [] of a list of any things -/
theorem op_eq_nil (hu : X.A.units < cLine) : OpR X (compareOp .Eq) (fun x y H Q => ∃ a b xs, x = .ref a ∧ y = .ref b ∧ SqL X.K H a xs ∧ SqL X.K H b [] ∧ Q (.bl xs.isEmpty) H) := by
  intro pins s σ H x y v u Q I rx ry h
  obtain ⟨a, b, xs, rfl, rfl, hx, hy, q⟩ := h
  cases rx
  cases ry
  obtain ⟨its, r, pl, hz⟩ := I.list hx
  obtain ⟨its2, r2, pl2, hz2⟩ := I.list hy
  cases r2
  cases r with
  | nil =>
    refine SeqAt.eq_listAt (e := fun _ => true) pl.isList pl2.isList rfl hu (fun j h1 h2 => absurd h2 (by simp)) ?_
    exact fin_bl I q (by simp)
  | cons r1 r' =>
    refine SeqAt.eq_list_lengthsAt pl.isList pl2.isList (by simp) hu ?_
    exact fin_bl I q rfl
end
end L2

set_option Elab.async false
set_option linter.all false
set_option maxRecDepth 100000
set_option maxHeartbeats 4000000
namespace HT
open PySem PySem.Spec PyProof.Rows
section
variable {prog : Program} {w : World} {A : Around} {E : Value → Shared → Prop} {s : Shared}
theorem getItem_tuple_all {t sl : Addr} {items : Array Value} {vl vu : Value} {lo hi : Option Int} {Q : Value → Shared → Prop} (ht : IsTup s.heap t items) (hs : s.heap.IsSliceOf sl vl vu .none) (pl : IsPart vl lo) (pu : IsPart vu hi)
    (hw : sIx items.size 0 lo = 0 ∧ sIx items.size items.size hi = items.size) (h : Q (.ref t) s) : wpAny (model prog w) A (getItem (.ref t) (.ref sl)) Q E s := by
  obtain ⟨os, hos, hcs, hds⟩ := id hs
  have hTs : s.TypeIs (.ref sl) "slice" := ⟨os, hos, hcs⟩
  unfold getItem
  try with_reducible refine wpAny_holding ?_
  first | refine wpAny_bind (wpAny_pure ?_) | skip
  refine wpAny_bind (wpAny_sequenceKey ht.typeIs (by decide) ?_)
  refine wpAny_bind (wpAny_callSpecial?_slot (name := Str.ofString "__getitem__") ht.typeIs PyProof.Rows.slot_tuple_getitem
    (wpAny_call_entry PyProof.Rows.slot_tuple_getitem ht.typeIs entry_tuple_getitem ?_ (args_tuple_getitem _ _)))
  show wpAny _ _ (Builtin.Tuple.tupleItemsOf (.ref t) >>= _) _ _ s
  refine wpAny_bind (tupleItemsOf_ ht ?_)
  refine wpAny_bind (wpAny_typeOf hTs ?_)
  rw [if_pos (by decide)]
  refine wpAny_bind (sliceApplied_gen hs pl pu ?_)
  have hno : ((((sIx items.size 0 lo : Nat) : Int) == 0 && (1 : Int) == 1 && (sIx items.size items.size hi - sIx items.size 0 lo) == items.size) = true) := by
    rw [hw.1, hw.2]; simp
  show wpAny _ _ (if (((sIx items.size 0 lo : Nat) : Int) == 0 && (1 : Int) == 1 && (sIx items.size items.size hi - sIx items.size 0 lo) == items.size) = true then _ else _) _ _ s
  rw [if_pos hno]
  refine wpAny_bind (m := Builtin.Tuple.tupleIsExact _) (wpAny_bind (wpAny_typeOf ht.typeIs (wpAny_pure ?_)))
  rw [if_pos (by decide)]
  refine wpAny_bind (wpAny_rule ?_)
  exact wpAny_pure ⟨_, rfl, wpAny_pure h⟩
end
end HT
namespace L2
open PySem PySem.Spec PyProof.Rows
section
variable {X : Cx}
theorem cutV_all {xs : List V} {lo hi : Option Int} (h : HT.sIx xs.length 0 lo = 0 ∧ HT.sIx xs.length xs.length hi = xs.length) : cutV xs lo hi = xs := by
  unfold cutV
  rw [h.1, h.2, List.drop_zero, Nat.sub_zero, List.take_of_length_le (Nat.le_refl _)]
/-- sum of a list of ints -/
theorem call_sum (hc : X.calm = true) : CallR X (.builtin "sum") (fun xs H Q => ∃ (a : Addr) (ns : List Int), xs = [.ref a] ∧ SqL X.K H a (ns.map V.int) ∧ Q (.int ns.sum) H) := by
  intro pins s σ H xs us Q I r h
  obtain ⟨a, ns, rfl, ha, q⟩ := h
  obtain ⟨u, rfl, ru⟩ := vals1 r
  cases ru
  obtain ⟨its, r1, pl, hz⟩ := I.list ha
  have hi := intsAre_of r1
  obtain ⟨ys, hys⟩ := hi.allInts.items
  have e1 : (intItems ys).toList = its := by rw [← hys]
  have e2 : preSum (numAt ys) ys.size = ns.sum := by
    rw [preSum_eq, List.take_of_length_le (by simp), ← nums_intItems, e1, hi.numsOf]
  refine sum_intListG (I.ok.hd hc) (hys ▸ pl.isList) fun h' tk t' hk => ?_
  rw [e2]
  exact ⟨.int ns.sum, H, I.kept hk, ⟨_, rfl⟩, q⟩
end
end L2

set_option Elab.async false
set_option linter.all false
set_option maxRecDepth 100000
set_option maxHeartbeats 4000000
namespace L2
open PySem PySem.Spec PyProof.Rows
section
variable {X : Cx}
/-- t[lo:hi] of a plain tuple -/
def rSlP : V → Option Int → Option Int → Hp → VK → Prop := fun x lo hi H Q => ∃ a xs, x = .ref a ∧ H a = some (.tup xs) ∧ ∀ p H', Same H H' → H' p = some (.tup (cutV xs lo hi)) → Q (.ref p) H'
theorem sl_tupP : SlR X rSlP := by
  intro pins s σ H x v vl vu lo hi sl Q I rx hs pl pu h
  obtain ⟨a, xs, rfl, hx, q⟩ := h
  by_cases hw : HT.sIx xs.length 0 lo = 0 ∧ HT.sIx xs.length xs.length hi = xs.length
  · cases rx
    obtain ⟨its, r, ht, hz⟩ := I.tuple (SqT.of hx)
    have hlen : its.toArray.size = xs.length := by rw [List.size_toArray]; exact r.length.symm
    refine ⟨"tuple", _, PyProof.Rows.slot_tuple_getitem.lookup, ht.typeIs, ?_⟩
    refine HT.getItem_tuple_all ht hs pl pu (by rw [hlen]; exact hw) ?_
    exact ⟨.ref a, H, I, rfl, q a H (Same.refl H) (by rw [cutV_all hw]; exact hx)⟩
  · exact sl_tup pins s σ H (.ref a) v vl vu lo hi sl Q I rx hs pl pu ⟨a, xs, rfl, SqT.of hx, hw, fun p hp => q p _ (same_upd hp) upd_same⟩
/-- t + u of plain tuples -/
def rCatP : R2 := fun x y H Q => ∃ a b xs ys, x = .ref a ∧ y = .ref b ∧ H a = some (.tup xs) ∧ H b = some (.tup ys) ∧ xs.length + ys.length ≤ sizeLine ∧
  ∀ p H', Same H H' → H' p = some (.tup (xs ++ ys)) → Q (.ref p) H'
theorem op_catP : OpR X (binaryOp .Add) rCatP := by
  intro pins s σ H x y v u Q I rx ry h
  obtain ⟨a, b, xs, ys, rfl, rfl, ha, hb, hz, q⟩ := h
  by_cases hx : xs = []
  · subst hx
    cases rx
    cases ry
    obtain ⟨its, r1, p1, _⟩ := I.tuple (SqT.of ha)
    obtain ⟨its2, r2, p2, _⟩ := I.tuple (SqT.of hb)
    cases r1
    obtain ⟨⟨cls, dd, data, sl⟩, ho, hc, n, hd⟩ := id p1
    obtain ⟨⟨cls2, dd2, data2, sl2⟩, ho2, hc2, n2, hd2⟩ := id p2
    simp only at hc hd hc2 hd2
    subst hc hd hc2 hd2
    exact concat_meets ⟨_, ho, rfl⟩ ⟨_, ho2, rfl⟩ noFill_tuple_add seq_tuple_add PySem.F.slot_tuple_add PySem.F.entry_tuple_add (PySem.F.args_tuple_add_2 _ _)
      (tuple_addW0 a b _ _ n n2 dd dd2 sl sl2 (by simp)) ⟨ho, ho2, ⟨.ref b, H, I, rfl, q b H (Same.refl H) hb⟩⟩
  · refine op_catT pins s σ H (.ref a) (.ref b) v u Q I rx ry ⟨a, b, xs, ys, rfl, rfl, SqT.of ha, SqT.of hb, hx, hz, fun hy => ?_, fun hy p hp => ?_⟩
    · subst hy
      exact q a H (Same.refl H) (by rw [List.append_nil]; exact ha)
    · exact q p _ (same_upd hp) upd_same
end
end L2

set_option Elab.async false
set_option linter.all false
set_option maxRecDepth 100000
set_option maxHeartbeats 4000000
namespace L2
open PySem PySem.Spec PyProof.Rows
/-! ### a call while a list is hidden: what comes back does not reach it -/
section
variable {X : Cx} {pins : List (Addr × Obj)} {σ : St} {H H1 : Hp} {s s1 : Shared}
end
section
variable {X : Cx} {CX : CXT} {k : Nat} {f : Addr} {fd : FuncData} {ps : List Str} {sp : Sp} {E : XK} {x : Str} {p pos : Pos} {e : Expr} {es : List Expr} {t : TA} {ds : List Value} {dvs : List V}
end
end L2

set_option Elab.async false
set_option linter.all false
set_option maxRecDepth 100000
set_option maxHeartbeats 4000000
namespace L2
open PySem PySem.Spec PyProof.Rows
/-! ### a dict of constants, whatever its length up to fifteen -/
section
variable {X : Cx}
end
end L2

set_option Elab.async false
set_option linter.all false
set_option maxRecDepth 100000
set_option maxHeartbeats 4000000
namespace L2
open PySem PySem.Spec PyProof.Rows
section
variable {X : Cx}
end
end L2

set_option Elab.async false
set_option linter.all false
set_option maxRecDepth 100000
set_option maxHeartbeats 4000000
namespace L2
open PySem PySem.Spec PyProof.Rows
section
variable {X : Cx} {pins : List (Addr × Obj)} {σ : St} {H : Hp} {s : Shared} {h' : Heap}
/-- some objects turned, all of them an iterator's own -/
theorem Inv.turnedL {t' : Nat} {ch : List Addr} (I : Inv X pins σ H s) (k : ∀ b o, b ∉ ch → s.heap.get? b = some o → h'.get? b = some o) (hf : ∀ b ∈ ch, FpOk X pins H b) : Inv X pins σ H { s with heap := h', toks := t' } := by
  have nit : ∀ b u, H b = some u → b ∉ ch := fun b u e z => by rw [(hf b z).1] at e; cases e
  refine I.step (g' := s.gens) (d' := s.drawn) (ch := ch) (fun b hb => ?_) (fun b o _ _ hc e _ => k b o hc e) (fun b o _ _ hc e _ => ⟨o.slots, k b o hc e⟩) (fun _ _ _ _ n => n)
    (fun b o hc e => ⟨o, k b o hc e⟩) (fun _ _ e => e) (fun _ _ _ e => e) (fun b ps e => ⟨#[], by rw [e]; simp⟩) (fun m hm => ?_) (fun b u e => ?_) I.bare
  · obtain ⟨f0, f1, f2, f3, f4, f5⟩ := hf b hb
    exact ⟨f3, f1, f4, f5⟩
  · obtain ⟨o, es, ep, ho, r⟩ := hm
    exact ⟨o, es, ep, k _ o (fun z => (hf _ z).2.1 rfl) ho, r⟩
  · refine (I.hok b u e).stay (fun c v hc q => k c v ?_ q) (fun _ q => q) fun _ _ q => q
    rcases hc with z | z
    · rw [z]; exact nit b u e
    · exact nit c _ z
end
/-! ### enumerate -/
end L2

set_option Elab.async false
set_option linter.all false
set_option maxRecDepth 100000
set_option maxHeartbeats 4000000
namespace L2
open PySem PySem.Spec PyProof.Rows PySem.Builtin PySem.AutoSeq1
/-! ### enumerate of a tuple -/
section
variable {P : Program} {w : World} {B : Around} {G : Value → Shared → Prop} {z : Shared}
end
end L2

set_option Elab.async false
set_option linter.all false
set_option maxRecDepth 100000
set_option maxHeartbeats 4000000
namespace L2
open PySem PySem.Spec PyProof.Rows
section
variable {X : Cx}
end
end L2

set_option Elab.async false
set_option linter.all false
set_option maxRecDepth 100000
set_option maxHeartbeats 4000000
namespace L2
open PySem PySem.Spec PyProof.Rows
section
variable {X : Cx}
end
/-! ### repr of a tuple of things -/
section
variable {X : Cx}
end
end L2

set_option Elab.async false
set_option linter.all false
set_option maxRecDepth 100000
set_option maxHeartbeats 4000000
namespace L2
open PySem PySem.Spec PyProof.Rows
/-! ### things: what they are, how large, how deep -/
def isTup : Th → Bool
  | .tup _ => true
  | _ => false
def tyOf : Th → String
  | .at .non => "NoneType"
  | .at (.bl _) => "bool"
  | .at (.int _) => "int"
  | .at (.str _) => "str"
  | .tup _ => "tuple"
  | .lst _ => "list"
  | _ => ""
def isBlT : Th → Bool
  | .at (.bl _) => true
  | _ => false
def isIntT : Th → Bool
  | .at (.int _) => true
  | .at (.bl _) => true
  | _ => false
theorem th_ty {K : PySem.W.Frag} {H : Hp} {v : V} {t : Th} (h : IsTh H v t) : TyOf K H v (.type (tyOf t)) := by
  cases h with
  | «at» f =>
    cases v with
    | non => exact .non
    | bl b => exact .bl b
    | int i => exact .int i
    | str x => exact .str x
    | _ => exact absurd (show false = true from f) Bool.false_ne_true
  | tup e r => exact .tup e
  | lst e r => exact .lst e
structure Kits (K : PySem.W.Frag) : Prop where
  int : ∀ {H : Hp} {v : V} {t : Th}, IsTh H v t → PySem.W.kitOne K (.type (tyOf t)) (.type "int") = some (isIntT t)
  bl : ∀ {H : Hp} {v : V} {t : Th}, IsTh H v t → PySem.W.kitOne K (.type (tyOf t)) (.type "bool") = some (isBlT t)
  tup : ∀ {H : Hp} {v : V} {t : Th}, IsTh H v t → PySem.W.kitOne K (.type (tyOf t)) (.type "tuple") = some (isTup t)
theorem ths_get {H : Hp} : ∀ (vs : List V) {ts : List Th} {i : Nat} {v : V}, IsThs H vs ts → vs[i]? = some v → ∃ t, ts[i]? = some t ∧ IsTh H v t := by
  intro vs
  induction vs with
  | nil => intro ts i v h e; cases e
  | cons u vs ih =>
    intro ts i v h e
    cases h with
    | cons a b =>
      cases i with
      | zero =>
        have e' : u = v := by simpa using e
        subst e'
        exact ⟨_, rfl, a⟩
      | succ i =>
        rw [List.getElem?_cons_succ] at e
        obtain ⟨t, e1, e2⟩ := ih b e
        exact ⟨t, by rw [List.getElem?_cons_succ]; exact e1, e2⟩
theorem ths_at {H : Hp} : ∀ (vs : List V) {ts : List Th} {i : Nat} {t : Th}, IsThs H vs ts → ts[i]? = some t → ∃ v, vs[i]? = some v ∧ IsTh H v t := by
  intro vs
  induction vs with
  | nil => intro ts i t h e; cases h; simp at e
  | cons v vs ih =>
    intro ts i t h e
    cases h with
    | cons a b =>
      cases i with
      | zero => simp at e; subst e; exact ⟨v, rfl, a⟩
      | succ i => simp at e; obtain ⟨w, e1, e2⟩ := ih b e; exact ⟨w, by simpa using e1, e2⟩
theorem th_tup {H : Hp} {v : V} {ts : List Th} (h : IsTh H v (.tup ts)) : ∃ a vs, v = .ref a ∧ H a = some (.tup vs) ∧ IsThs H vs ts := by
  cases h with
  | tup e r => exact ⟨_, _, rfl, e, r⟩
theorem th_at {H : Hp} {v w : V} (h : IsTh H v (.at w)) : v = w ∧ smallV w = true := by
  cases h with
  | «at» f => exact ⟨rfl, f⟩
/-- the last of them -/
theorem ths_last {H : Hp} : ∀ (ws : List V) {us : List Th}, IsThs H ws us → ws ≠ [] → ∃ ws' y us' u, ws = ws' ++ [y] ∧ us = us' ++ [u] ∧ IsThs H ws' us' ∧ IsTh H y u := by
  intro ws
  induction ws with
  | nil => intro us h n; exact absurd rfl n
  | cons v vs ih =>
    intro us h _
    cases h with
    | @cons _ _ t ts a b =>
      cases vs with
      | nil => cases b; exact ⟨[], v, [], t, rfl, rfl, .nil, a⟩
      | cons v2 vs2 =>
        obtain ⟨ws', y, us', u, e1, e2, h1, h2⟩ := ih b (by intro z; cases z)
        exact ⟨v :: ws', y, t :: us', u, by rw [e1]; rfl, by rw [e2]; rfl, .cons a h1, h2⟩
theorem ths_rev {H : Hp} : ∀ (vs : List V) {ts : List Th}, IsThs H vs ts → IsThs H vs.reverse ts.reverse := by
  intro vs
  induction vs with
  | nil => intro ts h; cases h; exact .nil
  | cons v vs ih =>
    intro ts h
    cases h with
    | cons a b =>
      rw [List.reverse_cons, List.reverse_cons]
      exact IsThs.app _ (ih b) (.cons a .nil)
mutual
def Th.sz : Th → Nat
  | .at _ => 1
  | .tup xs => 1 + szs xs
  | .lst xs => 1 + szs xs
def szs : List Th → Nat
  | [] => 0
  | x :: xs => Th.sz x + szs xs
end
theorem szs_app : ∀ us ws : List Th, szs (us ++ ws) = szs us + szs ws := by
  intro us
  induction us with
  | nil => intro ws; simp [szs]
  | cons u us ih => intro ws; rw [List.cons_append, szs, szs, ih]; omega
/-- the parts of a node -/
def kidsL (ts : List Th) : List Th := ts.filter isTup
theorem same_none {H H' : Hp} {p : Addr} (s : Same H H') (h : H' p = none) : H p = none := by
  cases e : H p with
  | none => rfl
  | some o => rw [s p o e] at h; cases h
theorem cut1q (x : V) (xs : List V) : cutV (x :: xs) (some 1) none = xs := by
  have e1 : HT.sIx (x :: xs).length 0 (some 1) = min 1 (x :: xs).length := rfl
  have e2 : HT.sIx (x :: xs).length (x :: xs).length none = (x :: xs).length := rfl
  unfold cutV
  rw [e1, e2, List.length_cons]
  have e3 : min 1 (xs.length + 1) = 1 := by omega
  rw [e3]
  show List.take (xs.length + 1 - 1) xs = xs
  exact List.take_of_length_le (by omega)
end L2

set_option Elab.async false
set_option linter.all false
set_option maxRecDepth 100000
set_option maxHeartbeats 4000000
namespace L2
open PySem
/-! ### the walk through a tree, as plain lists -/
/-! ### how many nodes, and the ways to them -/
mutual
def cnt : Th → Nat
  | .tup xs => 1 + cnts xs
  | .at _ => 0
  | .lst _ => 0
def cnts : List Th → Nat
  | [] => 0
  | x :: xs => cnt x + cnts xs
end
theorem cnt_tup (t : Th) (h : isTup t = false) : cnt t = 0 := by
  cases t with
  | «at» v => simp [cnt]
  | lst xs => simp [cnt]
  | tup xs => cases h
theorem cnts_kids : ∀ xs : List Th, cnts xs = cnts (kidsL xs) := by
  intro xs
  induction xs with
  | nil => rfl
  | cons x xs ih =>
    unfold kidsL
    rw [cnts, List.filter_cons]
    split
    · rw [cnts, ih]; rfl
    · rw [cnt_tup x (by simp_all), Nat.zero_add, ih]; rfl
end L2

set_option Elab.async false
set_option linter.all false
set_option maxRecDepth 100000
set_option maxHeartbeats 4000000
namespace L2
open PySem PySem.Spec PyProof.Rows
section
variable {K : PySem.W.Frag} {a : Addr} {xs : List V} {σ0 : St} {H : Hp} {g : TG} {tt : TT} {te : TE} {Q : List V → Hp → Prop}
end
/-! ### ways -/
end L2

set_option Elab.async false
set_option linter.all false
set_option maxRecDepth 100000
set_option maxHeartbeats 1000000
namespace Srt
open PySem PyProof.Rows
section
variable {prog : Program} {w : World} {A : Around} {E : Value → Shared → Prop} {s : Shared}
end
end Srt

set_option Elab.async false
set_option linter.all false
set_option maxRecDepth 100000
set_option maxHeartbeats 1000000
namespace Srt
open PySem PyProof.Rows
end Srt

set_option Elab.async false
set_option linter.all false
set_option maxRecDepth 100000
set_option maxHeartbeats 1000000
namespace Srt
open PySem PyProof.Rows
section
variable {prog : Program} {w : World} {A : Around} {E : Value → Shared → Prop} {s : Shared}
end
end Srt

set_option Elab.async false
set_option linter.all false
set_option maxRecDepth 100000
set_option maxHeartbeats 1000000
namespace Srt
open PySem PyProof.Rows
section
variable {prog : Program} {w : World} {A : Around} {E : Value → Shared → Prop} {s : Shared}
end
end Srt

set_option Elab.async false
set_option linter.all false
set_option maxRecDepth 100000
set_option maxHeartbeats 1000000
namespace Srt
open PySem PyProof.Rows
section
variable {prog : Program} {w : World} {A : Around} {E : Value → Shared → Prop} {s : Shared} {a₀ : Array Keyed} {P : Array (Nat × Nat × Nat)}
end
end Srt

set_option Elab.async false
set_option linter.all false
set_option maxRecDepth 100000
set_option maxHeartbeats 1000000
namespace Srt
open PySem PyProof.Rows
section
variable {prog : Program} {w : World} {A : Around} {E : Value → Shared → Prop} {s : Shared} {a₀ : Array Keyed} {P : Array (Nat × Nat × Nat)}
end
end Srt

set_option Elab.async false
set_option linter.all false
set_option maxRecDepth 100000
set_option maxHeartbeats 1000000
namespace Srt
open PySem PyProof.Rows
section
variable {prog : Program} {w : World} {A : Around} {E : Value → Shared → Prop} {s : Shared} {a₀ : Array Keyed} {P : Array (Nat × Nat × Nat)}
end
end Srt

set_option Elab.async false
set_option linter.all false
set_option maxRecDepth 100000
set_option maxHeartbeats 1000000
namespace Srt
open PySem PyProof.Rows
section
variable {M : Model} {A : Around} {E : Value → Shared → Prop}
end
end Srt

set_option Elab.async false
set_option linter.all false
set_option maxRecDepth 100000
set_option maxHeartbeats 4000000
namespace Srt
open PySem PyProof.Rows
section
variable {P : Program} {w : World} {A : Around} {E : Value → Shared → Prop} {s : Shared}
end
end Srt

set_option Elab.async false
set_option linter.all false
set_option maxRecDepth 100000
set_option maxHeartbeats 4000000
namespace Srt
open PySem PyProof.Rows PySem.Spec
section
variable {P : Program} {w : World} {A : Around} {E : Value → Shared → Prop} {s : Shared}
end
end Srt

set_option Elab.async false
set_option linter.all false
set_option maxRecDepth 100000
set_option maxHeartbeats 4000000
namespace Srt
open PySem PyProof.Rows PySem.Spec
section
variable {P : Program} {w : World} {A : Around} {R : Result → Shared → Prop} {I : Addr} {fp wr : List Addr} {G : Array GenState → Array GenState → Prop} {n : Nat} {Pv : Nat → Value → Prop} {St : Nat → Shared → Prop}
end
section
variable {P : Program} {w : World} {A : Around} {E : Value → Shared → Prop} {s : Shared}
end
end Srt

set_option Elab.async false
set_option linter.all false
set_option maxRecDepth 100000
set_option maxHeartbeats 4000000
namespace Srt
open PySem PyProof.Rows PySem.Spec
end Srt

set_option Elab.async false
set_option linter.all false
set_option maxRecDepth 100000
set_option maxHeartbeats 4000000
namespace Srt
open PySem PyProof.Rows PySem.Spec
section
variable {P : Program} {w : World} {A : Around} {E : Value → Shared → Prop} {s : Shared}
end
/-! ### the three walks -/
section
variable {P : Program} {w : World} {A : Around}
end
end Srt

set_option Elab.async false
set_option linter.all false
set_option maxRecDepth 100000
set_option maxHeartbeats 4000000
namespace Srt
open PySem PyProof.Rows PySem.Spec
section
variable {P : Program} {w : World} {A : Around} {E : Value → Shared → Prop} {s : Shared}
end
end Srt

set_option Elab.async false
set_option linter.all false
set_option maxRecDepth 100000
set_option maxHeartbeats 4000000
namespace Srt
open PySem PyProof.Rows PySem.Spec
section
variable {P : Program} {w : World} {A : Around} {E : Value → Shared → Prop} {s : Shared}
end
end Srt

set_option Elab.async false
set_option linter.all false
set_option maxRecDepth 100000
set_option maxHeartbeats 4000000
namespace L2
open PySem PySem.Spec PyProof.Rows Srt
section
variable {X : Cx} {pins : List (Addr × Obj)} {σ : St} {H : Hp} {s : Shared}
end
section
variable {X : Cx} {o e : Expr} {to : TE} {t : TA} {apos cpos : Pos}
end
end L2

set_option Elab.async false
set_option linter.all false
set_option maxRecDepth 100000
set_option maxHeartbeats 4000000
namespace L2
open PySem PySem.Spec PyProof.Rows
mutual
/-- a thing of tuples, ints and texts -/
def plT : Th → Bool
  | .at (.int _) => true
  | .at (.str _) => true
  | .at _ => false
  | .tup xs => plTs xs
  | .lst _ => false
def plTs : List Th → Bool
  | [] => true
  | x :: xs => plT x && plTs xs
end
section
variable {X : Cx}
end
section
variable {X : Cx} {o e f : Expr} {apos cpos : Pos} {td ty tx : TE}
end
end L2

set_option Elab.async false
set_option linter.all false
set_option maxRecDepth 100000
set_option maxHeartbeats 4000000
namespace L2
open PySem PySem.Spec PyProof.Rows
section
variable {P : Program} {w : World} {A : Around} {E : Value → Shared → Prop} {s : Shared}
end
section
variable {X : Cx}
end
end L2

set_option Elab.async false
set_option linter.all false
set_option maxRecDepth 100000
set_option maxHeartbeats 4000000
namespace L2
open PySem PySem.Spec PyProof.Rows PySem.Builtin PySem.AutoSeq1
/-! ### list(zip(t, u)) of two tuples of one length -/
section
variable {prog : Program} {w : World} {A : Around} {E : Value → Shared → Prop} {s : Shared}
end
end L2

set_option Elab.async false
set_option linter.all false
set_option maxRecDepth 100000
set_option maxHeartbeats 4000000
namespace L2
open PySem PySem.Spec PyProof.Rows PySem.Builtin PySem.AutoSeq1
section
variable {prog : Program} {w : World} {A : Around} {E : Value → Shared → Prop} {s : Shared}
end
end L2

set_option Elab.async false
set_option linter.all false
set_option maxRecDepth 100000
set_option maxHeartbeats 4000000
namespace L2
open PySem PySem.Spec PyProof.Rows PySem.Builtin PySem.AutoSeq1
section
variable {X : Cx} {pins : List (Addr × Obj)} {σ : St}
end
end L2

set_option Elab.async false
set_option linter.all false
set_option maxRecDepth 100000
set_option maxHeartbeats 4000000
namespace L2
open PySem PySem.Spec PyProof.Rows PySem.Builtin PySem.AutoSeq1
section
variable {X : Cx}
end
end L2

set_option Elab.async false
set_option linter.all false
set_option maxRecDepth 100000
set_option maxHeartbeats 4000000
namespace L2
open PySem PySem.Spec PyProof.Rows
section
variable {M : Model} {A : Around} {E : Value → Shared → Prop} {env : Env} {nm q : Str} {C N : Addr} {bs bm : List Value} {hdct : Bool} {sn : List Str} {sub : List Value} {ab : Bool} {col : Option Bool} {dd : Option Addr} {k0 k1 k2 k3 k5 : Option Value} {newId : String} {s : Shared}
end
end L2

set_option Elab.async false
set_option linter.all false
set_option maxRecDepth 100000
set_option maxHeartbeats 4000000
namespace L2
open PySem PySem.Spec PyProof.Rows
section
variable {M : Model} {A : Around} {E : Value → Shared → Prop} {s : Shared} {base : Heap} {env : Env} {outer : List Env} {L e d C : Addr}
end
end L2

set_option Elab.async false
set_option linter.all false
set_option maxRecDepth 100000
set_option maxHeartbeats 4000000
namespace L2
open PySem PySem.Spec PyProof.Rows
section
variable {P : Program} {w : World} {S : Addr → Prop} {fs fs' : List Addr} {H H' : Hp} {h h1 h2 : Heap}
end
section
variable {X : Cx} {pins : List (Addr × Obj)} {σ : St} {H : Hp} {s : Shared} {C a d T : Addr} {E : XK}
end
end L2

set_option Elab.async false
set_option linter.all false
set_option maxRecDepth 100000
set_option maxHeartbeats 4000000
namespace L2
open PySem PySem.Spec PyProof.Rows
section
variable {X : Cx} {pins : List (Addr × Obj)} {σ : St} {H : Hp} {s : Shared}
end
section
variable {prog : Program} {w : World} {A : Around} {E : Value → Shared → Prop} {env : Env} {nm q : Str} {C N : Addr} {bs bm : List Value} {hdct : Bool} {sn : List Str} {sub : List Value} {ab : Bool} {col : Option Bool} {dd : Option Addr} {k0 k1 k2 k3 k5 : Option Value} {newId : String} {s : Shared}
end
end L2

set_option Elab.async false
set_option linter.all false
set_option maxRecDepth 100000
set_option maxHeartbeats 4000000
namespace L2
open PySem PySem.Spec PyProof.Rows
section
variable {P : Program} {w : World} {fs : List Addr} {H H' : Hp} {h h2 : Heap} {C a d T : Addr}
end
section
variable {X : Cx} {pins : List (Addr × Obj)} {σ : St} {H : Hp} {s : Shared}
end
section
variable {X : Cx} {nm q : Str} {C N : Addr} {bs bm : List Value} {hdct : Bool} {sn : List Str} {sub : List Value} {ab : Bool} {col : Option Bool} {dd : Option Addr} {k0 k1 k2 k3 k5 : Option Value} {newId : String}
end
end L2

set_option Elab.async false
set_option linter.all false
set_option maxRecDepth 100000
set_option maxHeartbeats 4000000
namespace L2
open PySem PySem.Spec PyProof.Rows
section
variable {X : Cx} {C e fI : Addr}
end
end L2

set_option Elab.async false
set_option linter.all false
set_option maxRecDepth 100000
set_option maxHeartbeats 4000000
namespace L2
open PySem PySem.Spec PyProof.Rows
section
variable {X : Cx} {C fI : Addr}
end
end L2

set_option Elab.async false
set_option linter.all false
set_option maxRecDepth 100000
set_option maxHeartbeats 4000000
namespace L2
open PySem PySem.Spec PyProof.Rows
section
variable {X : Cx} {pins : List (Addr × Obj)} {σ : St} {H : Hp} {s : Shared} {C fI a d : Addr}
end
end L2

set_option Elab.async false
set_option linter.all false
set_option maxRecDepth 100000
set_option maxHeartbeats 4000000
namespace L2
open PySem PySem.Spec PyProof.Rows
open Sem (wp)
open AutoSeq1 (wpAny_loadPart')
section
variable {P : Program} {w : World} {A : Around} {E : Value → Shared → Prop} {s : Shared}
end
section
variable {X : Cx}
end
end L2

set_option Elab.async false
set_option linter.all false
set_option maxRecDepth 100000
set_option maxHeartbeats 4000000
namespace L2
open PySem PySem.Spec PyProof.Rows PySem.Builtin PySem.AutoSeq1
/-! ### a comprehension over zip(l, t): a list and a tuple -/
section
variable {prog : Program} {w : World} {A : Around} {E : Value → Shared → Prop} {s : Shared}
end
section
variable {prog : Program} {w : World} {A : Around} {E : Value → Shared → Prop} {s : Shared}
end
end L2

set_option Elab.async false
set_option linter.all false
set_option maxRecDepth 100000
set_option maxHeartbeats 4000000
namespace L2
open PySem PySem.Spec PyProof.Rows
section
variable {X : Cx}
end
section
variable {K : PySem.W.Frag} {a b : Addr} {xs ys : List V} {σ0 : St} {H : Hp} {g : TG} {tt : TT} {te : TE} {Q : List V → Hp → Prop}
end
end L2

set_option Elab.async false
set_option linter.all false
set_option maxRecDepth 100000
set_option maxHeartbeats 4000000
namespace L2
open PySem PySem.Spec PyProof.Rows PySem.Builtin PySem.AutoSeq1
/-! ### reversed(l) of a list -/
section
variable {prog : Program} {w : World} {A : Around} {E : Value → Shared → Prop} {s : Shared}
end
section
variable {prog : Program} {w : World} {A : Around} {E : Value → Shared → Prop} {s : Shared}
end
section
variable {X : Cx}
end
end L2

set_option Elab.async false
set_option linter.all false
set_option maxRecDepth 100000
set_option maxHeartbeats 4000000
namespace L2
open PySem PySem.Spec PyProof.Rows PySem.Builtin PySem.AutoSeq1
/-! ### list(zip(l, t)) of a list and a tuple of one length -/
section
variable {prog : Program} {w : World} {A : Around} {E : Value → Shared → Prop} {s : Shared}
end
section
variable {X : Cx} {pins : List (Addr × Obj)} {σ : St}
end
section
variable {X : Cx}
end
end L2

set_option Elab.async false
set_option linter.all false
set_option maxRecDepth 100000
set_option maxHeartbeats 4000000
namespace L2
open PySem PySem.Spec PyProof.Rows
section
variable {A : Around} {E : Value → Shared → Prop} {nm q : Str} {C N : Addr} {bs bm : List Value} {hdct : Bool} {sn : List Str} {sub : List Value} {ab : Bool} {col : Option Bool} {dd : Option Addr} {k0 k1 k2 k3 k5 : Option Value} {newId : String} {s : Shared}
end
section
variable {X : Cx} {C fI : Addr}
end
end L2

set_option Elab.async false
set_option linter.all false
set_option maxRecDepth 100000
set_option maxHeartbeats 4000000
namespace L2
open PySem PySem.Spec PyProof.Rows
section
variable {M : Model} {A : Around} {E : Value → Shared → Prop} {nm q nm' q' : Str} {C N B N' : Addr} {bs bm bs' bm' : List Value} {hdct hdct' : Bool} {sn sn' : List Str} {sub sub' : List Value} {ab ab' : Bool} {col col' : Option Bool} {dd dd' : Option Addr} {k0 k1 k2 k3 k5 k0' k1' k2' k3' k5' : Option Value} {newId newId' : String}
end
section
variable {prog : Program} {w : World} {A : Around} {E : Value → Shared → Prop} {env : Env} {nm q nm' q' : Str} {C N B N' : Addr} {bs bm bs' bm' : List Value} {hdct hdct' : Bool} {sn sn' : List Str} {sub sub' : List Value} {ab ab' : Bool} {col col' : Option Bool} {dd dd' : Option Addr} {k0 k1 k2 k3 k5 k0' k1' k2' k3' k5' : Option Value} {newId newId' : String} {s : Shared}
end
section
variable {X : Cx} {C : Addr}
end
section
variable {X : Cx} {nm q nm' q' : Str} {C N B N' : Addr} {bs bm bs' bm' : List Value} {hdct hdct' : Bool} {sn sn' : List Str} {sub sub' : List Value} {ab ab' : Bool} {col col' : Option Bool} {dd dd' : Option Addr} {k0 k1 k2 k3 k5 k0' k1' k2' k3' k5' : Option Value} {newId newId' : String}
end
end L2

set_option Elab.async false
set_option linter.all false
set_option maxRecDepth 100000
set_option maxHeartbeats 4000000
namespace L2
open PySem PySem.Spec PyProof.Rows
/-! ### cuts -/
theorem cut_to {xs : List V} {z : Int} (h0 : 0 ≤ z) (h1 : z.toNat ≤ xs.length) : cutV xs none (some z) = xs.take z.toNat := by
  have e : HT.sIx xs.length xs.length (some z) = z.toNat := by
    show (if z < 0 then (z + (xs.length : Int)).toNat else min z.toNat xs.length) = _
    rw [if_neg (by omega)]
    omega
  unfold cutV
  rw [e]
  show (xs.drop 0).take (z.toNat - 0) = _
  rw [List.drop_zero, Nat.sub_zero]
theorem cut_behind {xs : List V} {z : Int} (h0 : 0 ≤ z) (h1 : z.toNat ≤ xs.length) : cutV xs (some z) none = xs.drop z.toNat := by
  have e : HT.sIx xs.length 0 (some z) = z.toNat := by
    show (if z < 0 then (z + (xs.length : Int)).toNat else min z.toNat xs.length) = _
    rw [if_neg (by omega)]
    omega
  unfold cutV
  rw [e]
  show (xs.drop z.toNat).take (xs.length - z.toNat) = _
  rw [List.take_of_length_le (by rw [List.length_drop]; omega)]
end L2

set_option Elab.async false
set_option linter.all false
set_option maxRecDepth 100000
set_option maxHeartbeats 4000000
namespace K54
open PySem L2
abbrev sHead : Stmt := top 1
abbrev sParts : Stmt := top 2
abbrev sNodeWords : Stmt := top 4
abbrev sShow : Stmt := top 5
abbrev sShowProgram : Stmt := top 6
abbrev sFeed : Stmt := top 8
abbrev sDraw : Stmt := top 9
abbrev sLawValue : Stmt := top 10
abbrev sSpelled : Stmt := top 11
abbrev sLawName : Stmt := top 12
abbrev sNames : Stmt := top 13
abbrev sLawParts : Stmt := top 14
abbrev sWith : Stmt := top 15
abbrev sNodes : Stmt := top 16
abbrev sLawWork : Stmt := top 17
abbrev sRight : Stmt := top 18
abbrev sLeaf : Stmt := top 19
abbrev sTurned : Stmt := top 20
abbrev sSpoilt : Stmt := top 21
abbrev sCopied : Stmt := top 22
abbrev sBound : Stmt := top 23
abbrev sCalled : Stmt := top 24
abbrev sExpr : Stmt := top 25
abbrev sWorld : Stmt := top 26
abbrev sSeeds : Stmt := top 27
abbrev sProgram : Stmt := top 28
abbrev sDrawn : Stmt := top 29
abbrev sWords : Stmt := top 30
abbrev sLines : Stmt := top 31
abbrev sLaw : Stmt := top 32
/-! the feed: its dict and its list of cells -/
def feedKV (l : Addr) (n : Nat) (z : Int) : List (Key × V) := [(Sum.inr "cells", .ref l), (Sum.inr "at", .int n), (Sum.inr "left", .int z)]
structure Feed (H : Hp) (d l : Addr) (ns : List Int) (n : Nat) : Prop where
  dc : ∃ z, H d = some (.dK (feedKV l n z))
  ls : H l = some (.lst (ns.map V.int))
  sz : ns.length ≤ 63
/-- all but the feed's dict stays -/
def But (d : Addr) (H H' : Hp) : Prop := ∀ b o, H b = some o → b ≠ d → H' b = some o
theorem But.refl (d : Addr) (H : Hp) : But d H H := fun _ _ e _ => e
theorem But.trans {d : Addr} {H H1 H2 : Hp} (a : But d H H1) (b : But d H1 H2) : But d H H2 := fun c o e n => b c o (a c o e n) n
theorem But.of {d : Addr} {H H1 : Hp} (a : Same H H1) : But d H H1 := fun c o e _ => a c o e
theorem kv_cells (l : Addr) (n : Nat) (z : Int) : valV (feedKV l n z) (Sum.inr "cells") = some (.ref l) := by with_unfolding_all rfl
theorem kv_at (l : Addr) (n : Nat) (z : Int) : valV (feedKV l n z) (Sum.inr "at") = some (.int n) := by with_unfolding_all rfl
theorem kv_left (l : Addr) (n : Nat) (z : Int) : valV (feedKV l n z) (Sum.inr "left") = some (.int z) := by with_unfolding_all rfl
theorem put_at (l : Addr) (n : Nat) (z : Int) : putK (feedKV l n z) (Sum.inr "at") (.int ((n : Int) + 1)) = feedKV l (n + 1) z := by with_unfolding_all rfl
theorem put_left (l : Addr) (n : Nat) (z y : Int) : putK (feedKV l n z) (Sum.inr "left") (.int y) = feedKV l n y := by with_unfolding_all rfl

theorem get_cells {H : Hp} {d l : Addr} {n : Nat} {z : Int} (h : H d = some (.dK (feedKV l n z))) : DGet H d (.str "cells") (some (.ref l)) := by
  have := DGet.k (k := Sum.inr "cells") h; rw [kv_cells] at this; exact this
theorem get_at {H : Hp} {d l : Addr} {n : Nat} {z : Int} (h : H d = some (.dK (feedKV l n z))) : DGet H d (.str "at") (some (.int n)) := by
  have := DGet.k (k := Sum.inr "at") h; rw [kv_at] at this; exact this
theorem get_left {H : Hp} {d l : Addr} {n : Nat} {z : Int} (h : H d = some (.dK (feedKV l n z))) : DGet H d (.str "left") (some (.int z)) := by
  have := DGet.k (k := Sum.inr "left") h; rw [kv_left] at this; exact this
theorem set_at {H : Hp} {d l : Addr} {n : Nat} {z : Int} (h : H d = some (.dK (feedKV l n z))) : DPut H d (.str "at") (.int ((n : Int) + 1)) (upd H d (.dK (feedKV l (n + 1) z))) := by
  have := DPut.k (k := Sum.inr "at") (v := .int ((n : Int) + 1)) h (by show 3 < sizeLine; decide); rw [put_at] at this; exact this
theorem set_left {H : Hp} {d l : Addr} {n : Nat} {z y : Int} (h : H d = some (.dK (feedKV l n z))) : DPut H d (.str "left") (.int y) (upd H d (.dK (feedKV l n y))) := by
  have := DPut.k (k := Sum.inr "left") (v := .int y) h (by show 3 < sizeLine; decide); rw [put_left] at this; exact this
theorem Feed.ne {H : Hp} {d l : Addr} {ns : List Int} {n : Nat} (F : Feed H d l ns n) : l ≠ d := by
  obtain ⟨⟨z, h⟩, g, _⟩ := F
  exact ne_of g h (by intro q; cases q)
theorem Feed.but {H H' : Hp} {d l : Addr} {ns : List Int} {n m : Nat} {z : Int} (F : Feed H d l ns n) (b : But d H H') (h : H' d = some (.dK (feedKV l m z))) : Feed H' d l ns m := ⟨⟨z, h⟩, b l _ F.ls F.ne, F.sz⟩
theorem But.upd {d : Addr} {H : Hp} {o : HO} : But d H (upd H d o) := fun c u e n => by rw [upd_ne n]; exact e

def spFeed (K : PySem.W.Frag) : Sp := fun vs H Q _ => ∃ (a : Addr) (ns : List Int), vs = [.ref a] ∧ SqL K H a (ns.map V.int) ∧ ns.length ≤ 63 ∧ ∀ d l H', Feed H' d l ns 0 → H d = none → Same H H' → Q (.ref d) H'
def spDraw : Sp := fun vs H Q _ => ∃ (d l : Addr) (ns : List Int) (n : Nat) (m : Int), vs = [.ref d, .int m] ∧ Feed H d l ns n ∧ n ≤ 1000000000000 ∧ 0 < m ∧ m < 18446744073709551616 ∧
  ∀ r n' H', 0 ≤ r → r < m → n' ≤ n + 1 → Feed H' d l ns n' → But d H H' → Q (.int r) H'
theorem cut63 {ns : List Int} (h : ns.length ≤ 63) : cutV (ns.map V.int) none (some 63) = ns.map V.int := by
  have e1 : HT.sIx (ns.map V.int).length 0 none = 0 := rfl
  have e2 : HT.sIx (ns.map V.int).length (ns.map V.int).length (some 63) = min 63 (ns.map V.int).length := rfl
  unfold cutV
  rw [e1, e2, List.drop_zero, List.take_of_length_le]
  rw [List.length_map]; omega
theorem lo29 (x : Int) : -(2 ^ 64) < x % 2147483629 := by omega
theorem hi29 (x : Int) : x % 2147483629 < 2 ^ 64 := by omega
theorem flat_ints (ns : List Int) : (ns.map V.int).all flatV = true := by
  rw [List.all_map]; exact List.all_eq_true.mpr fun _ _ => rfl
theorem Feed.same {H H' : Hp} {d l : Addr} {ns : List Int} {n : Nat} (F : Feed H d l ns n) (s : Same H H') : Feed H' d l ns n := let ⟨⟨z, h⟩, g, q⟩ := F; ⟨⟨z, s _ _ h⟩, s _ _ g, q⟩
theorem small_len {xs : List V} (h : xs.length ≤ 1000) : xs.length ≤ sizeLine := Nat.le_trans h (by decide)
structure Txt0 (mg : Str → Option Value) : Prop where
  len : mg "len" = none
  list : mg "list" = none
  range : mg "range" = none
section
variable {P : Program} {w : World} {K : PySem.W.Frag} {mg : Str → Option Value} {base : Heap}
theorem scFeed : FnScope ["_law_script"] ["_law_script"] (defScope sFeed) := ⟨rfl, rfl, rfl, by decide +kernel, rfl, by decide +kernel, by decide +kernel⟩
theorem ok_feed {f : Addr} {fd : FuncData} (F : Fun K "_law_feed" "_law_feed" sFeed f fd) (T : Txt0 mg) : FnOk P w K mg base CX0 1 f fd ["_law_script"] (spFeed K) := by
  refine F.ok scFeed (fun vs H Q E h => ?_) (fun cdv A outer s H vs Q E hr h => ?_)
  · obtain ⟨a, ns, rfl, _⟩ := h
    rfl
  · obtain ⟨a, ns, rfl, hS, hl, k⟩ := h
    refine ⟨_, pss_one (ps_ret (pe_disp (pps_cons pe_str (pe_callTy call_list_of (by rfl) T.list (by rfl) (pa_cons (pe_slice sl_list (pv 0) po_none (po_some pe_int)) pa_nil)) (pps_cons pe_str pe_int (pps_cons pe_str pe_int pps_nil))) rfl rfl (by intro z; cases z) (by decide))), ?_⟩
    intro d hd
    refine ⟨_, rfl, _, rfl, a, _, rfl, (same_upd hd).seq hS, fun p hp => ?_⟩
    refine ⟨p, _, rfl, .inl (SqL.of upd_same), fun l hl' => ?_⟩
    have hdl : d ≠ l := ne_of_none (H := upd (upd H d (.dK [])) p (.lst (cutV (ns.map V.int) none (some 63)))) (by rw [upd_ne (ne_of_none upd_same hp)]; exact upd_same) hl'
    have hpd : p ≠ d := fun z => by rw [z, upd_same] at hp; cases hp
    refine ⟨by rw [upd_ne hdl, upd_ne hpd.symm]; exact upd_same, feedKV l 0 0, rfl, by show 3 ≤ 15; decide, ?_⟩
    have em : mergeK [] (feedKV l 0 0) = feedKV l 0 0 := by with_unfolding_all rfl
    rw [em]
    refine k d l _ ⟨⟨0, upd_same⟩, ?_, hl⟩ hd ?_
    · rw [upd_ne hdl.symm, upd_same, cut63 hl]
    · intro b o e
      have hb : (upd H d (.dK [])) b = some o := same_upd hd b o e
      have hb2 := same_upd (o := .lst (cutV (ns.map V.int) none (some 63))) hp b o hb
      rw [upd_ne (ne_of_none e hd)]
      exact same_upd hl' b o hb2
theorem scDraw : FnScope ["_law_feed_here", "_law_many", "_law_found", "_law_at", "_law_cell", "_law_number"] ["_law_feed_here", "_law_many"] (defScope sDraw) := ⟨rfl, rfl, rfl, by decide +kernel, rfl, by decide +kernel, by decide +kernel⟩
theorem ok_draw {f : Addr} {fd : FuncData} (F : Fun K "_law_draw" "_law_draw" sDraw f fd) (T : Txt0 mg) : FnOk P w K mg base CX0 1 f fd ["_law_feed_here", "_law_many"] spDraw := by
  refine F.ok scDraw (fun vs H Q E h => ?_) (fun cdv A outer s H vs Q E hr h => ?_)
  · obtain ⟨d, l, ns, n, m, rfl, _⟩ := h
    rfl
  · obtain ⟨d, l, ns, n, m, rfl, FD, hn, hm0, hm1, k⟩ := h
    have hu := hu_of hr
    have hu0 := hr.units0
    obtain ⟨⟨z, hd⟩, hls, hsz⟩ := id FD
    refine ⟨_, pss_cons (ps_if (pt_cmpR op_gt (pe_dget hu (pv 0) pe_str (fun _ _ => rfl)) pe_int (nomark _))
        (pss_cons (ps_set (i := 2) scDraw.nd rfl (Or.inl rfl) (pe_op op_mod (pe_dget hu (pv 0) pe_str (fun _ _ => rfl)) (pv 1))) <|
         pss_cons (ps_dput hu (pv 0) pe_str (pe_op op_fdivL (pe_dget hu (pv 0) pe_str (fun _ _ => rfl)) (pv 1)) rfl) <|
         pss_one (ps_ret (pv 2))) pss_nil) <|
      pss_cons (ps_set (i := 3) scDraw.nd rfl (Or.inl rfl) (pe_dget hu (pv 0) pe_str (fun _ _ => rfl))) <|
      pss_cons (ps_dput hu (pv 0) pe_str (pe_op op_add (pv 3) pe_int) rfl) <|
      pss_cons (ps_set (i := 4) scDraw.nd rfl (Or.inl rfl) (pe_op op_add (pe_op op_mul (pv 3) (pv 3)) pe_int)) <|
      pss_cut (ps_if (pt_cmpR (op_ne_list hu0) (pe_dget hu (pv 0) pe_str (fun _ _ => rfl)) (pe_lst pa_nil) (nomark _))
        (pss_one (ps_set (i := 4) scDraw.nd rfl (Or.inl rfl) (pe_ix ix_list (pe_dget hu (pv 0) pe_str (fun _ _ => rfl)) (pe_op op_mod (pv 3) (pe_callB call_len_seq (by rfl) T.len PySem.boot_len (pa_cons (pe_dget hu (pv 0) pe_str (fun _ _ => rfl)) pa_nil))) (fun _ _ => rfl)))) pss_nil) <|
      pss_cons (ps_if (pt_cmpR op_ge (pv 4) (pe_op op_pow pe_int pe_int) (nomark _))
        (pss_cons (ps_dput hu (pv 0) pe_str (pe_op op_fdivL (pv 4) (pv 1)) rfl) <| pss_one (ps_ret (pe_op op_mod (pv 4) (pv 1)))) pss_nil) <|
      pss_cons (ps_set (i := 5) scDraw.nd rfl (Or.inl rfl) (pe_op op_mod (pe_op op_mul (pe_op op_add (pe_op op_add (pe_op op_mod (pv 4) pe_int) (pe_op op_mul pe_int (pv 3))) pe_int) pe_int) pe_int)) <|
      pss_cons (ps_set (i := 5) scDraw.nd rfl (Or.inl rfl) (pe_op op_mod (pe_op op_add (pe_op op_add (pe_op op_mul (pv 5) (pv 5)) (pe_op op_mul pe_int (pv 3))) pe_int) pe_int)) <|
      pss_cons (ps_set (i := 5) scDraw.nd rfl (Or.inl rfl) (pe_op op_mod (pe_op op_add (pe_op op_mul (pv 5) pe_int) (pv 3)) pe_int)) <|
      pss_one (ps_ret (pe_op op_mod (pe_op op_fdivL (pe_op op_mod (pe_op op_mul (pv 5) (pv 5)) pe_int) pe_int) (pv 1))), ?_⟩
    refine ⟨_, rfl, d, .int z, rfl, get_left hd, _, _, rfl, rfl, _, rfl, ?_⟩
    refine ite2 (fun hz => ?_) (fun hz => ?_)
    · refine ⟨_, rfl, d, .int z, rfl, get_left hd, _, rfl, _, _, rfl, rfl, hm0, ?_⟩
      refine ⟨_, rfl, d, .int z, rfl, get_left hd, _, rfl, _, _, rfl, rfl, ⟨hm0, hm1⟩, _, rfl, d, _, rfl, set_left hd, _, rfl, ?_⟩
      exact k _ n _ (Int.emod_nonneg _ (by omega)) (Int.emod_lt_of_pos _ hm0) (Nat.le_succ _) (FD.but But.upd upd_same) But.upd
    · refine ⟨_, rfl, d, .int n, rfl, get_at hd, ?_⟩
      refine ⟨_, rfl, _, _, rfl, rfl, _, rfl, d, _, rfl, set_at hd, ?_⟩
      have hd1 : upd H d (.dK (feedKV l (n + 1) z)) d = some (.dK (feedKV l (n + 1) z)) := upd_same
      have F1 : Feed (upd H d (.dK (feedKV l (n + 1) z))) d l ns (n + 1) := FD.but But.upd upd_same
      have B1 : But d H (upd H d (.dK (feedKV l (n + 1) z))) := But.upd
      generalize upd H d (.dK (feedKV l (n + 1) z)) = H1 at hd1 F1 B1 ⊢
      have hls1 := F1.ls
      refine ⟨_, rfl, _, rfl, _, _, rfl, rfl, .inl ⟨by omega, by omega⟩, _, _, rfl, rfl, ?_⟩
      refine ⟨fun σ' H' => ∃ c o, σ' = [some (.ref d), some (.int m), o, some (.int n), some (.int c), none] ∧ Feed H' d l ns (n + 1) ∧ But d H H', ?_, ?_⟩
      · refine ⟨_, rfl, d, .ref l, rfl, get_cells hd1, Nat.zero_le _, fun e he => ⟨l, e, ns.map V.int, [], rfl, rfl, SqL.of (same_upd he _ _ hls1), SqL.of upd_same, flat_ints ns, rfl, _, rfl, ?_⟩⟩
        have F2 := F1.same (same_upd (o := .lst []) he)
        have B2 : But d H (upd H1 e (.lst [])) := B1.trans (But.of (same_upd he))
        obtain ⟨⟨z2, hd2⟩, hls2, _⟩ := id F2
        refine ite2 (fun hne => ?_) (fun hne => ?_)
        · have hpos : 0 < (ns.map V.int).length := by
            cases ns with
            | nil => exact absurd hne (by decide)
            | cons _ _ => exact Nat.succ_pos _
          obtain ⟨v, hv, hat⟩ := at_mod hpos (n : Int)
          obtain ⟨c, _, rfl⟩ := List.mem_map.mp hv
          refine ⟨_, rfl, d, .ref l, rfl, get_cells hd2, _, rfl, _, rfl, d, .ref l, rfl, get_cells hd2, l, ns.map V.int, rfl, .inl (SqL.of hls2), _, _, rfl, rfl, (by show (0 : Int) < ((ns.map V.int).length : Int); omega), l, ns.map V.int, _, .int c, rfl, rfl, SqL.of hls2, hat, ?_⟩
          exact ⟨c, none, rfl, F2, B2⟩
        · exact ⟨_, none, rfl, F2, B2⟩
      · rintro σ' H2 ⟨c, o, rfl, F2, B2⟩
        obtain ⟨⟨z2, hd2⟩, hls2, _⟩ := id F2
        refine ⟨_, rfl, _, _, rfl, rfl, ⟨by decide, by decide, by decide⟩, _, _, rfl, rfl, _, rfl, ?_⟩
        refine ite2 (fun hge => ?_) (fun hge => ?_)
        · refine ⟨_, rfl, _, rfl, _, _, rfl, rfl, ⟨hm0, hm1⟩, _, rfl, d, _, rfl, set_left hd2, _, rfl, _, rfl, _, _, rfl, rfl, hm0, ?_⟩
          exact k _ (n + 1) _ (Int.emod_nonneg _ (by omega)) (Int.emod_lt_of_pos _ hm0) (Nat.le_refl _) (F2.but But.upd upd_same) (B2.trans But.upd)
        · refine ⟨_, rfl, _, _, rfl, rfl, (by show (0 : Int) < 2147483647; decide), _, rfl, _, _, rfl, rfl, .inl ⟨by decide, by decide⟩, _, _, rfl, rfl, _, _, rfl, rfl, _, _, rfl, rfl, .inr ⟨by decide, by decide⟩, _, _, rfl, rfl, (by show (0 : Int) < 2147483629; decide), ?_⟩
          refine ⟨_, rfl, _, rfl, _, _, rfl, rfl, .inl ⟨lo29 _, hi29 _⟩, _, rfl, _, _, rfl, rfl, .inl ⟨by decide, by decide⟩, _, _, rfl, rfl, _, _, rfl, rfl, _, _, rfl, rfl, (by show (0 : Int) < 2147483647; decide), ?_⟩
          refine ⟨_, rfl, _, _, rfl, rfl, .inr ⟨by decide, by decide⟩, _, rfl, _, _, rfl, rfl, _, _, rfl, rfl, (by show (0 : Int) < 2147483629; decide), ?_⟩
          refine ⟨_, rfl, _, rfl, _, _, rfl, rfl, .inl ⟨lo29 _, hi29 _⟩, _, _, rfl, rfl, (by show (0 : Int) < 2147483587; decide), _, _, rfl, rfl, ⟨by decide, by decide⟩, _, rfl, _, _, rfl, rfl, hm0, ?_⟩
          exact k _ (n + 1) _ (Int.emod_nonneg _ (by omega)) (Int.emod_lt_of_pos _ hm0) (Nat.le_refl _) F2 B2
/-! a word spelled -/
/-- its length, and its first sign -/
def Low (t : Str) : Prop := ∀ c ∈ t.cps.toList, 97 ≤ c ∧ c ≤ 122
theorem low_nil : Low "" := by
  have e : ("" : Str).cps.toList = [] := by decide +kernel
  intro c hc
  rw [e] at hc
  cases hc
theorem low_app {x y : Str} (a : Low x) (b : Low y) : Low (x ++ y) := by
  intro c hc
  have e : (x ++ y).cps.toList = x.cps.toList ++ y.cps.toList := by
    show (x.cps ++ y.cps).toList = _
    rw [Array.toList_append]
  rw [e] at hc
  rcases List.mem_append.mp hc with z | z
  · exact a c z
  · exact b c z
theorem low_one {c : Nat} (h : 97 ≤ c ∧ c ≤ 122) : Low ⟨#[c]⟩ := by
  intro d hd
  have : d = c := by simpa using hd
  subst this
  exact h
def Spelled (t : Str) (x m : Int) : Prop := ((t.length : Int) = m ∧ Low t) ∧ (0 < m → t.cps.toList[0]? = some (97 + (x % 26).toNat))
def spSpelled : Sp := fun vs H Q _ => ∃ (x m : Int), vs = [.int x, .int m] ∧ 0 ≤ m ∧ m ≤ 10 ∧ ∀ t : Str, Spelled t x m → Q (.str t) H
abbrev abc : Str := "abcdefghijklmnopqrstuvwxyz"
theorem abc_at : ∀ k : Fin 26, abc.cps.toList[k.val]? = some (97 + k.val) := by decide +kernel
theorem abc_is (y : Int) : atI abc.cps.toList (y % 26) = some (97 + (y % 26).toNat) := by
  have h0 : 0 ≤ y % 26 := by omega
  have h1 : y % 26 < 26 := by omega
  have e : y % 26 = ((y % 26).toNat : Int) := by omega
  have h := atI_nat (abc_at ⟨(y % 26).toNat, by omega⟩)
  rw [← e] at h
  exact h
theorem scSpelled : FnScope ["_law_number", "_law_long", "_law_word", "_law_k"] ["_law_number", "_law_long"] (defScope sSpelled) := ⟨rfl, rfl, rfl, by decide +kernel, rfl, by decide +kernel, by decide +kernel⟩
theorem ok_spelled {f : Addr} {fd : FuncData} (F : Fun K "_law_spelled" "_law_spelled" sSpelled f fd) (T : Txt0 mg) : FnOk P w K mg base CX0 1 f fd ["_law_number", "_law_long"] spSpelled := by
  refine F.ok scSpelled (fun vs H Q E h => ?_) (fun cdv A outer s H vs Q E hr h => ?_)
  · obtain ⟨x, m, rfl, _⟩ := h
    rfl
  · obtain ⟨x, m, rfl, h0, h1, k⟩ := h
    refine ⟨_, pss_cons (ps_set (i := 2) scSpelled.nd rfl (Or.inl rfl) pe_str) <|
      pss_cons (ps_for PassesOwn.never rfl (pi_range1 rfl T.range (pa_cons (pv 1) pa_nil)) (pg_name (i := 3) scSpelled.nd rfl (Or.inl rfl))
        (pss_cons (ps_set (i := 2) scSpelled.nd rfl (Or.inl rfl) (pe_op op_add_str (pv 2) (pe_ix ix_str pe_str (pe_op op_mod (pv 0) pe_int) (fun _ _ => rfl)))) <|
         pss_one (ps_set (i := 0) scSpelled.nd rfl (Or.inl rfl) (pe_op op_fdivL (pv 0) pe_int)))) <|
      pss_one (ps_ret (pv 2)), ?_⟩
    refine ⟨_, rfl, m, rfl, by omega, by omega, for_range (n := m.toNat) (fun i σ H' => ∃ y t o, σ = [some (.int y), some (.int m), some (.str t), o] ∧ t.length = i ∧ Low t ∧ (i = 0 → y = x) ∧ (0 < i → t.cps.toList[0]? = some (97 + (x % 26).toNat)) ∧ H' = H) ⟨x, _, none, rfl, rfl, low_nil, fun _ => rfl, fun z => absurd z (Nat.lt_irrefl _), rfl⟩ ?_ ?_⟩
    · rintro i σ H' hi ⟨y, t, o, rfl, ht, hlow, hy, hf, rfl⟩
      have hat := abc_is y
      refine ⟨_, rfl, _, rfl, _, _, rfl, rfl, (by show (0 : Int) < 26; decide), abc, _, _, rfl, rfl, (by decide +kernel), hat, _, _, rfl, rfl, ?_, _, rfl, _, _, rfl, rfl, ⟨by decide, by decide⟩, ?_⟩
      · show t.length + 1 ≤ sizeLine
        have : sizeLine = 16777216 := sizeLine_eq
        omega
      · refine ⟨_, _, _, rfl, by rw [PySem.Str.length_append, ht]; rfl, low_app hlow (low_one (by omega)), fun z => absurd z (Nat.succ_ne_zero _), fun _ => ?_, rfl⟩
        show (t.cps ++ #[97 + (y % 26).toNat]).toList[0]? = _
        by_cases hz : i = 0
        · have h2 : t.cps.toList = [] := by
            apply List.eq_nil_of_length_eq_zero
            rw [Array.length_toList]
            show t.length = 0
            omega
          rw [Array.toList_append, h2, hy hz]
          rfl
        · have h2 := hf (by omega)
          rw [Array.toList_append, List.getElem?_append_left (by rw [Array.length_toList]; show 0 < t.length; omega)]
          exact h2
    · rintro σ H' ⟨y, t, o, rfl, ht, hlow, _, hf, rfl⟩
      exact ⟨_, rfl, k t ⟨⟨by omega, hlow⟩, fun z => hf (by omega)⟩⟩
end
end K54

set_option Elab.async false
set_option linter.all false
set_option maxRecDepth 100000
set_option maxHeartbeats 4000000
namespace K54
open PySem L2
theorem strs_flat (ts : List Str) : (ts.map V.str).all flatV = true := by
  rw [List.all_map]
  exact List.all_eq_true.mpr fun _ _ => rfl
instance (t : Str) : Decidable (Low t) := by unfold Low; exact inferInstance
theorem low_slice {x : Str} {lo hi : Option Int} (h : Low x) : Low (Txt.slice x lo hi) := by
  unfold Txt.slice
  split
  · exact h
  · intro c hc
    have hc' := hc
    simp only [List.mem_filterMap] at hc'
    obtain ⟨i, _, e⟩ := hc'
    refine h c ?_
    rw [Array.mem_toList_iff]
    exact Array.mem_of_getElem? e
def words8 : List Str := ["num", "name", "op", "pick", "let", "set", "say", "take"]
def words5 : List Str := ["do", "again", "call", "own", "hole"]
def words13 : List Str := words8 ++ words5
def short12 : List Str := ["a", "b", "c", "d", "x", "y", "z", "n", "v", "aa", "ab", "tmp"]
theorem words13_ok : ∀ t ∈ words13, (1 ≤ t.length ∧ t.length ≤ 5) ∧ Low t := by decide +kernel
theorem short12_ok : ∀ t ∈ short12, (1 ≤ t.length ∧ t.length ≤ 5) ∧ Low t := by decide +kernel
theorem inV_strs (t : Str) (ts : List Str) : inV (.str t) (ts.map V.str) = true ↔ t ∈ ts := by
  unfold inV
  rw [List.any_map, List.any_eq_true]
  constructor
  · rintro ⟨y, hy, e⟩
    have e' : (y == t) = true := e
    rw [← beq_iff_eq.mp e']
    exact hy
  · intro h
    exact ⟨t, h, beq_self_eq_true t⟩
theorem But.lst {d a : Addr} {H H' : Hp} {kvs : List (Key × V)} {xs : List V} (b : But d H H') (hd : H d = some (.dK kvs)) (h : H a = some (.lst xs)) : H' a = some (.lst xs) := b a _ h (ne_of h hd (by intro q; cases q))
theorem app_len (x y : Str) : (x ++ y).length = x.length + y.length := PySem.Str.length_append x y
theorem len1000 {x : Str} (h : x.length ≤ 1000) : x.length ≤ sizeLine := Nat.le_trans h (by decide)
/-- a name's text as the drawing knows it -/
abbrev Nm (t : Str) : Prop := (1 ≤ t.length ∧ t.length ≤ 8) ∧ Low t
def spLawName : Sp := fun vs H Q _ => ∃ (d l a : Addr) (ns : List Int) (n : Nat) (ts : List Str), vs = [.ref d, .ref a] ∧ Feed H d l ns n ∧ n ≤ 900000000000 ∧ H a = some (.lst (ts.map V.str)) ∧ ts.length ≤ 40 ∧ (∀ t ∈ ts, Nm t) ∧
  ∀ (t : Str) n' H', Nm t → t ∉ ts → t ∉ words13 → n' ≤ n + 8 → Feed H' d l ns n' → But d H H' → Q (.str t) H'
/-- the first sign of a text that has one -/
theorem first_of {t : Str} (h : 1 ≤ t.length) : ∃ c, atI t.cps.toList 0 = some c := by
  have hl : t.cps.toList.length = t.length := by simp [Str.length]
  obtain ⟨c, _, e⟩ := at_in (xs := t.cps.toList) (i := 0) (by decide) (by rw [hl]; omega)
  exact ⟨c, e⟩
theorem low_at {t : Str} {i : Int} {c : Nat} (h : Low t) (e : atI t.cps.toList i = some c) : 97 ≤ c ∧ c ≤ 122 := by
  obtain ⟨j, _, e2, _⟩ := atI_get e
  exact h c (List.mem_of_getElem? e2)
/-- the turns of the search: number and length of turn i, from x and m on -/
def mi (m : Int) (i : Nat) : Int := (m - 1 + i) % 8 + 1
def KeyAt (x m : Int) (u : Str) (j : Nat) : Prop := (u.length : Int) = mi m j ∧ u.cps.toList[0]? = some (97 + ((x + j) % 26).toNat)
instance (x m : Int) (u : Str) (j : Nat) : Decidable (KeyAt x m u j) := by unfold KeyAt; exact inferInstance
theorem key_apart {x m : Int} {u : Str} {i j : Nat} (hi : i ≤ 60) (hj : j < i) (a : KeyAt x m u i) (b : KeyAt x m u j) : False := by
  obtain ⟨a1, a2⟩ := a
  obtain ⟨b1, b2⟩ := b
  unfold mi at a1 b1
  rw [a2] at b2
  have b3 := Option.some.inj b2
  have h1 : 0 ≤ (x + i) % 26 := by omega
  have h2 : 0 ≤ (x + j) % 26 := by omega
  omega
/-- what is still to be met of the names that are taken -/
structure Left (x m : Int) (ex R : List Str) (i : Nat) : Prop where
  few : R.length + i ≤ 54
  all : ∀ u ∈ ex, u ∈ R ∨ ∃ j, j < i ∧ KeyAt x m u j
theorem Left.zero {x m : Int} {ex : List Str} (h : ex.length ≤ 53) : Left x m ex ex 0 := ⟨by omega, fun u hu => .inl hu⟩
theorem Left.one {x m : Int} {ex R : List Str} (h : ex.length ≤ 53) : Left x m ex ex 1 := ⟨by omega, fun u hu => .inl hu⟩
theorem Left.next {x m : Int} {ex R : List Str} {i : Nat} {t : Str} (h : Left x m ex R i) (ht : t ∈ ex) (k : KeyAt x m t i) : Left x m ex (R.filter fun u => !decide (KeyAt x m u i)) (i + 1) := by
  have hR : t ∈ R := by
    rcases h.all t ht with z | ⟨j, hj, kj⟩
    · exact z
    · exact (key_apart (by have := h.few; omega) hj k kj).elim
  have hlt : (R.filter fun u => !decide (KeyAt x m u i)).length < R.length := by
    rw [List.length_filter_lt_length_iff_exists]
    exact ⟨t, hR, by simp [k]⟩
  refine ⟨by have := h.few; omega, fun u hu => ?_⟩
  rcases h.all u hu with z | ⟨j, hj, kj⟩
  · by_cases q : KeyAt x m u i
    · exact .inr ⟨i, Nat.lt_succ_self _, q⟩
    · exact .inl (List.mem_filter.mpr ⟨z, by simp [q]⟩)
  · exact .inr ⟨j, by omega, kj⟩
theorem ps_set9 {X : Cx} {i : Nat} {x : Str} {e : Expr} {te : TE} {pos pos' : Pos} (hN : X.N.Nodup) (hi : X.N[i]? = some x) (hx : Loc X.env.scope x) (he : PE X e te) (hs : swapsWith e (some (.Name x pos')) pos.line X.env = pure false) (hf : X.fn x = true ∨ X.env.scope.names.lookup x = some .local) :
    PS X (.Assign [.Name x pos'] e pos) (tAsg te (gName i)) := ps_set hN hi hx he hs hf
section
variable {P : Program} {w : World} {K : PySem.W.Frag} {mg : Str → Option Value} {base : Heap}
/-- the law's own helpers as they stand behind the top -/
structure Helpers (K : PySem.W.Frag) (mg : Str → Option Value) (fD fS : Addr) (dD dS : FuncData) : Prop where
  T : Txt0 mg
  D : Fun K "_law_draw" "_law_draw" sDraw fD dD
  bD : Binds K dD ["_law_feed_here", "_law_many"] []
  mD : mg "_law_draw" = some (.ref fD)
  S : Fun K "_law_spelled" "_law_spelled" sSpelled fS dS
  bS : Binds K dS ["_law_number", "_law_long"] []
  mS : mg "_law_spelled" = some (.ref fS)
theorem scLawName : FnScope ["_law_feed_here", "_law_taken", "_law_words_here", "_law_way", "_law_long", "_law_number", "_law_name_here", "_law_word", "_law_at"] ["_law_feed_here", "_law_taken"] (defScope sLawName) := ⟨rfl, rfl, rfl, by decide +kernel, rfl, by decide +kernel, by decide +kernel⟩
/-- between two statements -/
def Mid (d l a wd : Addr) (ns : List Int) (n k : Nat) (ts : List Str) (H : Hp) (way m x : Int) : St → Hp → Prop := fun σ' H' => ∃ (t : Str) (n' : Nat) (o7 o8 : Option V),
  σ' = [some (.ref d), some (.ref a), some (.ref wd), some (.int way), some (.int m), some (.int x), some (.str t), o7, o8] ∧ Nm t ∧ n' ≤ n + k ∧ Feed H' d l ns n' ∧ H' a = some (.lst (ts.map V.str)) ∧ H' wd = some (.lst (words13.map V.str)) ∧ But d H H'
theorem ok_lawname {f fD fS : Addr} {fd dD dS : FuncData} (F : Fun K "_law_name" "_law_name" sLawName f fd) (U : Helpers K mg fD fS dD dS) : FnOk P w K mg base CX0 2 f fd ["_law_feed_here", "_law_taken"] spLawName := by
  have GD : FnOk P w K mg base CX0 1 fD dD ["_law_feed_here", "_law_many"] spDraw := ok_draw U.D U.T
  have GS : FnOk P w K mg base CX0 1 fS dS ["_law_number", "_law_long"] spSpelled := ok_spelled U.S U.T
  refine F.ok scLawName (fun vs H Q E h => ?_) (fun cdv A outer s H vs Q E hr h => ?_)
  · obtain ⟨d, l, a, ns, n, ts, rfl, _⟩ := h
    rfl
  · obtain ⟨d, l, a, ns, n, ts, rfl, F0, hn, A0, hts, hall, k⟩ := h
    have hu0 := hr.units0
    have hsz : sizeLine = 16777216 := sizeLine_eq
    have hr1 : Room 1 _ := hr.mono (by decide)
    refine' ⟨?tt, ?body, ?fin⟩
    case body =>
      refine' pss_cons ?s1 (pss_cons ?s2 (pss_cons ?s3 (pss_cons ?s4 (pss_cons ?s5 (pss_cons ?s6 (pss_cut ?s7 (pss_cut ?s8 (pss_cut ?s9 (pss_cut ?s10 (pss_cons ?s11 (pss_one ?s12)))))))))))
      case s1 => exact ps_set (i := 2) scLawName.nd rfl (Or.inl rfl) (pe_consts (vs := words8.map V.str) (by decide +kernel))
      case s2 => exact ps_set (i := 2) scLawName.nd rfl (Or.inl rfl) (pe_op op_cat (pv 2) (pe_consts (vs := words5.map V.str) (by decide +kernel)))
      case s3 => exact ps_set (i := 3) scLawName.nd rfl (Or.inl rfl) (pe_call GD hr1 (by rfl) U.mD U.D.kp U.bD .nil pass0 (pa_n (pv 0) (pa_k pe_int pa_nil)))
      case s4 => exact ps_set (i := 4) scLawName.nd rfl (Or.inl rfl) (pe_op op_add pe_int (pe_call GD hr1 (by rfl) U.mD U.D.kp U.bD .nil pass0 (pa_n (pv 0) (pa_k pe_int pa_nil))))
      case s5 => exact ps_set (i := 5) scLawName.nd rfl (Or.inl rfl) (pe_op op_add (pe_op op_mul (pe_call GD hr1 (by rfl) U.mD U.D.kp U.bD .nil pass0 (pa_n (pv 0) (pa_k pe_int pa_nil))) pe_int) (pe_call GD hr1 (by rfl) U.mD U.D.kp U.bD .nil pass0 (pa_n (pv 0) (pa_k pe_int pa_nil))))
      case s6 => exact ps_set (i := 6) scLawName.nd rfl (Or.inl rfl) (pe_call GS hr1 (by rfl) U.mS U.S.kp U.bS .nil pass0 (pa_n (pv 5) (pa_n (pv 4) pa_nil)))
      case s7 =>
        refine' ps_if (pt_cmpR op_eq (pv 3) pe_int (nomark _)) (pss_one ?b) pss_nil
        case b =>
          refine' ps_set (i := 6) scLawName.nd rfl (Or.inl rfl) (pe_op op_add_str ?l ?r)
          case l => exact pe_ix ix_list (pv 2) (pe_call GD hr1 (by rfl) U.mD U.D.kp U.bD .nil pass0 (pa_n (pv 0) (pa_k pe_int pa_nil))) (fun _ _ => rfl)
          case r => exact pe_ix ix_str (pv 6) pe_int (fun _ _ => rfl)
      case s8 =>
        refine' ps_if (pt_cmpR op_eq (pv 3) pe_int (nomark _)) (pss_one ?b) pss_nil
        case b =>
          refine' ps_set9 (i := 6) ?ha ?hb ?hc ?hd ?he ?hf
          case ha => exact scLawName.nd
          case hb => exact rfl
          case hc => exact (Or.inl rfl)
          case he => exact rfl
          case hf => exact (.inr rfl)
          case hd =>
            refine' @pe_ix ((cxOf CX0 P w K mg base ["_law_feed_here", "_law_taken", "_law_words_here", "_law_way", "_law_long", "_law_number", "_law_name_here", "_law_word", "_law_at"] "_law_name" (defScope sLawName) f cdv A outer s H E).nox) _ _ _ _ _ _ ix_list ?hl (pe_call GD hr1 (by rfl) U.mD U.D.kp U.bD .nil pass0 (pa_n (pv 0) (pa_k pe_int pa_nil))) ?hp
            case hl =>
              refine' @pe_consts ((cxOf CX0 P w K mg base ["_law_feed_here", "_law_taken", "_law_words_here", "_law_way", "_law_long", "_law_number", "_law_name_here", "_law_word", "_law_at"] "_law_name" (defScope sLawName) f cdv A outer s H E).nox) _ (short12.map V.str) ?q
              case q => decide +kernel
            case hp => exact (fun _ _ => rfl)
      case s9 =>
        refine' ps_if ?c (pss_one ?b) pss_nil
        case c => exact (pw_and (pt_cmpR op_eq (pv 3) pe_int (nomark _)) (pw_and1 (pt_cmpR (op_ne_list hu0) (pv 1) (pe_lst pa_nil) (nomark _)))).pt
        case b =>
          refine' ps_set (i := 6) scLawName.nd rfl (Or.inl rfl) (pe_slice sl_str (pe_op op_add_str (pe_ix ix_list ?x ?y (fun _ _ => rfl)) ?z) po_none (po_some ?u))
          case x => exact pv 1
          case y => exact (pe_call GD hr1 (by rfl) U.mD U.D.kp U.bD .nil pass0 (pa_n (pv 0) (pa_c (pe_callB call_len_seq (by rfl) U.T.len PySem.boot_len (pa_n (pv 1) pa_nil)) pa_nil)))
          case z => exact pv 6
          case u => exact pe_op op_add pe_int (pe_op op_mod (pv 5) pe_int)
      case s10 =>
        refine' ps_if ?c (pss_cons ?b1 (pss_cons ?b2 (pss_one ?b3))) pss_nil
        case c => exact (pw_and (pt_cmpR op_eq (pv 3) pe_int (nomark _)) (pw_and1 (pt_cmpR (op_ne_list hu0) (pv 1) (pe_lst pa_nil) (nomark _)))).pt
        case b1 =>
          refine' ps_set (i := 7) scLawName.nd rfl (Or.inl rfl) (pe_ix ix_list ?x ?y (fun _ _ => rfl))
          case x => exact pv 1
          case y => exact (pe_call GD hr1 (by rfl) U.mD U.D.kp U.bD .nil pass0 (pa_n (pv 0) (pa_c (pe_callB call_len_seq (by rfl) U.T.len PySem.boot_len (pa_n (pv 1) pa_nil)) pa_nil)))
        case b2 => exact ps_set (i := 8) scLawName.nd rfl (Or.inl rfl) (pe_op op_mod (pv 5) (pe_callB call_len_str (by rfl) U.T.len PySem.boot_len (pa_n (pv 7) pa_nil)))
        case b3 =>
          refine' ps_set (i := 6) scLawName.nd rfl (Or.inl rfl) (pe_op op_add_str (pe_op op_add_str ?x ?y) ?z)
          case x => exact pe_slice sl_str (pv 7) po_none (po_some (pv 8))
          case y => exact pe_ix ix_str (pv 6) pe_int (fun _ _ => rfl)
          case z => exact pe_slice sl_str (pv 7) (po_some (pe_op op_add (pv 8) pe_int)) po_none
      case s11 =>
        refine' ps_while PassesOwn.never ?c (pss_cons ?b1 (pss_cons ?b2 (pss_one ?b3)))
        case c => exact (pw_or (pt_cmpR op_in_seq (pv 6) (pv 1) (by with_unfolding_all rfl)) (pw_or1 (pt_cmpR op_in_seq (pv 6) (pv 2) (by with_unfolding_all rfl)))).pt
        case b1 => exact ps_set (i := 5) scLawName.nd rfl (Or.inl rfl) (pe_op op_add (pv 5) pe_int)
        case b2 => exact ps_set (i := 4) scLawName.nd rfl (Or.inl rfl) (pe_op op_add (pe_op op_mod (pv 4) pe_int) pe_int)
        case b3 => exact ps_set (i := 6) scLawName.nd rfl (Or.inl rfl) (pe_call GS hr1 (by rfl) U.mS U.S.kp U.bS .nil pass0 (pa_n (pv 5) (pa_n (pv 4) pa_nil)))
      case s12 => exact ps_ret (pv 6)
    case fin =>
      -- words
      refine ⟨small_len (by decide +kernel), fun p hp => ?_⟩
      refine ⟨_, rfl, small_len (by decide +kernel), fun q hq => ⟨p, q, words8.map V.str, words5.map V.str, rfl, rfl, same_upd hq _ _ upd_same, upd_same, (by decide +kernel), fun wd hwd => ?_⟩⟩
      have s1 := ((same_upd (o := .lst (words8.map V.str)) hp).trans (same_upd (o := .lst (words5.map V.str)) hq)).trans (same_upd (o := .lst (words8.map V.str ++ words5.map V.str)) hwd)
      have W1 : upd (upd (upd H p (.lst (words8.map V.str))) q (.lst (words5.map V.str))) wd (.lst (words8.map V.str ++ words5.map V.str)) wd = some (.lst (words13.map V.str)) := by
        rw [upd_same, words13, List.map_append]
      have F1 := F0.same s1
      have A1 := s1 _ _ A0
      have B1 : But d H _ := But.of s1
      generalize upd (upd (upd H p (.lst (words8.map V.str))) q (.lst (words5.map V.str))) wd (.lst (words8.map V.str ++ words5.map V.str)) = H1 at W1 F1 A1 B1 ⊢
      -- way, long, number
      refine ⟨_, rfl, d, l, ns, n, _, rfl, F1, by omega, by decide, by decide, fun way n2 H2 _ _ hn2 F2 B2 => ?_⟩
      obtain ⟨z1, hd1⟩ := F1.dc
      have A2 := B2.lst hd1 A1
      have W2 := B2.lst hd1 W1
      have B2' := B1.trans B2
      refine ⟨_, rfl, d, l, ns, n2, _, rfl, F2, by omega, by decide, by decide, fun lg n3 H3 lg0 lg1 hn3 F3 B3 => ?_⟩
      obtain ⟨z2, hd2⟩ := F2.dc
      have A3 := B3.lst hd2 A2
      have W3 := B3.lst hd2 W2
      have B3' := B2'.trans B3
      refine ⟨_, _, rfl, rfl, ?_⟩
      refine ⟨_, rfl, d, l, ns, n3, _, rfl, F3, by omega, by decide, by decide, fun r4 n4 H4 r40 r41 hn4 F4 B4 => ?_⟩
      obtain ⟨z3, hd3⟩ := F3.dc
      have A4 := B4.lst hd3 A3
      have W4 := B4.lst hd3 W3
      have B4' := B3'.trans B4
      refine ⟨_, _, rfl, rfl, .inr ⟨by decide, by decide⟩, ?_⟩
      refine ⟨_, rfl, d, l, ns, n4, _, rfl, F4, by omega, by decide, by decide, fun r5 n5 H5 r50 r51 hn5 F5 B5 => ?_⟩
      obtain ⟨z4, hd4⟩ := F4.dc
      have A5 := B5.lst hd4 A4
      have W5 := B5.lst hd4 W4
      have B5' := B4'.trans B5
      refine ⟨_, _, rfl, rfl, ?_⟩
      have hx0 : 0 ≤ r4 * 456976 + r5 := by omega
      -- name = spelled(number, long)
      refine ⟨_, rfl, _, rfl, r4 * 456976 + r5, 1 + lg, rfl, by omega, by omega, fun t5 ht5 => ?_⟩
      obtain ⟨⟨hl5, hw5⟩, hf5⟩ := ht5
      have hm0 : 1 ≤ 1 + lg := by omega
      have hm1 : 1 + lg ≤ 8 := by omega
      -- if way == 0
      refine ⟨Mid d l a wd ns n 5 ts H way (1 + lg) (r4 * 456976 + r5), ?_, ?_⟩
      · refine ⟨_, rfl, rfl, _, rfl, ite2 (fun _ => ?_) (fun _ => ?_)⟩
        · refine ⟨_, rfl, _, rfl, d, l, ns, n5, _, rfl, F5, by omega, by decide, by decide, fun r6 n6 H6 r60 r61 hn6 F6 B6 => ?_⟩
          obtain ⟨z5, hd5⟩ := F5.dc
          have A6 := B6.lst hd5 A5
          have W6 := B6.lst hd5 W5
          obtain ⟨v6, hv6, hat6⟩ := at_in (xs := words13.map V.str) (i := r6) r60 (Int.lt_of_lt_of_le r61 (by decide +kernel))
          obtain ⟨t6, ht6, rfl⟩ := List.mem_map.mp hv6
          have h6 := words13_ok t6 ht6
          obtain ⟨c6, hc6⟩ := first_of (t := t5) (by omega)
          refine ⟨wd, words13.map V.str, r6, .str t6, rfl, rfl, SqL.of W6, hat6, ?_⟩
          refine ⟨_, rfl, t5, 0, c6, rfl, rfl, len1000 (by omega), hc6, ?_⟩
          refine ⟨t6, ⟨#[c6]⟩, rfl, rfl, (by show t6.length + 1 ≤ sizeLine; omega), ?_⟩
          exact ⟨_, n6, none, none, rfl, ⟨⟨by rw [app_len]; show 1 ≤ t6.length + 1; omega, by rw [app_len]; show t6.length + 1 ≤ 8; omega⟩, low_app h6.2 (low_one (low_at hw5 hc6))⟩, by omega, F6, A6, W6, B5'.trans B6⟩
        · exact ⟨t5, n5, none, none, rfl, ⟨⟨by omega, by omega⟩, hw5⟩, by omega, F5, A5, W5, B5'⟩
      generalize r4 * 456976 + r5 = x at hx0 ⊢
      generalize 1 + lg = m at hm0 hm1 ⊢
      rintro σ6 H6 ⟨t6, n6, o67, o68, rfl, ht6, hn6, F6, A6, W6, B6⟩
      obtain ⟨z6, hd6⟩ := F6.dc
      -- if way == 3
      refine ⟨Mid d l a wd ns n 6 ts H way m x, ?_, ?_⟩
      · refine ⟨_, rfl, rfl, _, rfl, ite2 (fun _ => ?_) (fun _ => ?_)⟩
        · refine ⟨small_len (by decide +kernel), fun e he => ?_⟩
          have se := same_upd (o := .lst (short12.map V.str)) he
          refine ⟨_, rfl, d, l, ns, n6, _, rfl, F6.same se, by omega, by decide, by decide, fun r7 n7 H7 r70 r71 hn7 F7 B7 => ?_⟩
          have E7 : H7 e = some (.lst (short12.map V.str)) := B7.lst (se _ _ hd6) upd_same
          have A7 := B7.lst (se _ _ hd6) (se _ _ A6)
          have W7 := B7.lst (se _ _ hd6) (se _ _ W6)
          obtain ⟨v7, hv7, hat7⟩ := at_in (xs := short12.map V.str) (i := r7) r70 (Int.lt_of_lt_of_le r71 (by decide +kernel))
          obtain ⟨t7, ht7, rfl⟩ := List.mem_map.mp hv7
          have h7 := short12_ok t7 ht7
          refine ⟨e, short12.map V.str, r7, .str t7, rfl, rfl, SqL.of E7, hat7, ?_⟩
          exact ⟨_, n7, o67, o68, rfl, ⟨⟨by omega, by omega⟩, h7.2⟩, by omega, F7, A7, W7, (B6.trans (But.of se)).trans B7⟩
        · exact ⟨t6, n6, o67, o68, rfl, ht6, by omega, F6, A6, W6, B6⟩
      rintro σ7 H7 ⟨t7, n7, o77, o78, rfl, ht7, hn7, F7, A7, W7, B7⟩
      obtain ⟨z7, hd7⟩ := F7.dc
      -- if way == 1 and taken != []
      refine ⟨Mid d l a wd ns n 7 ts H way m x, ?_, ?_⟩
      · refine ⟨_, rfl, rfl, _, rfl, ite2 (fun _ => ?_) (fun _ => iteF ⟨t7, n7, o77, o78, rfl, ht7, by omega, F7, A7, W7, B7⟩)⟩
        refine ⟨_, rfl, Nat.zero_le _, fun e he => ⟨a, e, ts.map V.str, [], rfl, rfl, SqL.of (same_upd he _ _ A7), SqL.of upd_same, strs_flat ts, rfl, _, rfl, ?_⟩⟩
        have se := same_upd (o := .lst []) he
        have F7' := F7.same se
        have A7' := se _ _ A7
        have W7' := se _ _ W7
        have B7' := B7.trans (But.of (d := d) se)
        obtain ⟨z7', hd7'⟩ := F7'.dc
        generalize upd H7 e (.lst []) = H7e at F7' A7' W7' B7' hd7' ⊢
        refine ite2 (fun hne => ?_) (fun _ => ⟨t7, n7, o77, o78, rfl, ht7, by omega, F7', A7', W7', B7'⟩)
        have hpos : 0 < (ts.map V.str).length := by
          cases ts with
          | nil => exact absurd hne (by decide)
          | cons _ _ => exact Nat.succ_pos _
        have hfew : (ts.map V.str).length ≤ 40 := by rw [List.length_map]; exact hts
        refine ⟨_, rfl, _, rfl, _, rfl, a, ts.map V.str, rfl, .inl (SqL.of A7'), d, l, ns, n7, _, rfl, F7', by omega, (by show (0 : Int) < ((ts.map V.str).length : Int); omega), (by show ((ts.map V.str).length : Int) < 18446744073709551616; omega), fun r8 n8 H8 r80 r81 hn8 F8 B8 => ?_⟩
        have A8 := B8.lst hd7' A7'
        have W8 := B8.lst hd7' W7'
        obtain ⟨v8, hv8, hat8⟩ := at_in (xs := ts.map V.str) (i := r8) r80 r81
        obtain ⟨t8, ht8, rfl⟩ := List.mem_map.mp hv8
        have h8 := hall t8 ht8
        refine ⟨a, ts.map V.str, r8, .str t8, rfl, rfl, SqL.of A8, hat8, ?_⟩
        refine ⟨_, rfl, t8, t7, rfl, rfl, (by omega), ?_⟩
        have hlen : (t8 ++ t7).length = t8.length + t7.length := app_len _ _
        refine ⟨_, rfl, _, _, rfl, rfl, (by show (0 : Int) < 8; decide), _, _, rfl, rfl, _, rfl, _, rfl, len1000 (by omega), ?_⟩
        have hj : 1 ≤ 1 + x % 8 := by omega
        have hj2 : 1 + x % 8 ≤ 8 := by omega
        have q1 := cut_pos (x := t8 ++ t7) (j := 1 + x % 8) (by omega) hj
        have q2 := cut_le (x := t8 ++ t7) (j := 1 + x % 8) (by omega)
        exact ⟨_, n8, o77, o78, rfl, ⟨⟨q1, by omega⟩, low_slice (low_app h8.2 ht7.2)⟩, by omega, F8, A8, W8, B7'.trans B8⟩
      rintro σ8 H8 ⟨t8, n8, o87, o88, rfl, ht8, hn8, F8, A8, W8, B8⟩
      obtain ⟨z8, hd8⟩ := F8.dc
      -- if way == 2 and taken != []
      refine ⟨Mid d l a wd ns n 8 ts H way m x, ?_, ?_⟩
      · refine ⟨_, rfl, rfl, _, rfl, ite2 (fun _ => ?_) (fun _ => iteF ⟨t8, n8, o87, o88, rfl, ht8, by omega, F8, A8, W8, B8⟩)⟩
        refine ⟨_, rfl, Nat.zero_le _, fun e he => ⟨a, e, ts.map V.str, [], rfl, rfl, SqL.of (same_upd he _ _ A8), SqL.of upd_same, strs_flat ts, rfl, _, rfl, ?_⟩⟩
        have se := same_upd (o := .lst []) he
        have F8' := F8.same se
        have A8' := se _ _ A8
        have W8' := se _ _ W8
        have B8' := B8.trans (But.of (d := d) se)
        obtain ⟨z8', hd8'⟩ := F8'.dc
        generalize upd H8 e (.lst []) = H8e at F8' A8' W8' B8' hd8' ⊢
        refine ite2 (fun hne => ?_) (fun _ => ⟨t8, n8, o87, o88, rfl, ht8, by omega, F8', A8', W8', B8'⟩)
        have hpos : 0 < (ts.map V.str).length := by
          cases ts with
          | nil => exact absurd hne (by decide)
          | cons _ _ => exact Nat.succ_pos _
        have hfew : (ts.map V.str).length ≤ 40 := by rw [List.length_map]; exact hts
        refine ⟨_, rfl, _, rfl, _, rfl, a, ts.map V.str, rfl, .inl (SqL.of A8'), d, l, ns, n8, _, rfl, F8', by omega, (by show (0 : Int) < ((ts.map V.str).length : Int); omega), (by show ((ts.map V.str).length : Int) < 18446744073709551616; omega), fun r9 n9 H9 r90 r91 hn9 F9 B9 => ?_⟩
        have A9 := B9.lst hd8' A8'
        have W9 := B9.lst hd8' W8'
        obtain ⟨v9, hv9, hat9⟩ := at_in (xs := ts.map V.str) (i := r9) r90 r91
        obtain ⟨t9, ht9, rfl⟩ := List.mem_map.mp hv9
        have h9 := hall t9 ht9
        refine ⟨a, ts.map V.str, r9, .str t9, rfl, rfl, SqL.of A9, hat9, ?_⟩
        refine ⟨_, rfl, _, rfl, t9, rfl, len1000 (by omega), _, _, rfl, rfl, (by show (0 : Int) < (t9.length : Int); omega), ?_⟩
        have at0 : 0 ≤ x % (t9.length : Int) := Int.emod_nonneg _ (by omega)
        have at1 : x % (t9.length : Int) < t9.length := Int.emod_lt_of_pos _ (by omega)
        obtain ⟨c9, hc9⟩ := first_of (t := t8) ht8.1.1
        have q1 := cut_le (x := t9) (j := x % (t9.length : Int)) at0
        have q2 := cut_from (x := t9) (i := x % (t9.length : Int) + 1) (by omega) (by omega)
        refine ⟨_, rfl, _, rfl, _, rfl, t9, rfl, len1000 (by omega), _, rfl, t8, 0, c9, rfl, rfl, len1000 (by omega), hc9, _, ⟨#[c9]⟩, rfl, rfl, (by show _ + 1 ≤ sizeLine; omega), ?_⟩
        have hlen : (Txt.slice t9 none (some (x % (t9.length : Int))) ++ (⟨#[c9]⟩ : Str)).length = (Txt.slice t9 none (some (x % (t9.length : Int)))).length + 1 := app_len _ _
        refine ⟨_, rfl, _, rfl, _, _, rfl, rfl, _, rfl, t9, rfl, len1000 (by omega), _, _, rfl, rfl, (by omega), ?_⟩
        exact ⟨_, n9, _, _, rfl, ⟨⟨by rw [app_len]; omega, by rw [app_len]; omega⟩, low_app (low_app (low_slice h9.2) (low_one (low_at ht8.2 hc9))) (low_slice h9.2)⟩, by omega, F9, A9, W9, B8'.trans B9⟩
      rintro σ9 H9 ⟨t9, n9, o97, o98, rfl, ht9, hn9, F9, A9, W9, B9⟩
      -- the search
      have hex : (ts ++ words13).length ≤ 53 := by
        rw [List.length_append]
        have : words13.length = 13 := by decide +kernel
        omega
      refine while_by (fun σ H' => ∃ (i : Nat) (R : List Str) (t : Str), σ = [some (.ref d), some (.ref a), some (.ref wd), some (.int way), some (.int (mi m i)), some (.int (x + i)), some (.str t), o97, o98] ∧ Nm t ∧ Left x m (ts ++ words13) R i ∧ (0 < i → KeyAt x m t i) ∧ H' = H9)
        (fun (σ : St) (_ : Hp) => match σ[5]? with | some (some (V.int z)) => (x + 100 - z).toNat | _ => 0) ⟨0, _, t9, ?_, ht9, Left.zero hex, fun z => absurd z (Nat.lt_irrefl _), rfl⟩ ?_ ?_
      · have e1 : mi m 0 = m := by unfold mi; omega
        have e2 : x + ((0 : Nat) : Int) = x := by omega
        rw [e1, e2]
      · rintro σ H' ⟨i, R, t, rfl, ht, hL, hK, rfl⟩
        have hi : i ≤ 54 := by have := hL.few; omega
        have e1 : mi m i % 8 + 1 = mi m (i + 1) := by unfold mi; omega
        have e2 : x + (i : Int) + 1 = x + ((i + 1 : Nat) : Int) := by omega
        have e3 : 1 ≤ mi m (i + 1) ∧ mi m (i + 1) ≤ 8 := by unfold mi; omega
        have body : t ∈ ts ++ words13 → ∀ t' : Str, Spelled t' (x + ((i + 1 : Nat) : Int)) (mi m (i + 1)) →
            ∃ R', Nm t' ∧ Left x m (ts ++ words13) R' (i + 1) ∧ (0 < i + 1 → KeyAt x m t' (i + 1)) := by
          intro hin t' ht'
          have hk : KeyAt x m t' (i + 1) := ⟨ht'.1.1, ht'.2 (by omega)⟩
          have hl := ht'.1.1
          by_cases hz : i = 0
          · subst hz
            exact ⟨_, ⟨⟨by omega, by omega⟩, ht'.1.2⟩, Left.one (R := R) hex, fun _ => hk⟩
          · exact ⟨_, ⟨⟨by omega, by omega⟩, ht'.1.2⟩, hL.next hin (hK (by omega)), fun _ => hk⟩
        refine ⟨_, rfl, _, rfl, a, ts.map V.str, rfl, .inl (SqL.of A9), rfl, strs_flat ts, _, rfl, ite2 (fun g => iteT ?_) (fun g => ?_)⟩
        · refine ⟨_, rfl, _, _, rfl, rfl, _, rfl, _, _, rfl, rfl, (by show (0 : Int) < 8; decide), _, _, rfl, rfl, _, rfl, _, rfl, _, _, rfl, (by rw [e1]; omega), (by rw [e1]; omega), fun t' ht' => ?_⟩
          rw [e1, e2] at ht'
          obtain ⟨R', q1, q2, q3⟩ := body (List.mem_append.mpr (.inl ((inV_strs t ts).mp g))) t' ht'
          refine ⟨⟨i + 1, R', t', ?_, q1, q2, q3, rfl⟩, ?_⟩
          · show [some (.ref d), some (.ref a), some (.ref wd), some (.int way), some (.int (mi m i % 8 + 1)), some (.int (x + i + 1)), some (.str t'), o97, o98] = _
            rw [e1, e2]
          · show (x + 100 - (x + i + 1)).toNat < (x + 100 - (x + i)).toNat
            omega
        · refine ⟨_, rfl, _, rfl, wd, words13.map V.str, rfl, .inl (SqL.of W9), rfl, strs_flat words13, _, rfl, ite2 (fun g2 => ?_) (fun g2 => ?_)⟩
          · refine ⟨_, rfl, _, _, rfl, rfl, _, rfl, _, _, rfl, rfl, (by show (0 : Int) < 8; decide), _, _, rfl, rfl, _, rfl, _, rfl, _, _, rfl, (by rw [e1]; omega), (by rw [e1]; omega), fun t' ht' => ?_⟩
            rw [e1, e2] at ht'
            obtain ⟨R', q1, q2, q3⟩ := body (List.mem_append.mpr (.inr ((inV_strs t words13).mp g2))) t' ht'
            refine ⟨⟨i + 1, R', t', ?_, q1, q2, q3, rfl⟩, ?_⟩
            · show [some (.ref d), some (.ref a), some (.ref wd), some (.int way), some (.int (mi m i % 8 + 1)), some (.int (x + i + 1)), some (.str t'), o97, o98] = _
              rw [e1, e2]
            · show (x + 100 - (x + i + 1)).toNat < (x + 100 - (x + i)).toNat
              omega
          · exact ⟨_, rfl, k t n9 _ ht (fun z => g ((inV_strs t ts).mpr z)) (fun z => g2 ((inV_strs t words13).mpr z)) hn9 F9 B9⟩
      · rintro σ H' Q1 Q2 hq ⟨v, f1, w1, f2, p, xs, f3, f4, f5, f6, c, f7, q⟩
        refine ⟨v, f1, w1, f2, p, xs, f3, f4, f5, f6, c, f7, ?_⟩
        cases c with
        | true => exact iteT (hq _ _ (by simpa using q))
        | false =>
          refine iteF ?_
          simp only [Bool.false_eq_true, if_false] at q
          obtain ⟨v, f1, w1, f2, p, xs, f3, f4, f5, f6, c, f7, q⟩ := q
          exact ⟨v, f1, w1, f2, p, xs, f3, f4, f5, f6, c, f7, hq _ _ q⟩
end
end K54

set_option Elab.async false
set_option linter.all false
set_option maxRecDepth 100000
set_option maxHeartbeats 4000000
namespace K54
open PySem L2
def spNames : Sp := fun vs H Q _ => ∃ (d l : Addr) (ns : List Int) (n : Nat) (m : Int), vs = [.ref d, .int m] ∧ Feed H d l ns n ∧ n ≤ 800000000000 ∧ 0 ≤ m ∧ m ≤ 40 ∧
  ∀ (nm : Addr) (ts : List Str) n' H', H nm = none → H' nm = some (.lst (ts.map V.str)) → (ts.length : Int) = m → (∀ t ∈ ts, Nm t) → n' ≤ n + 8 * m.toNat → Feed H' d l ns n' → But d H H' → Q (.ref nm) H'
section
variable {P : Program} {w : World} {K : PySem.W.Frag} {mg : Str → Option Value} {base : Heap}
theorem scNames : FnScope ["_law_feed_here", "_law_many", "_law_names_here", "_law_k"] ["_law_feed_here", "_law_many"] (defScope sNames) := ⟨rfl, rfl, rfl, by decide +kernel, rfl, by decide +kernel, by decide +kernel⟩
theorem ok_names {f fN fD fS : Addr} {fd dN dD dS : FuncData} (F : Fun K "_law_names" "_law_names" sNames f fd) (U : Helpers K mg fD fS dD dS)
    (FN : Fun K "_law_name" "_law_name" sLawName fN dN) (bN : Binds K dN ["_law_feed_here", "_law_taken"] []) (mN : mg "_law_name" = some (.ref fN)) : FnOk P w K mg base CX0 3 f fd ["_law_feed_here", "_law_many"] spNames := by
  have GN : FnOk P w K mg base CX0 2 fN dN ["_law_feed_here", "_law_taken"] spLawName := ok_lawname FN U
  refine F.ok scNames (fun vs H Q E h => ?_) (fun cdv A outer s H vs Q E hr h => ?_)
  · obtain ⟨d, l, ns, n, m, rfl, _⟩ := h
    rfl
  · obtain ⟨d, l, ns, n, m, rfl, F0, hn, hm0, hm1, k⟩ := h
    have hsz : sizeLine = 16777216 := sizeLine_eq
    refine ⟨_, pss_cons (ps_set (i := 2) scNames.nd rfl (Or.inl rfl) (pe_lst pa_nil)) <|
      pss_cons (ps_for PassesOwn.never rfl (pi_range1 (by rfl) U.T.range (pa_n (pv 1) pa_nil)) (pg_name (i := 3) scNames.nd rfl (Or.inl rfl))
        (pss_one (ps_expr (pe_bm PySem.F.plainAttrs_list PySem.F.slot_list_append PySem.F.type_list_append mt_append (pv 2) (pa_c (pe_call GN hr (by rfl) mN FN.kp bN .nil pass0 (pa_n (pv 0) (pa_n (pv 2) pa_nil))) pa_nil))))) <|
      pss_one (ps_ret (pv 2)), ?_⟩
    refine ⟨Nat.zero_le _, fun nm hnm => ?_⟩
    refine ⟨_, rfl, m, rfl, by omega, by omega, for_range (n := m.toNat) (fun i σ H' => ∃ (ts : List Str) (n' : Nat) (o : Option V), σ = [some (.ref d), some (.int m), some (.ref nm), o] ∧ ts.length = i ∧ (∀ t ∈ ts, Nm t) ∧ n' ≤ n + 8 * i ∧ Feed H' d l ns n' ∧ H' nm = some (.lst (ts.map V.str)) ∧ But d H H')
      ⟨[], n, none, rfl, rfl, (fun t ht => absurd ht List.not_mem_nil), Nat.le_refl _, F0.same (same_upd hnm), upd_same, But.of (same_upd hnm)⟩ ?_ ?_⟩
    · rintro i σ H' hi ⟨ts, n', o, rfl, hl, hall, hn', F', L', B'⟩
      refine ⟨_, rfl, .inl ⟨rfl, _, SqL.of L'⟩, _, rfl, _, rfl, d, l, nm, ns, n', ts, rfl, F', by omega, L', by omega, hall, fun t n2 H2 ht _ _ hn2 F2 B2 => ?_⟩
      obtain ⟨z, hd⟩ := F'.dc
      have L2 := B2.lst hd L'
      refine ⟨nm, _, _, rfl, rfl, L2, (by rw [List.length_map]; omega), ?_⟩
      have hne : nm ≠ d := (ne_of L2 (F2.dc.choose_spec) (by intro q; cases q))
      have hne2 : nm ≠ l := fun e => by
        have h0 : H l = some _ := F0.ls
        rw [← e, hnm] at h0
        cases h0
      refine ⟨ts ++ [t], n2, _, rfl, by rw [List.length_append, hl]; rfl, ?_, by omega, ?_, ?_, ?_⟩
      · intro u hu
        rcases List.mem_append.mp hu with z | z
        · exact hall u z
        · rw [List.mem_singleton.mp z]; exact ht
      · obtain ⟨⟨z2, hd2⟩, hls, hz⟩ := F2
        exact ⟨⟨z2, by rw [upd_ne (Ne.symm hne)]; exact hd2⟩, by rw [upd_ne (Ne.symm hne2)]; exact hls, hz⟩
      · rw [upd_same, List.map_append]; rfl
      · intro b u e hb
        rw [upd_ne (ne_of_none e hnm)]
        exact B2 b u (B' b u e hb) hb
    · rintro σ H' ⟨ts, n', o, rfl, hl, hall, hn', F', L', B'⟩
      exact ⟨_, rfl, k nm ts n' H' hnm L' (by omega) hall hn' F' B'⟩
end
theorem But.kp {d l : Addr} {ns : List Int} {n : Nat} {H H' : Hp} (b : But d H H') (F : Feed H d l ns n) : Kp H H' := by
  obtain ⟨⟨z, hd⟩, _, _⟩ := F
  intro a o h hk
  exact b a o h (fun q => by subst q; rw [hd] at h; cases h; exact hk _ rfl)
theorem Feed.lst {d l a : Addr} {ns : List Int} {n : Nat} {H H' : Hp} {xs : List V} (F : Feed H d l ns n) (b : But d H H') (h : H a = some (.lst xs)) : H' a = some (.lst xs) := by
  obtain ⟨⟨z, hd⟩, _, _⟩ := F
  exact b.lst hd h
def spValue : Sp := fun vs H Q _ => ∃ (d l : Addr) (ns : List Int) (n : Nat), vs = [.ref d] ∧ Feed H d l ns n ∧ n ≤ 900000000000 ∧
  ∀ (i : Int) n' H', 0 ≤ i → i ≤ 1000000000 → n' ≤ n + 3 → Feed H' d l ns n' → But d H H' → Q (.int i) H'
section
variable {P : Program} {w : World} {K : PySem.W.Frag} {mg : Str → Option Value} {base : Heap}
theorem scLawValue : FnScope ["_law_feed_here", "_law_way"] ["_law_feed_here"] (defScope sLawValue) := ⟨rfl, rfl, rfl, by decide +kernel, rfl, by decide +kernel, by decide +kernel⟩
theorem ok_value {f fD fS : Addr} {fd dD dS : FuncData} (F : Fun K "_law_value" "_law_value" sLawValue f fd) (U : Helpers K mg fD fS dD dS) : FnOk P w K mg base CX0 2 f fd ["_law_feed_here"] spValue := by
  have GD : FnOk P w K mg base CX0 1 fD dD ["_law_feed_here", "_law_many"] spDraw := ok_draw U.D U.T
  refine F.ok scLawValue (fun vs H Q E h => ?_) (fun cdv A outer s H vs Q E hr h => ?_)
  · obtain ⟨d, l, ns, n, rfl, _⟩ := h
    rfl
  · obtain ⟨d, l, ns, n, rfl, F0, hn, k⟩ := h
    have hr1 : Room 1 _ := hr.mono (by decide)
    refine' ⟨?tt, ?body, ?fin⟩
    case body =>
      refine' pss_cons ?s1 (pss_cons ?s2 (pss_cons ?s3 (pss_one ?s4)))
      case s1 => exact ps_set (i := 1) scLawValue.nd rfl (Or.inl rfl) (pe_call GD hr1 (by rfl) U.mD U.D.kp U.bD .nil pass0 (pa_n (pv 0) (pa_k pe_int pa_nil)))
      case s2 => exact ps_if (pt_cmpR op_eq (pv 1) pe_int (nomark _)) (pss_one (ps_ret (pe_op op_sub pe_int (pe_call GD hr1 (by rfl) U.mD U.D.kp U.bD .nil pass0 (pa_n (pv 0) (pa_k pe_int pa_nil)))))) pss_nil
      case s3 => exact ps_if (pt_cmpR op_eq (pv 1) pe_int (nomark _)) (pss_one (ps_ret (pe_op op_add (pe_op op_mul (pe_call GD hr1 (by rfl) U.mD U.D.kp U.bD .nil pass0 (pa_n (pv 0) (pa_k pe_int pa_nil))) pe_int) (pe_call GD hr1 (by rfl) U.mD U.D.kp U.bD .nil pass0 (pa_n (pv 0) (pa_k pe_int pa_nil)))))) pss_nil
      case s4 => exact ps_ret (pe_call GD hr1 (by rfl) U.mD U.D.kp U.bD .nil pass0 (pa_n (pv 0) (pa_cons (pe_op op_sub (pe_op op_mul pe_int (pv 1)) pe_int) pa_nil)))
    case fin =>
      refine ⟨_, rfl, d, l, ns, n, _, rfl, F0, by omega, by decide, by decide, fun way n1 H1 w0 w1 hn1 F1 b1 => ?_⟩
      refine ⟨_, rfl, rfl, _, rfl, ite2 (fun g => ?_) (fun g => ?_)⟩
      · refine ⟨_, rfl, d, l, ns, n1, _, rfl, F1, by omega, by decide, by decide, fun i n2 H2 i0 i1 hn2 F2 b2 => ⟨_, _, rfl, rfl, ?_⟩⟩
        exact k _ n2 H2 (by omega) (by omega) (by omega) F2 (b1.trans b2)
      · refine ⟨_, rfl, rfl, _, rfl, ite2 (fun g2 => ?_) (fun g2 => ?_)⟩
        · refine ⟨_, rfl, d, l, ns, n1, _, rfl, F1, by omega, by decide, by decide, fun i n2 H2 i0 i1 hn2 F2 b2 => ⟨_, _, rfl, rfl, .inr ⟨by decide, by decide⟩, ?_⟩⟩
          refine ⟨_, rfl, d, l, ns, n2, _, rfl, F2, by omega, by decide, by decide, fun j n3 H3 j0 j1 hn3 F3 b3 => ⟨_, _, rfl, rfl, ?_⟩⟩
          exact k _ n3 H3 (by omega) (by omega) (by omega) F3 ((b1.trans b2).trans b3)
        · have g' : way ≠ 0 := fun z => g (by rw [z]; decide)
          have g2' : way ≠ 1 := fun z => g2 (by rw [z]; decide)
          refine ⟨_, rfl, _, rfl, _, _, rfl, rfl, .inl ⟨by decide, by decide⟩, _, _, rfl, rfl, d, l, ns, n1, 3 * way - 3, rfl, F1, by omega, by omega, by omega, fun i n2 H2 i0 i1 hn2 F2 b2 => ?_⟩
          exact k i n2 H2 i0 (by omega) (by omega) F2 (b1.trans b2)
end
end K54

set_option Elab.async false
set_option linter.all false
set_option maxRecDepth 100000
set_option maxHeartbeats 4000000
namespace K54
open PySem L2
structure TxtT (mg : Str → Option Value) : Prop where
  isi : mg "isinstance" = none
  int : mg "int" = none
  bl : mg "bool" = none
  tup : mg "tuple" = none
  len : mg "len" = none
def notTup (t : Th) : Bool := !isTup t
def leadL (ts : List Th) : List Th := ts.filter notTup
/-- what can be shown: a short text, a small number -/
def lfV : V → Bool
  | .str x => decide (x.length ≤ 16) && x.cps.toList.all fun c => decide (c < 16 ^ 8)
  | .int i => decide (i.natAbs < 10 ^ 12)
  | _ => true
theorem nm_lf {t : Str} (h : Nm t) : lfV (.str t) = true := by
  show (decide (t.length ≤ 16) && t.cps.toList.all fun c => decide (c < 16 ^ 8)) = true
  rw [Bool.and_eq_true]
  refine ⟨decide_eq_true (by have := h.1.2; omega), List.all_eq_true.mpr fun c hc => decide_eq_true ?_⟩
  have := h.2 c hc
  omega
/-- a word with its own field and as many parts -/
inductive Sh (S : List Str) : Str → List V → Nat → Prop where
  | num {i : Int} : 0 ≤ i → i ≤ 1000000000 → Sh S "num" [.int i] 0
  | name {x : Str} : Nm x → Sh S "name" [.str x] 0
  | take : Sh S "take" [] 0
  | op {c : Nat} : c ∈ ("+-*/<=" : Str).cps.toList → Sh S "op" [.str ⟨#[c]⟩] 2
  | pick : Sh S "pick" [] 3
  | lt {x : Str} : Nm x → Sh S "let" [.str x] 2
  | set {x : Str} : Nm x → Sh S "set" [.str x] 1
  | say : Sh S "say" [] 1
  | seq {n : Nat} : 1 ≤ n → n ≤ 6 → Sh S "do" [] n
  | again {i : Int} : 0 ≤ i → i ≤ 5 → Sh S "again" [.int i] 1
  | call {x : Str} {n : Nat} : x ∈ S → Nm x → n ≤ 6 → Sh S "call" [.str x] n
theorem Sh.mono {S S' : List Str} {w : Str} {hd : List V} {n : Nat} (h : Sh S w hd n) (hs : ∀ x ∈ S, x ∈ S') : Sh S' w hd n := by
  cases h with
  | num a b => exact .num a b
  | name a => exact .name a
  | take => exact .take
  | op a => exact .op a
  | pick => exact .pick
  | lt a => exact .lt a
  | set a => exact .set a
  | say => exact .say
  | seq a b => exact .seq a b
  | again a b => exact .again a b
  | call a b c => exact .call (hs _ a) b c
theorem Sh.turn {S : List Str} {w x y : Str} {n : Nat} (h : Sh S w [.str x] n) (hw : w = "name" ∨ w = "set") (hy : Nm y) : Sh S w [.str y] n := by
  cases h with
  | name a => exact .name hy
  | set a => exact .set hy
  | op a => rcases hw with q | q <;> exact absurd q (by decide +kernel)
  | lt a => rcases hw with q | q <;> exact absurd q (by decide +kernel)
  | call a b c => rcases hw with q | q <;> exact absurd q (by decide +kernel)
/-- a word's own field; a called name stands in S -/
structure HdE (S : List Str) (w : Str) (hd : List V) (n : Nat) : Prop where
  st : w = "set" ∨ w = "name" → ∃ x : Str, hd = [.str x]
  ca : w = "call" → ∃ x : Str, hd = [.str x] ∧ x ∈ S
  ag : w = "again" → ∃ i : Int, hd = [.int i] ∧ 0 ≤ i ∧ i ≤ 5
  lv : ∀ v ∈ hd, lfV v = true
  lw : lfV (.str w) = true
  sh : Sh S w hd n
/-- an expression: a word, at most one plain field, then the parts -/
def nd (w : Str) (hd : List V) (ks : List Th) : Th := .tup (.at (.str w) :: (hd.map Th.at ++ ks))
def PfT (S : List Str) : Nat → Th → Prop
  | 0, _ => False
  | n + 1, t => ∃ (w : Str) (hd : List V) (ks : List Th), t = nd w hd ks ∧ hd.length ≤ 1 ∧ (∀ v ∈ hd, plT (.at v) = true) ∧ (w = "let" → (∃ x : Str, hd = [.str x]) ∧ ks.length = 2) ∧ HdE S w hd ks.length ∧ ks.length ≤ 6 ∧ ∀ k ∈ ks, PfT S n k
theorem HdE.mono {S S' : List Str} {w : Str} {hd : List V} {n : Nat} (h : HdE S w hd n) (hs : ∀ x ∈ S, x ∈ S') : HdE S' w hd n := ⟨h.st, fun z => let ⟨x, a, b⟩ := h.ca z; ⟨x, a, hs x b⟩, h.ag, h.lv, h.lw, h.sh.mono hs⟩
theorem PfT.mono {S S' : List Str} (hs : ∀ x ∈ S, x ∈ S') : ∀ (n : Nat) {t : Th}, PfT S n t → PfT S' n t := by
  intro n
  induction n with
  | zero => intro t h; exact h.elim
  | succ n ih =>
    intro t h
    obtain ⟨w, hd, ks, e, h1, h2, h3, h4, h5, h6⟩ := h
    exact ⟨w, hd, ks, e, h1, h2, h3, h4.mono hs, h5, fun k hk => ih (h6 k hk)⟩
section
variable {S : List Str}
theorem PfT.up : ∀ (n : Nat) {t : Th}, (PfT S) n t → (PfT S) (n + 1) t := by
  intro n
  induction n with
  | zero => intro t h; exact h.elim
  | succ n ih =>
    intro t h
    obtain ⟨w, hd, ks, e, h1, h2, h3, h4, h5, h6⟩ := h
    exact ⟨w, hd, ks, e, h1, h2, h3, h4, h5, fun k hk => ih (h6 k hk)⟩
theorem PfT.le {n m : Nat} {t : Th} (h : (PfT S) n t) (hm : n ≤ m) : (PfT S) m t := by
  induction hm with
  | refl => exact h
  | step _ ih => exact PfT.up _ ih
theorem PfT.isTup {n : Nat} {t : Th} (h : (PfT S) n t) : isTup t = true := by
  cases n with
  | zero => exact h.elim
  | succ n => obtain ⟨w, hd, ks, rfl, _⟩ := h; rfl
theorem ats_kids (hd : List V) : (hd.map Th.at).filter L2.isTup = [] := by
  induction hd with
  | nil => rfl
  | cons v hd ih => rw [List.map_cons, List.filter_cons]; simpa [L2.isTup] using ih
theorem ats_lead (hd : List V) : (hd.map Th.at).filter notTup = hd.map Th.at := by
  induction hd with
  | nil => rfl
  | cons v hd ih => rw [List.map_cons, List.filter_cons, if_pos (by rfl), ih]
theorem kids_all : ∀ {ks : List Th}, (∀ k ∈ ks, L2.isTup k = true) → ks.filter L2.isTup = ks := fun h => List.filter_eq_self.mpr h
theorem lead_none {ks : List Th} (h : ∀ k ∈ ks, L2.isTup k = true) : ks.filter notTup = [] := by
  rw [List.filter_eq_nil_iff]
  intro k hk
  unfold notTup
  rw [h k hk]
  decide
theorem nd_kids {w : Str} {hd : List V} {ks : List Th} (h : ∀ k ∈ ks, L2.isTup k = true) : kidsL (.at (.str w) :: (hd.map Th.at ++ ks)) = ks := by
  unfold kidsL
  rw [List.filter_cons, if_neg (by simp [L2.isTup]), List.filter_append, ats_kids, List.nil_append, kids_all h]
theorem nd_lead {w : Str} {hd : List V} {ks : List Th} (h : ∀ k ∈ ks, L2.isTup k = true) : leadL (.at (.str w) :: (hd.map Th.at ++ ks)) = .at (.str w) :: hd.map Th.at := by
  unfold leadL
  rw [List.filter_cons, if_pos (by rfl), List.filter_append, ats_lead, lead_none h, List.append_nil]
theorem plTs_app : ∀ a b : List Th, plTs (a ++ b) = (plTs a && plTs b) := by
  intro a
  induction a with
  | nil => intro b; rw [List.nil_append, plTs, Bool.true_and]
  | cons x a ih => intro b; rw [List.cons_append, plTs, plTs, ih, Bool.and_assoc]
theorem plTs_all : ∀ {a : List Th}, (∀ x ∈ a, plT x = true) → plTs a = true := by
  intro a
  induction a with
  | nil => intro _; rw [plTs]
  | cons x a ih => intro h; rw [plTs, h x (List.mem_cons_self ..), ih fun y hy => h y (List.mem_cons_of_mem _ hy)]; rfl
theorem PfT.pl : ∀ (n : Nat) {t : Th}, (PfT S) n t → plT t = true := by
  intro n
  induction n with
  | zero => intro t h; exact h.elim
  | succ n ih =>
    intro t h
    obtain ⟨w, hd, ks, rfl, h1, h2, h3, h4, h5, h6⟩ := h
    unfold nd
    rw [plT, plTs, plTs_app, plTs_all (a := hd.map Th.at) fun x hx => ?_, plTs_all (a := ks) fun x hx => ih (h6 x hx), plT]
    · rfl
    · obtain ⟨v, hv, rfl⟩ := List.mem_map.mp hx
      exact h2 v hv
/-! ### flat tells the tree -/
end
def spLawParts : Sp := fun vs H Q _ => ∃ (v : V) (w0 : Str) (ts : List Th), vs = [v] ∧ IsTh H v (.tup (.at (.str w0) :: ts)) ∧ ts.length ≤ 1000000 ∧
  ∀ (p : Addr) (ws : List V) H', Same H H' → H p = none → H' p = some (.lst ws) → IsThs H' ws (kidsL ts) → Q (.ref p) H'
/-- a node put together anew -/
def spWith : Sp := fun vs H Q _ => ∃ (v : V) (la : Addr) (ts ks : List Th) (ws : List V), vs = [v, .ref la] ∧ IsTh H v (.tup ts) ∧ ts.length ≤ 1000 ∧ H la = some (.lst ws) ∧ IsThs H ws ks ∧ ks.length ≤ 1000 ∧
  ∀ (p : Addr) H', Same H H' → IsTh H' (.ref p) (.tup (leadL ts ++ ks)) → Q (.ref p) H'
def spNodes (S : List Str) (N : Nat) : Sp := fun vs H Q _ => ∃ (v : V) (t : Th), vs = [v] ∧ IsTh H v t ∧ (PfT S) N t ∧ ∀ H', Same H H' → Q (.int (cnt t : Nat)) H'
theorem kids_of {hd : List V} {ks : List Th} (h : ∀ k ∈ ks, L2.isTup k = true) : kidsL (hd.map Th.at ++ ks) = ks := by
  unfold kidsL
  rw [List.filter_append, ats_kids, List.nil_append, kids_all h]
theorem cnt_nd {w : Str} {hd : List V} {ks : List Th} (h : ∀ k ∈ ks, L2.isTup k = true) : cnt (nd w hd ks) = 1 + cnts ks := by
  unfold nd
  rw [cnt, cnts_kids, nd_kids h]
theorem cnts_snoc : ∀ (a : List Th) (x : Th), cnts (a ++ [x]) = cnts a + cnt x := by
  intro a
  induction a with
  | nil => intro x; simp [cnts]
  | cons y a ih => intro x; rw [List.cons_append, cnts, cnts, ih]; omega
section
variable {P : Program} {w : World} {K : PySem.W.Frag} {mg : Str → Option Value} {base : Heap}
variable {S : List Str}
theorem scLawParts : FnScope ["_law_e"] ["_law_e"] (defScope sLawParts) := ⟨rfl, rfl, rfl, by decide +kernel, rfl, by decide +kernel, by decide +kernel⟩
theorem ok_lawparts {f : Addr} {fd : FuncData} (F : Fun K "_law_parts" "_law_parts" sLawParts f fd) (T : TxtT mg) (KI : Kits K) : FnOk P w K mg base CX0 1 f fd ["_law_e"] spLawParts := by
  refine F.ok scLawParts (fun vs H Q E h => ?_) (fun cdv A outer s H vs Q E hr h => ?_)
  · obtain ⟨v, w0, ts, rfl, _⟩ := h
    rfl
  · obtain ⟨v, w0, ts, rfl, hv, hz, k⟩ := h
    refine ⟨_, pss_one (ps_ret (pe_comp (N' := ["_law_part"]) (src := [none]) rfl (compScope_of (defScope sLawParts) rfl ["_law_e"] rfl (by decide +kernel)) (pi_tup (pe_slice sl_tupP (pv 0) (po_some pe_int) po_none))
      (fun cl C ex s0 H0 => ⟨pg_name (i := 0) (nd1 _) rfl (Or.inl rfl), pts_one (pt_val (pe_callB (id := "isinstance") (call_isinstK (K := K) rfl) (by rfl) T.isi (by decide +kernel) (pa_n (pv 0) (pa_n (pe_bltn (v := .ty "tuple") (by rfl) T.tup (by decide +kernel) rfl) pa_nil)))), pv 0⟩))), ?_⟩
    obtain ⟨a, vs, rfl, a1, a2⟩ := th_tup hv
    cases a2 with
    | @cons x xs _ _ c1 c2 =>
      refine ⟨_, rfl, _, rfl, a, x :: xs, rfl, a1, fun p H1 s1 hp => ?_⟩
      rw [cut1q] at hp
      have hl := IsThs.len _ c2
      refine ⟨p, rfl, ⟨_, SqT.of hp⟩, comp_tup (K := K) (a := p) (xs := xs) (fun i ys σc H' => ∃ o, σc = [o] ∧ IsThs H ys ((ts.take i).filter isTup) ∧ ys.length ≤ i ∧ H' = H1) ⟨none, rfl, by rw [List.take_zero]; exact .nil, Nat.le_refl _, rfl⟩ (fun i ys σc H' ⟨_, _, _, _, e⟩ => by rw [e]; exact SqT.of hp) ?_ ?_⟩
      · rintro i x ys σc H' hx hi ⟨o, rfl, hys, hyl, rfl⟩
        obtain ⟨t, ht, h1⟩ := ths_get _ c2 hx
        have hnext : (ts.take (i + 1)).filter isTup = (ts.take i).filter isTup ++ (if isTup t = true then [t] else []) := take_nextR _ ht
        refine ⟨by have : sizeLine = 16777216 := sizeLine_eq; omega, ?_⟩
        refine ⟨_, rfl, _, _, _, _, rfl, th_ty (IsTh.kp (Kp.of s1) h1), KI.tup h1, _, rfl, ite2 (fun g => ?_) (fun g => ?_)⟩
        · refine ⟨_, rfl, nx hi ⟨_, rfl, ?_, by rw [List.length_append]; show ys.length + 1 ≤ i + 1; omega, rfl⟩⟩
          rw [hnext, if_pos g]
          exact IsThs.app _ hys (.cons h1 .nil)
        · refine nx hi ⟨_, rfl, ?_, by omega, rfl⟩
          rw [hnext, if_neg g, List.append_nil]
          exact hys
      · rintro ys σc H' ⟨o, rfl, hys, hyl, rfl⟩ q hq
        rw [List.take_of_length_le (by omega)] at hys
        have sA := s1.trans (same_upd (o := .lst ys) hq)
        exact k q ys _ sA (same_none s1 hq) upd_same (IsThs.kp (Kp.of sA) hys)
theorem scWith : FnScope ["_law_e", "_law_inner"] ["_law_e", "_law_inner"] (defScope sWith) := ⟨rfl, rfl, rfl, by decide +kernel, rfl, by decide +kernel, by decide +kernel⟩
theorem ok_with {f : Addr} {fd : FuncData} (F : Fun K "_law_with" "_law_with" sWith f fd) (T : TxtT mg) (KI : Kits K) : FnOk P w K mg base CX0 1 f fd ["_law_e", "_law_inner"] spWith := by
  refine F.ok scWith (fun vs H Q E h => ?_) (fun cdv A outer s H vs Q E hr h => ?_)
  · obtain ⟨v, la, ts, ks, ws, rfl, _⟩ := h
    rfl
  · obtain ⟨v, la, ts, ks, ws, rfl, hv, hz, hla, hws, hkz, k⟩ := h
    have hsz : sizeLine = 16777216 := sizeLine_eq
    refine' ⟨?tt, ?body, ?fin⟩
    case body =>
      refine' pss_one ?s1
      case s1 =>
        refine' ps_ret ?r
        case r =>
          refine' pe_callTy call_tuple_of (by rfl) T.tup (by decide +kernel) ?a
          case a =>
            refine' pa_cons ?c pa_nil
            case c =>
              refine' pe_op op_cat ?x (pv 1)
              case x =>
                refine' pe_comp (N' := ["_law_part"]) (src := [none]) ?k1 ?k5 ?k6 ?k7
                case k1 => rfl
                case k5 => exact compScope_of (defScope sWith) rfl ["_law_e", "_law_inner"] rfl (by decide +kernel)
                case k6 => exact pi_tup (pv 0)
                case k7 => exact fun cl C ex s0 H0 => ⟨pg_name (i := 0) (nd1 _) rfl (Or.inl rfl), pts_one (pt_not (pt_val (pe_callB (id := "isinstance") (call_isinstK (K := K) rfl) (by rfl) T.isi (by decide +kernel) (pa_n (pv 0) (pa_n (pe_bltn (v := .ty "tuple") (by rfl) T.tup (by decide +kernel) rfl) pa_nil))))), pv 0⟩
    case fin =>
      obtain ⟨a, xs, rfl, ha, hts⟩ := th_tup hv
      have hl := IsThs.len _ hts
      refine ⟨_, rfl, a, rfl, ⟨_, SqT.of ha⟩, comp_tup (K := K) (a := a) (xs := xs) (fun i ys σc H' => ∃ o, σc = [o] ∧ IsThs H ys ((ts.take i).filter notTup) ∧ ys.length ≤ i ∧ H' = H) ⟨none, rfl, by rw [List.take_zero]; exact .nil, Nat.le_refl _, rfl⟩ (fun i ys σc H' ⟨_, _, _, _, e⟩ => by rw [e]; exact SqT.of ha) ?_ ?_⟩
      · rintro i x ys σc H' hx hi ⟨o, rfl, hys, hyl, rfl⟩
        obtain ⟨t, ht, h1⟩ := ths_get _ hts hx
        have hnext : (ts.take (i + 1)).filter notTup = (ts.take i).filter notTup ++ (if notTup t = true then [t] else []) := take_nextR _ ht
        refine ⟨by omega, ?_⟩
        refine ⟨_, rfl, _, _, _, _, rfl, th_ty h1, KI.tup h1, _, rfl, ite2 (fun g => ?_) (fun g => ?_)⟩
        · refine ⟨_, rfl, nx hi ⟨_, rfl, ?_, by rw [List.length_append]; show ys.length + 1 ≤ i + 1; omega, rfl⟩⟩
          rw [hnext, if_pos (show notTup t = true from g)]
          exact IsThs.app _ hys (.cons h1 .nil)
        · refine nx hi ⟨_, rfl, ?_, by omega, rfl⟩
          rw [hnext, if_neg (show ¬ notTup t = true from g), List.append_nil]
          exact hys
      · rintro ys σc H' ⟨o, rfl, hys, hyl, rfl⟩ l hl'
        rw [List.take_of_length_le (by omega)] at hys
        have s1 := same_upd (o := .lst ys) hl'
        have hwl := IsThs.len _ hws
        refine ⟨_, rfl, l, la, ys, ws, rfl, rfl, upd_same, s1 _ _ hla, by omega, fun l2 hl2 => ?_⟩
        have s2 := same_upd (o := .lst (ys ++ ws)) hl2
        refine ⟨l2, _, rfl, .inl ⟨SqL.of upd_same, fun p hp => ?_⟩⟩
        have s3 := same_upd (o := .tup (ys ++ ws)) hp
        have sA := (s1.trans s2).trans s3
        exact k p _ sA (.tup upd_same (IsThs.app _ (IsThs.kp (Kp.of sA) hys) (IsThs.kp (Kp.of sA) hws)))
theorem scNodes : FnScope ["_law_e"] ["_law_e"] (defScope sNodes) := ⟨rfl, rfl, rfl, by decide +kernel, rfl, by decide +kernel, by decide +kernel⟩
theorem ok_nodes {f fP : Addr} {fd dP : FuncData} (F : Fun K "_law_nodes" "_law_nodes" sNodes f fd) (b : Binds K fd ["_law_e"] []) (m : mg "_law_nodes" = some (.ref f)) (T : TxtT mg) (KI : Kits K) (hsum : mg "sum" = none)
    (FP : Fun K "_law_parts" "_law_parts" sLawParts fP dP) (bP : Binds K dP ["_law_e"] []) (mP : mg "_law_parts" = some (.ref fP)) : ∀ N, FnOk P w K mg base CX0 (N + 2) f fd ["_law_e"] ((spNodes S) N) := by
  have GP : FnOk P w K mg base CX0 1 fP dP ["_law_e"] spLawParts := ok_lawparts FP T KI
  intro N
  induction N with
  | zero =>
    refine F.ok scNodes (fun vs H Q E h => ?_) (fun cdv A outer s H vs Q E hr h => ?_)
    · obtain ⟨v, t, rfl, _⟩ := h
      rfl
    · obtain ⟨v, t, rfl, _, h, _⟩ := h
      exact h.elim
  | succ N ih =>
    refine F.ok scNodes (fun vs H Q E h => ?_) (fun cdv A outer s H vs Q E hr h => ?_)
    · obtain ⟨v, t, rfl, _⟩ := h
      rfl
    · obtain ⟨v, t, rfl, hv, hD, k⟩ := h
      have hsz : sizeLine = 16777216 := sizeLine_eq
      have hr1 : Room 1 _ := hr.mono (by omega)
      refine ⟨_, pss_one (ps_ret (pe_op op_add pe_int (pe_callB (call_sum rfl) (by rfl) hsum (by decide +kernel) (pa_cons (pe_comp (N' := ["_law_part"]) (src := [none]) rfl (compScope_of (defScope sNodes) rfl ["_law_e"] rfl (by decide +kernel)) (pi_list (pe_call GP hr1 (by rfl) mP FP.kp bP .nil pass0 (pa_n (pv 0) pa_nil)))
        (fun cl C ex s0 H0 => ⟨pg_name (i := 0) (nd1 _) rfl (Or.inl rfl), pts_nil, pe_call ih hr (by rfl) m F.kp b .nil pass0 (pa_n (pv 0) pa_nil)⟩)) pa_nil)))), ?_⟩
      obtain ⟨w0, hd, ks, rfl, h1, h2, h3, h4, h5, h6⟩ := hD
      have nk : ∀ k ∈ ks, L2.isTup k = true := fun k hk => (h6 k hk).isTup
      refine ⟨_, rfl, v, w0, hd.map Th.at ++ ks, rfl, hv, by rw [List.length_append, List.length_map]; omega, fun p ws H1 s1 hp0 hp hws => ?_⟩
      rw [kids_of nk] at hws
      have hl := IsThs.len _ hws
      refine ⟨p, rfl, ⟨_, SqL.of hp⟩, comp_list (K := K) (a := p) (xs := ws) (fun i ys σc H' => ∃ (o : Option V) (ms : List Int), σc = [o] ∧ ys = ms.map V.int ∧ ms.length = i ∧ ms.sum = (cnts (ks.take i) : Nat) ∧ Same H1 H')
        ⟨none, [], rfl, rfl, rfl, by rw [List.take_zero]; rfl, Same.refl _⟩ (fun i ys σc H' ⟨_, _, _, _, _, _, e⟩ => SqL.of (e _ _ hp)) ?_ ?_⟩
      · rintro i x ys σc H' hx hi ⟨o, ms, rfl, rfl, hm, hsm, s2⟩
        obtain ⟨t, ht, hxt⟩ := ths_get _ hws hx
        refine ⟨by rw [List.length_map]; omega, ?_⟩
        refine ⟨_, rfl, x, t, rfl, IsTh.kp (Kp.of s2) hxt, h6 t (List.mem_of_getElem? ht), fun H2 s3 => nx hi ⟨_, ms ++ [((cnt t : Nat) : Int)], rfl, by rw [List.map_append]; rfl, by rw [List.length_append, hm]; rfl, ?_, s2.trans s3⟩⟩
        rw [List.take_add_one, ht, List.sum_append, hsm]
        show _ = ((cnts (ks.take i ++ [t]) : Nat) : Int)
        rw [cnts_snoc]
        simp
      · rintro ys σc H' ⟨o, ms, rfl, rfl, hm, hsm, s2⟩ q hq
        rw [List.take_of_length_le (by omega)] at hsm
        refine ⟨q, ms, rfl, SqL.of upd_same, _, _, rfl, rfl, ?_⟩
        have kk := k _ (s1.trans (s2.trans (same_upd (o := .lst (ms.map V.int)) hq)))
        rw [cnt_nd nk] at kk
        rw [hsm]
        simpa using kk
end
end K54

set_option Elab.async false
set_option linter.all false
set_option maxRecDepth 100000
set_option maxHeartbeats 4000000
namespace K54
open PySem L2
structure HW (K : PySem.W.Frag) (mg : Str → Option Value) (fP fW : Addr) (dP dW : FuncData) : Prop where
  T : TxtT mg
  KI : Kits K
  P : Fun K "_law_parts" "_law_parts" sLawParts fP dP
  bP : Binds K dP ["_law_e"] []
  mP : mg "_law_parts" = some (.ref fP)
  W : Fun K "_law_with" "_law_with" sWith fW dW
  bW : Binds K dW ["_law_e", "_law_inner"] []
  mW : mg "_law_with" = some (.ref fW)
mutual
theorem th_but {H H' : Hp} {a : Addr} {xs : List V} (h : H a = some (.lst xs)) (b : But a H H') : ∀ {v : V} {t : Th}, IsTh H v t → plT t = true → IsTh H' v t
  | _, _, .at f, _ => .at f
  | _, _, .tup e r, p => by
    rw [plT] at p
    exact .tup (b _ _ e (ne_of e h (by intro q; cases q))) (ths_but h b r p)
  | _, _, .lst e r, p => by rw [plT] at p; cases p
theorem ths_but {H H' : Hp} {a : Addr} {xs : List V} (h : H a = some (.lst xs)) (b : But a H H') : ∀ {vs : List V} {ts : List Th}, IsThs H vs ts → plTs ts = true → IsThs H' vs ts
  | _, _, .nil, _ => .nil
  | _, _, .cons e r, p => by
    rw [plTs, Bool.and_eq_true] at p
    exact .cons (th_but h b e p.1) (ths_but h b r p.2)
end
theorem atI_nat' {vs : List V} {i : Nat} {x : V} (h : vs[i]? = some x) : atI vs (0 + (i : Int)) = some x := by
  rw [Int.zero_add]
  exact atI_nat h
section
variable {S : List Str}
theorem cnt_pf {n : Nat} {t : Th} (h : (PfT S) n t) : 1 ≤ cnt t := by
  cases n with
  | zero => exact h.elim
  | succ n =>
    obtain ⟨w, hd, ks, rfl, _⟩ := h
    unfold nd
    rw [cnt]
    omega
theorem lead_nd {w : Str} {hd : List V} {ks ks' : List Th} (h : ∀ k ∈ ks, L2.isTup k = true) : Th.tup (leadL (.at (.str w) :: (hd.map Th.at ++ ks)) ++ ks') = nd w hd ks' := by
  rw [nd_lead h]
  rfl
end
def bdS (k l : Th) : Nat := Th.sz k + cnt k * Th.sz l
def spSpoilt (S : List Str) (N M : Nat) : Sp := fun vs H Q _ => ∃ (v vl : V) (z : Int) (t l : Th), vs = [v, .int z, vl] ∧ IsTh H v t ∧ (PfT S) N t ∧ IsTh H vl l ∧ (PfT S) M l ∧
  ∀ (v' : V) (t' : Th) H', Same H H' → IsTh H' v' t' → (PfT S) (N + M) t' → Th.sz t' ≤ bdS t l → Q v' H'
theorem ths_set {H : Hp} : ∀ (vs : List V) {us : List Th} (i : Nat) {v : V} {t : Th}, IsThs H vs us → IsTh H v t → IsThs H (vs.set i v) (us.set i t) := by
  intro vs
  induction vs with
  | nil => intro us i v t h _; cases h; exact .nil
  | cons w vs ih =>
    intro us i v t h hv
    cases h with
    | cons a b =>
      cases i with
      | zero => exact .cons hv b
      | succ i => exact .cons a (ih i b hv)
theorem ix_of {n : Nat} {i : Nat} (h : i < n) : ixN n (0 + (i : Int)) = some i := by
  unfold ixN
  rw [if_pos (by omega), if_pos (by omega)]
  congr 1
  omega
theorem szs_bd {l : Th} : ∀ (us ks : List Th), us.length = ks.length → (∀ (j : Nat) (u k : Th), us[j]? = some u → ks[j]? = some k → Th.sz u ≤ bdS k l) → szs us ≤ szs ks + cnts ks * Th.sz l := by
  intro us
  induction us with
  | nil => intro ks _ _; rw [szs]; exact Nat.zero_le _
  | cons u us ih =>
    intro ks hl h
    match ks, hl with
    | k :: ks, hl =>
      have h1 := h 0 u k rfl rfl
      have h2 := ih ks (by simpa using hl) fun j u k a b => h (j + 1) u k (by simpa using a) (by simpa using b)
      rw [szs, szs, cnts, Nat.add_mul]
      unfold bdS at h1
      omega
theorem sz_nd {w : Str} {hd : List V} {ks : List Th} : Th.sz (nd w hd ks) = 1 + (1 + (szs (hd.map Th.at) + szs ks)) := by
  unfold nd
  rw [Th.sz, szs, szs_app, Th.sz]
section
variable {S : List Str} {P : Program} {w : World} {K : PySem.W.Frag} {mg : Str → Option Value} {base : Heap}
theorem scSpoilt : FnScope ["_law_e", "_law_at", "_law_leaf_here", "_law_inner", "_law_k", "_law_long"] ["_law_e", "_law_at", "_law_leaf_here"] (defScope sSpoilt) := ⟨rfl, rfl, rfl, by decide +kernel, rfl, by decide +kernel, by decide +kernel⟩
theorem ok_spoilt {f fP fW fN : Addr} {fd dP dW dN : FuncData} (F : Fun K "_law_spoilt" "_law_spoilt" sSpoilt f fd) (b : Binds K fd ["_law_e", "_law_at", "_law_leaf_here"] []) (m : mg "_law_spoilt" = some (.ref f)) (U : HW K mg fP fW dP dW) (hrange : mg "range" = none) (hsum : mg "sum" = none)
    (FN : Fun K "_law_nodes" "_law_nodes" sNodes fN dN) (bN : Binds K dN ["_law_e"] []) (mN : mg "_law_nodes" = some (.ref fN)) (M : Nat) : ∀ N, FnOk P w K mg base CX0 (N + 3) f fd ["_law_e", "_law_at", "_law_leaf_here"] ((spSpoilt S) N M) := by
  have GP : FnOk P w K mg base CX0 1 fP dP ["_law_e"] spLawParts := ok_lawparts U.P U.T U.KI
  have GW : FnOk P w K mg base CX0 1 fW dW ["_law_e", "_law_inner"] spWith := ok_with U.W U.T U.KI
  have GN : ∀ N, FnOk P w K mg base CX0 (N + 2) fN dN ["_law_e"] ((spNodes S) N) := ok_nodes FN bN mN U.T U.KI hsum U.P U.bP U.mP
  intro N
  induction N with
  | zero =>
    refine F.ok scSpoilt (fun vs H Q E h => ?_) (fun cdv A outer s H vs Q E hr h => ?_)
    · obtain ⟨v, vl, z, t, l, rfl, _⟩ := h
      rfl
    · obtain ⟨v, vl, z, t, l, rfl, _, h, _⟩ := h
      exact h.elim
  | succ N ih =>
    refine F.ok scSpoilt (fun vs H Q E h => ?_) (fun cdv A outer s H vs Q E hr h => ?_)
    · obtain ⟨v, vl, z, t, l, rfl, _⟩ := h
      rfl
    · obtain ⟨v, vl, z, t, l, rfl, hv, hD, hvl, hl, k⟩ := h
      have hsz : sizeLine = 16777216 := sizeLine_eq
      have hr1 : Room 1 _ := hr.mono (by omega)
      have hrN : Room (N + 2) _ := hr.mono (by omega)
      refine' ⟨?tt, ?body, ?fin⟩
      case body =>
        refine' pss_cons ?s1 (pss_cons ?s2 (pss_cut ?s3 (pss_cons ?s4 (pss_one ?s5))))
        case s1 => exact ps_if (pt_cmpR op_eq (pv 1) pe_int (nomark _)) (pss_one (ps_ret (pv 2))) pss_nil
        case s2 => exact ps_set (i := 3) scSpoilt.nd rfl (Or.inl rfl) (pe_call GP hr1 (by rfl) U.mP U.P.kp U.bP .nil pass0 (pa_n (pv 0) pa_nil))
        case s3 => exact ps_set (i := 1) scSpoilt.nd rfl (Or.inl rfl) (pe_op op_sub (pv 1) pe_int)
        case s4 =>
          refine' ps_for PassesOwn.never rfl (pi_range1 (by rfl) hrange (pa_c (pe_callB call_len_seq (by rfl) U.T.len PySem.boot_len (pa_n (pv 3) pa_nil)) pa_nil)) (pg_name (i := 4) scSpoilt.nd rfl (Or.inl rfl)) (pss_cons ?b1 (pss_cut ?b2 (pss_one ?b3)))
          case b1 => exact ps_set (i := 5) scSpoilt.nd rfl (Or.inl rfl) (pe_call (GN N) hrN (by rfl) mN FN.kp bN .nil pass0 (pa_cons (pe_ix ix_list (pv 3) (pv 4) (fun _ _ => rfl)) pa_nil))
          case b2 =>
            refine' ps_if ?c (pss_one ?d1) pss_nil
            case c => exact pt_chain op_le op_lt pe_int (pv 1) (pv 5)
            case d1 => exact ps_asg (pe_call ih hr (by rfl) m F.kp b .nil pass0 (pa_cons (pe_ix ix_list (pv 3) (pv 4) (fun _ _ => rfl)) (pa_n (pv 1) (pa_n (pv 2) pa_nil)))) (pg_sub (pv 3) (pv 4) set_list)
          case b3 => exact ps_set (i := 1) scSpoilt.nd rfl (Or.inl rfl) (pe_op op_sub (pv 1) (pv 5))
        case s5 => exact ps_ret (pe_call GW hr1 (by rfl) U.mW U.W.kp U.bW .nil pass0 (pa_n (pv 0) (pa_n (pv 3) pa_nil)))
      case fin =>
        have hct := cnt_pf hD
        have pD := hD
        obtain ⟨w0, hd, kt, rfl, h1, h2, h3, h4, h5, h6⟩ := hD
        have nk : ∀ k ∈ kt, L2.isTup k = true := fun k hk => (h6 k hk).isTup
        refine ⟨_, rfl, rfl, _, rfl, ite2 (fun g => ?_) (fun g => ?_)⟩
        · refine ⟨_, rfl, k vl l H (Same.refl _) hvl (hl.le (by omega)) ?_⟩
          unfold bdS
          have := Nat.mul_le_mul_right (Th.sz l) hct
          omega
        · refine ⟨_, rfl, v, w0, hd.map Th.at ++ kt, rfl, hv, by rw [List.length_append, List.length_map]; omega, fun p ws H1 s1 hp0 hp hws => ?_⟩
          rw [kids_of nk] at hws
          have hwl := IsThs.len _ hws
          refine ⟨fun σ' H' => σ' = [some v, some (.int (z - 1)), some vl, some (.ref p), none, none] ∧ H' = H1, ⟨_, rfl, _, _, rfl, rfl, rfl, rfl⟩, ?_⟩
          rintro σ3 H3 ⟨rfl, rfl⟩
          refine ⟨_, rfl, p, ws, rfl, .inl (SqL.of hp), (ws.length : Int), rfl, by omega, by omega, for_range (fun i σ' H' => ∃ (z' : Int) (o4 o5 : Option V) (us : List Th) (ws' : List V), σ' = [some v, some (.int z'), some vl, some (.ref p), o4, o5] ∧ But p H3 H' ∧ H' p = some (.lst ws') ∧ IsThs H' ws' us ∧ us.length = kt.length ∧ (∀ u ∈ us, (PfT S) (N + M) u) ∧ (∀ j, i ≤ j → us[j]? = kt[j]?) ∧ ∀ (j : Nat) (u k : Th), us[j]? = some u → kt[j]? = some k → Th.sz u ≤ bdS k l)
            ⟨z - 1, none, none, kt, ws, rfl, But.refl _ _, hp, hws, rfl, fun u hu => (h6 u hu).le (by omega), fun _ _ => rfl, fun j u k a b => ?_⟩ ?_ ?_⟩
          · rw [a] at b
            cases b
            exact Nat.le_add_right _ _
          · rintro i σ' H' hi ⟨z', o4, o5, us, ws', rfl, b2, hp2, hws2, hul, hupf, hsame, hbd⟩
            have hi' : i < kt.length := by omega
            have hlw := IsThs.len _ hws2
            have hki : kt[i]? = some kt[i] := List.getElem?_eq_getElem hi'
            have hui : us[i]? = some kt[i] := by rw [hsame i (Nat.le_refl _)]; exact hki
            obtain ⟨x, hx, hxt⟩ := ths_at _ hws2 hui
            have hm := h6 _ (List.getElem_mem hi')
            refine ⟨_, rfl, _, rfl, p, ws', 0 + (i : Int), x, rfl, rfl, SqL.of hp2, atI_nat' hx, x, kt[i], rfl, hxt, hm, fun H4 s4 => ?_⟩
            have hp4 := s4 _ _ hp2
            have b4 := b2.trans (But.of (d := p) s4)
            have hws4 := IsThs.kp (Kp.of s4) hws2
            refine ⟨fun σ' H' => ∃ (o5 : Option V) (us : List Th) (ws' : List V), σ' = [some v, some (.int z'), some vl, some (.ref p), some (.int (0 + (i : Int))), some (.int (cnt kt[i] : Nat))] ∧ But p H3 H' ∧ H' p = some (.lst ws') ∧ IsThs H' ws' us ∧ us.length = kt.length ∧ (∀ u ∈ us, (PfT S) (N + M) u) ∧ (∀ j, i + 1 ≤ j → us[j]? = kt[j]?) ∧ ∀ (j : Nat) (u k : Th), us[j]? = some u → kt[j]? = some k → Th.sz u ≤ bdS k l, ?_, ?_⟩
            · have stay : ∃ (o5 : Option V) (us : List Th) (ws' : List V), [some v, some (.int z'), some vl, some (.ref p), some (.int (0 + (i : Int))), some (.int (cnt kt[i] : Nat))] = [some v, some (.int z'), some vl, some (.ref p), some (.int (0 + (i : Int))), some (.int (cnt kt[i] : Nat))] ∧ But p H3 H4 ∧ H4 p = some (.lst ws') ∧ IsThs H4 ws' us ∧ us.length = kt.length ∧ (∀ u ∈ us, (PfT S) (N + M) u) ∧ (∀ j, i + 1 ≤ j → us[j]? = kt[j]?) ∧ ∀ (j : Nat) (u k : Th), us[j]? = some u → kt[j]? = some k → Th.sz u ≤ bdS k l :=
                ⟨none, us, ws', rfl, b4, hp4, hws4, hul, hupf, fun j hj => hsame j (by omega), hbd⟩
              refine ⟨_, rfl, _, _, rfl, rfl, _, rfl, ite2 (fun g1 => ⟨_, rfl, _, _, rfl, rfl, _, rfl, ite2 (fun g2 => ?_) (fun g2 => stay)⟩) (fun g1 => ⟨_, rfl, iteF stay⟩)⟩
              have hxt4 := IsTh.kp (Kp.of s4) hxt
              have hvl4 := th_but hp b4 (IsTh.kp (Kp.of s1) hvl) (PfT.pl M hl)
              refine ⟨_, rfl, _, rfl, p, ws', 0 + (i : Int), x, rfl, rfl, SqL.of hp4, atI_nat' hx, _, rfl, _, rfl, x, vl, z', kt[i], l, rfl, hxt4, hm, hvl4, hl, fun v' t' H5 s5 hv5 pf5 sz5 => ?_⟩
              have hp5 := s5 _ _ hp4
              refine ⟨_, rfl, _, rfl, p, ws', 0 + (i : Int), i, rfl, rfl, hp5, ix_of (by omega), ?_⟩
              have bu : But p H5 (upd H5 p (.lst (ws'.set i v'))) := But.upd
              refine ⟨none, us.set i t', ws'.set i v', rfl, (b4.trans (But.of s5)).trans bu, upd_same, ?_, by rw [List.length_set]; exact hul, ?_, ?_, ?_⟩
              · refine ths_set _ i (ths_but hp5 bu (IsThs.kp (Kp.of s5) hws4) (plTs_all fun u hu => PfT.pl _ (hupf u hu))) (th_but hp5 bu hv5 (PfT.pl _ pf5))
              · intro u hu
                rcases List.mem_or_eq_of_mem_set hu with y | y
                · exact hupf u y
                · rw [y]; exact pf5
              · intro j hj
                rw [List.getElem?_set_ne (by omega)]
                exact hsame j (by omega)
              · intro j u k a b
                by_cases hji : j = i
                · subst hji
                  rw [List.getElem?_set_self (by omega)] at a
                  cases a
                  rw [hki] at b
                  cases b
                  exact sz5
                · rw [List.getElem?_set_ne (Ne.symm hji)] at a
                  exact hbd j u k a b
            · rintro σ5 H5 ⟨_, us5, ws5, rfl, q1, q2, q3, q4, q5, q6, q7⟩
              exact ⟨_, rfl, _, rfl, _, _, rfl, rfl, _, _, _, us5, ws5, rfl, q1, q2, q3, q4, q5, q6, q7⟩
          · rintro σ' H' ⟨z', o4, o5, us, ws', rfl, b2, hp2, hws2, hul, hupf, hsame, hbd⟩
            have hv2 := th_but hp b2 (IsTh.kp (Kp.of s1) hv) (PfT.pl _ pD)
            have sm : Same H H' := fun c o e => b2 c o (s1 _ _ e) (ne_of_none e hp0)
            refine ⟨_, rfl, _, rfl, v, p, _, us, ws', rfl, hv2, by rw [List.length_cons, List.length_append, List.length_map]; omega, hp2, hws2, by omega, fun r H3 s3 hr3 => ?_⟩
            rw [lead_nd nk] at hr3
            refine k _ _ _ (sm.trans s3) hr3 ?_ ?_
            · rw [Nat.add_right_comm]
              exact ⟨w0, hd, us, rfl, h1, h2, fun z => ⟨(h3 z).1, by rw [hul]; exact (h3 z).2⟩, by rw [hul]; exact h4, by omega, hupf⟩
            · have := szs_bd us kt hul hbd
              unfold bdS
              rw [sz_nd, sz_nd, cnt_nd nk, Nat.add_mul]
              omega
end
end K54

set_option Elab.async false
set_option linter.all false
set_option maxRecDepth 100000
set_option maxHeartbeats 4000000
namespace K54
open PySem L2
theorem at_head (v : V) (vs : List V) : atI (v :: vs) 0 = some v := atI_nat (j := 0) rfl
theorem at_next (u v : V) (vs : List V) : atI (u :: v :: vs) 1 = some v := atI_nat (j := 1) rfl
/-! ### what an expression costs -/
def iOf : List Th → Int
  | .at (.int i) :: _ => i
  | _ => 0
def nOf : List Th → Str
  | .at (.str s) :: _ => s
  | _ => ""
def wOf : List Th → Str
  | .at (.str s) :: _ => s
  | _ => ""
def wkN (ρ : Str → Int) (xs : List Th) (inner : Int) : Int := if wOf xs = "again" then 1 + iOf (xs.drop 1) * inner else if wOf xs = "call" then 1 + inner + ρ (nOf (xs.drop 1)) else 1 + inner
mutual
def wk (ρ : Str → Int) : Th → Int
  | .tup xs => wkN ρ xs (wks ρ xs)
  | .at _ => 0
  | .lst _ => 0
def wks (ρ : Str → Int) : List Th → Int
  | [] => 0
  | x :: xs => wk ρ x + wks ρ xs
end
theorem wks_app (ρ : Str → Int) : ∀ a b : List Th, wks ρ (a ++ b) = wks ρ a + wks ρ b := by
  intro a
  induction a with
  | nil => intro b; simp [wks]
  | cons x a ih => intro b; rw [List.cons_append, wks, wks, ih]; omega
theorem wks_ats (ρ : Str → Int) : ∀ hd : List V, wks ρ (hd.map Th.at) = 0 := by
  intro hd
  induction hd with
  | nil => simp [wks]
  | cons x a ih => rw [List.map_cons, wks, ih, wk]; rfl
theorem wk_nd (ρ : Str → Int) (w : Str) (hd : List V) (ks : List Th) : wk ρ (nd w hd ks) = if w = "again" then 1 + iOf (hd.map Th.at ++ ks) * wks ρ ks else if w = "call" then 1 + wks ρ ks + ρ (nOf (hd.map Th.at ++ ks)) else 1 + wks ρ ks := by
  have e : wks ρ (.at (.str w) :: (hd.map Th.at ++ ks)) = wks ρ ks := by
    rw [wks, wk, wks_app, wks_ats]
    omega
  unfold nd
  rw [wk, e]
  rfl
/-- the dict of what functions cost -/
def Works (S : List Str) (ρ : Str → Int) (kvs : List (Key × V)) : Prop := ∀ x ∈ S, valV kvs (Sum.inr x) = some (.int (ρ x))
def spLawWork (S : List Str) (N : Nat) : Sp := fun vs H Q _ => ∃ (v : V) (wa : Addr) (t : Th) (ρ : Str → Int) (kvs : List (Key × V)), vs = [v, .ref wa] ∧ IsTh H v t ∧ PfT S N t ∧ H wa = some (.dK kvs) ∧ Works S ρ kvs ∧ ∀ H', Same H H' → Q (.int (wk ρ t)) H'
theorem nd_wp : (["_law_works", "_law_part"] : List Str).Nodup := by decide +kernel
section
variable {S : List Str} {P : Program} {w : World} {K : PySem.W.Frag} {mg : Str → Option Value} {base : Heap}
theorem scLawWork : FnScope ["_law_e", "_law_works", "_law_inner"] ["_law_e", "_law_works"] (defScope sLawWork) := ⟨rfl, rfl, rfl, by decide +kernel, rfl, by decide +kernel, by decide +kernel⟩
theorem ok_lawwork {f fP : Addr} {fd dP : FuncData} (F : Fun K "_law_work" "_law_work" sLawWork f fd) (b : Binds K fd ["_law_e", "_law_works"] []) (m : mg "_law_work" = some (.ref f)) (T : TxtT mg) (KI : Kits K) (hsum : mg "sum" = none)
    (FP : Fun K "_law_parts" "_law_parts" sLawParts fP dP) (bP : Binds K dP ["_law_e"] []) (mP : mg "_law_parts" = some (.ref fP)) : ∀ N, FnOk P w K mg base CX0 (N + 2) f fd ["_law_e", "_law_works"] (spLawWork S N) := by
  have GP : FnOk P w K mg base CX0 1 fP dP ["_law_e"] spLawParts := ok_lawparts FP T KI
  intro N
  induction N with
  | zero =>
    refine F.ok scLawWork (fun vs H Q E h => ?_) (fun cdv A outer s H vs Q E hr h => ?_)
    · obtain ⟨v, wa, t, ρ, kvs, rfl, _⟩ := h
      rfl
    · obtain ⟨v, wa, t, ρ, kvs, rfl, _, h, _⟩ := h
      exact h.elim
  | succ N ih =>
    refine F.ok scLawWork (fun vs H Q E h => ?_) (fun cdv A outer s H vs Q E hr h => ?_)
    · obtain ⟨v, wa, t, ρ, kvs, rfl, _⟩ := h
      rfl
    · obtain ⟨v, wa, t, ρ, kvs, rfl, hv, hD, hwa, hW, k⟩ := h
      have hsz : sizeLine = 16777216 := sizeLine_eq
      have hr1 : Room 1 _ := hr.mono (by omega)
      have hu := hu_of hr
      refine' ⟨?tt, ?body, ?fin⟩
      case body =>
        refine' pss_cons ?s1 ?r1
        case s1 =>
          refine' ps_set (i := 2) scLawWork.nd rfl (Or.inl rfl) (pe_callB (call_sum rfl) (by rfl) hsum (by decide +kernel) (pa_cons ?c pa_nil))
          case c =>
            refine' pe_comp (N' := ["_law_works", "_law_part"]) (src := [some 1, none]) ?k1 ?k5 ?k6 ?k7
            case k1 => rfl
            case k5 => exact compScope_of (defScope sLawWork) rfl ["_law_e", "_law_works", "_law_inner"] rfl (by decide +kernel)
            case k6 => exact pi_list (pe_call GP hr1 (by rfl) mP FP.kp bP .nil pass0 (pa_n (pv 0) pa_nil))
            case k7 => exact fun cl C ex s0 H0 => ⟨pg_name (i := 1) nd_wp rfl (Or.inl rfl), pts_nil, pe_call ih hr (by rfl) m F.kp b .nil pass0 (pa_n (pv 1) (pa_n (pv 0) pa_nil))⟩
        case r1 =>
          refine' pss_cons ?s2 (pss_cons ?s3 (pss_one ?s4))
          case s2 => exact ps_if (pt_cmpR op_eq (pe_ix ix_tup (pv 0) pe_int (fun _ _ => rfl)) pe_str (nomark _)) (pss_one (ps_ret (pe_op op_add pe_int (pe_op op_mul (pe_ix ix_tup (pv 0) pe_int (fun _ _ => rfl)) (pv 2))))) pss_nil
          case s3 => exact ps_if (pt_cmpR op_eq (pe_ix ix_tup (pv 0) pe_int (fun _ _ => rfl)) pe_str (nomark _)) (pss_one (ps_ret (pe_op op_add (pe_op op_add pe_int (pv 2)) (pe_dget hu (pv 1) (pe_ix ix_tup (pv 0) pe_int (fun _ _ => rfl)) (fun _ _ => rfl))))) pss_nil
          case s4 => exact ps_ret (pe_op op_add pe_int (pv 2))
      case fin =>
        obtain ⟨w0, hd, ks, rfl, h1, h2, h3, h4, h5, h6⟩ := hD
        have nk : ∀ k ∈ ks, L2.isTup k = true := fun k hk => (h6 k hk).isTup
        have hv' := hv
        unfold nd at hv'
        obtain ⟨a, vs, rfl, ha, hvs⟩ := th_tup hv'
        refine ⟨_, rfl, .ref a, w0, hd.map Th.at ++ ks, rfl, hv, by rw [List.length_append, List.length_map]; omega, fun p ws H1 s1 hp0 hp hws => ?_⟩
        rw [kids_of nk] at hws
        have hl := IsThs.len _ hws
        refine ⟨p, rfl, ⟨_, SqL.of hp⟩, comp_list (K := K) (a := p) (xs := ws) (fun i ys σc H' => ∃ (o : Option V) (ms : List Int), σc = [some (.ref wa), o] ∧ ys = ms.map V.int ∧ ms.length = i ∧ ms.sum = wks ρ (ks.take i) ∧ Same H1 H')
          ⟨none, [], rfl, rfl, rfl, by rw [List.take_zero]; rfl, Same.refl _⟩ (fun i ys σc H' ⟨_, _, _, _, _, _, e⟩ => SqL.of (e _ _ hp)) ?_ ?_⟩
        · rintro i x ys σc H' hx hi ⟨o, ms, rfl, rfl, hm, hsm, s2⟩
          obtain ⟨t, ht, hxt⟩ := ths_get _ hws hx
          refine ⟨by rw [List.length_map]; omega, ?_⟩
          refine ⟨_, rfl, _, rfl, x, wa, t, ρ, kvs, rfl, IsTh.kp (Kp.of s2) hxt, h6 t (List.mem_of_getElem? ht), s2 _ _ (s1 _ _ hwa), hW, fun H2 s3 => nx hi ⟨_, ms ++ [wk ρ t], rfl, by rw [List.map_append]; rfl, by rw [List.length_append, hm]; rfl, ?_, s2.trans s3⟩⟩
          rw [List.take_add_one, ht, List.sum_append, hsm]
          show _ = wks ρ (ks.take i ++ [t])
          rw [wks_app, wks, wks]
          simp
        · rintro ys σc H' ⟨o, ms, rfl, rfl, hm, hsm, s2⟩ q hq
          rw [List.take_of_length_le (by omega)] at hsm
          have sA := s1.trans (s2.trans (same_upd (o := .lst (ms.map V.int)) hq))
          refine ⟨q, ms, rfl, SqL.of upd_same, ?_⟩
          rw [hsm]
          generalize upd H' q (.lst (ms.map V.int)) = H2 at sA
          have ha2 := sA _ _ ha
          cases hvs with
          | @cons vh vr _ _ d1 d2 =>
            obtain ⟨rfl, _⟩ := th_at d1
            have kk := k H2 sA
            rw [wk_nd] at kk
            refine ⟨_, rfl, a, _, _, _, rfl, rfl, SqT.of ha2, at_head _ _, rfl, _, rfl, ite2 (fun g => ?_) (fun g => ?_)⟩
            · have hw : w0 = "again" := by
                have g' := of_decide_eq_true g
                injection g'
              obtain ⟨i, rfl, hi0, hi5⟩ := h4.ag hw
              cases d2 with
              | @cons v2 vr2 _ _ d3 d4 =>
                obtain ⟨rfl, _⟩ := th_at d3
                rw [if_pos hw] at kk
                exact ⟨_, rfl, a, _, _, _, rfl, rfl, SqT.of ha2, at_next _ _ _, _, rfl, _, _, rfl, rfl, .inl ⟨by omega, by omega⟩, _, _, rfl, rfl, kk⟩
            · have hw : w0 ≠ "again" := fun q => g (by rw [q]; decide +kernel)
              rw [if_neg hw] at kk
              refine ⟨_, rfl, a, _, _, _, rfl, rfl, SqT.of ha2, at_head _ _, rfl, _, rfl, ite2 (fun g => ?_) (fun g => ?_)⟩
              · have hw2 : w0 = "call" := by
                  have g' := of_decide_eq_true g
                  injection g'
                obtain ⟨x, rfl, hxS⟩ := h4.ca hw2
                cases d2 with
                | @cons v2 vr2 _ _ d3 d4 =>
                  obtain ⟨rfl, _⟩ := th_at d3
                  rw [if_pos hw2] at kk
                  have hg : DGet H2 wa (.str x) (some (.int (ρ x))) := by
                    have := DGet.k (k := Sum.inr x) (sA _ _ hwa)
                    rw [hW x hxS] at this
                    exact this
                  exact ⟨_, rfl, _, _, rfl, rfl, _, rfl, _, rfl, a, _, _, _, rfl, rfl, SqT.of ha2, at_next _ _ _, wa, _, rfl, hg, _, _, rfl, rfl, kk⟩
              · have hw2 : w0 ≠ "call" := fun q => g (by rw [q]; decide +kernel)
                rw [if_neg hw2] at kk
                exact ⟨_, rfl, _, _, rfl, rfl, kk⟩
end
end K54

set_option Elab.async false
set_option linter.all false
set_option maxRecDepth 100000
set_option maxHeartbeats 4000000
namespace K54
open PySem L2
theorem at_2 (u v x : V) (vs : List V) : atI (u :: v :: x :: vs) 2 = some x := atI_nat (j := 2) rfl
theorem at_3 (u v x y : V) (vs : List V) : atI (u :: v :: x :: y :: vs) 3 = some y := atI_nat (j := 3) rfl
def spRight (S : List Str) (N : Nat) : Sp := fun vs H Q _ => ∃ (v : V) (bl : Addr) (t : Th) (bs : List Str), vs = [v, .ref bl] ∧ IsTh H v t ∧ PfT S N t ∧ H bl = some (.lst (bs.map V.str)) ∧ bs.length + N ≤ 1000 ∧ ∀ (b : Bool) H', Same H H' → Q (.bl b) H'
theorem nd_bp : (["_law_bound_here", "_law_part"] : List Str).Nodup := by decide +kernel
section
variable {S : List Str} {P : Program} {w : World} {K : PySem.W.Frag} {mg : Str → Option Value} {base : Heap}
theorem scRight : FnScope ["_law_e", "_law_bound_here"] ["_law_e", "_law_bound_here"] (defScope sRight) := ⟨rfl, rfl, rfl, by decide +kernel, rfl, by decide +kernel, by decide +kernel⟩
theorem ok_right {f fP : Addr} {fd dP : FuncData} (F : Fun K "_law_right" "_law_right" sRight f fd) (b : Binds K fd ["_law_e", "_law_bound_here"] []) (m : mg "_law_right" = some (.ref f)) (T : TxtT mg) (KI : Kits K) (hall : mg "all" = none)
    (FP : Fun K "_law_parts" "_law_parts" sLawParts fP dP) (bP : Binds K dP ["_law_e"] []) (mP : mg "_law_parts" = some (.ref fP)) : ∀ N, FnOk P w K mg base CX0 (N + 2) f fd ["_law_e", "_law_bound_here"] (spRight S N) := by
  have GP : FnOk P w K mg base CX0 1 fP dP ["_law_e"] spLawParts := ok_lawparts FP T KI
  intro N
  induction N with
  | zero =>
    refine F.ok scRight (fun vs H Q E h => ?_) (fun cdv A outer s H vs Q E hr h => ?_)
    · obtain ⟨v, bl, t, bs, rfl, _⟩ := h
      rfl
    · obtain ⟨v, bl, t, bs, rfl, _, h, _⟩ := h
      exact h.elim
  | succ N ih =>
    refine F.ok scRight (fun vs H Q E h => ?_) (fun cdv A outer s H vs Q E hr h => ?_)
    · obtain ⟨v, bl, t, bs, rfl, _⟩ := h
      rfl
    · obtain ⟨v, bl, t, bs, rfl, hv, hD, hbl, hbz, k⟩ := h
      have hsz : sizeLine = 16777216 := sizeLine_eq
      have hr1 : Room 1 _ := hr.mono (by omega)
      refine' ⟨?tt, ?body, ?fin⟩
      case body =>
        refine' pss_cut ?s1 (pss_cons ?s2 (pss_one ?s3))
        case s1 =>
          refine' ps_if ?c (pss_one (ps_ret pe_bl)) pss_nil
          case c => exact (pw_and (pt_cmpR op_eq (pe_ix ix_tup (pv 0) pe_int (fun _ _ => rfl)) pe_str (nomark _)) (pw_and1 (pt_cmpR op_in_seq (pe_ix ix_tup (pv 0) pe_int (fun _ _ => rfl)) (pv 1) (by with_unfolding_all rfl)))).pt
        case s2 =>
          refine' ps_if ?c (pss_one (ps_ret ?r)) pss_nil
          case c => exact pt_cmpR op_eq (pe_ix ix_tup (pv 0) pe_int (fun _ _ => rfl)) pe_str (nomark _)
          case r =>
            refine' pe_and ?r1 (pe_one ?r2)
            case r1 => exact pe_call ih hr (by rfl) m F.kp b .nil pass0 (pa_cons (pe_ix ix_tup (pv 0) pe_int (fun _ _ => rfl)) (pa_n (pv 1) pa_nil))
            case r2 => exact pe_call ih hr (by rfl) m F.kp b .nil pass0 (pa_cons (pe_ix ix_tup (pv 0) pe_int (fun _ _ => rfl)) (pa_cons (pe_op op_cat (pv 1) (pe_lst (pa_cons (pe_ix ix_tup (pv 0) pe_int (fun _ _ => rfl)) pa_nil))) pa_nil))
        case s3 =>
          refine' ps_ret (pe_callB (call_all_of rfl) (by rfl) hall (by decide +kernel) (pa_cons ?c pa_nil))
          case c =>
            refine' pe_comp (N' := ["_law_bound_here", "_law_part"]) (src := [some 1, none]) ?k1 ?k5 ?k6 ?k7
            case k1 => rfl
            case k5 => exact compScope_of (defScope sRight) rfl ["_law_e", "_law_bound_here"] rfl (by decide +kernel)
            case k6 => exact pi_list (pe_call GP hr1 (by rfl) mP FP.kp bP .nil pass0 (pa_n (pv 0) pa_nil))
            case k7 => exact fun cl C ex s0 H0 => ⟨pg_name (i := 1) nd_bp rfl (Or.inl rfl), pts_nil, pe_call ih hr (by rfl) m F.kp b .nil pass0 (pa_n (pv 1) (pa_n (pv 0) pa_nil))⟩
      case fin =>
        obtain ⟨w0, hd, ks, rfl, h1, h2, h3, h4, h5, h6⟩ := hD
        have nk : ∀ k ∈ ks, L2.isTup k = true := fun k hk => (h6 k hk).isTup
        have hv' := hv
        unfold nd at hv'
        obtain ⟨a, vs, rfl, ha, hvs⟩ := th_tup hv'
        cases hvs with
        | @cons vh vr _ _ d1 d2 =>
          obtain ⟨rfl, _⟩ := th_at d1
          refine ⟨fun σ' H' => σ' = [some (.ref a), some (.ref bl)] ∧ H' = H, ?_, ?_⟩
          · refine ⟨_, rfl, a, _, _, _, rfl, rfl, SqT.of ha, at_head _ _, rfl, _, rfl, ite2 (fun g => ?_) (fun g => ?_)⟩
            · have hw : w0 = "set" := by
                have g' := of_decide_eq_true g
                injection g'
              obtain ⟨x, rfl⟩ := h4.st (.inl hw)
              cases d2 with
              | @cons v2 vr2 _ _ d3 d4 =>
                obtain ⟨rfl, _⟩ := th_at d3
                refine ⟨_, rfl, a, _, _, _, rfl, rfl, SqT.of ha, at_next _ _ _, _, rfl, bl, bs.map V.str, rfl, .inl (SqL.of hbl), rfl, strs_flat bs, _, rfl, ite2 (fun _ => ?_) (fun _ => ⟨rfl, rfl⟩)⟩
                exact k false H (Same.refl _)
            · exact iteF ⟨rfl, rfl⟩
          rintro σ1 H1 ⟨rfl, rfl⟩
          refine ⟨_, rfl, a, _, _, _, rfl, rfl, SqT.of ha, at_head _ _, rfl, _, rfl, ite2 (fun g => ?_) (fun g => ?_)⟩
          · have hw : w0 = "let" := by
              have g' := of_decide_eq_true g
              injection g'
            obtain ⟨⟨x, rfl⟩, hk2⟩ := h3 hw
            match ks, hk2, h6, hv, hv', d2 with
            | [k1, k2], _, h6, hv, hv', d2 =>
              cases d2 with
              | @cons v2 vr2 _ _ d3 d4 =>
                obtain ⟨rfl, _⟩ := th_at d3
                cases d4 with
                | @cons v3 vr3 _ _ d5 d6 =>
                  cases d6 with
                  | @cons v4 vr4 _ _ d7 d8 =>
                    refine ⟨_, rfl, a, _, _, _, rfl, rfl, SqT.of ha, at_2 _ _ _ _, _, rfl, v3, bl, k1, bs, rfl, d5, h6 k1 (by simp), hbl, by omega, fun b1 H2 s2 => ⟨b1, rfl, ?_⟩⟩
                    have ha2 := s2 _ _ ha
                    refine ite2 (fun _ => ?_) (fun _ => k false H2 s2)
                    refine ⟨_, rfl, a, _, _, _, rfl, rfl, SqT.of ha2, at_3 _ _ _ _ _, _, rfl, _, rfl, a, _, _, _, rfl, rfl, SqT.of ha2, at_next _ _ _, (by show 1 ≤ sizeLine; decide), fun c hc => ?_⟩
                    have sc := same_upd (o := .lst [.str x]) hc
                    refine ⟨bl, c, bs.map V.str, [.str x], rfl, rfl, sc _ _ (s2 _ _ hbl), upd_same, (by rw [List.length_map]; show _ + 1 ≤ _; omega), fun q hq => ?_⟩
                    have sq := same_upd (o := .lst (bs.map V.str ++ [.str x])) hq
                    have sA := (s2.trans sc).trans sq
                    refine ⟨v4, q, k2, bs ++ [x], rfl, IsTh.kp (Kp.of sA) d7, h6 k2 (by simp), ?_, by rw [List.length_append]; show _ + 1 + _ ≤ _; omega, fun b2 H3 s3 => k b2 H3 (sA.trans s3)⟩
                    rw [upd_same, List.map_append]
                    rfl
          · refine ⟨_, rfl, .ref a, w0, hd.map Th.at ++ ks, rfl, hv, by rw [List.length_append, List.length_map]; omega, fun p ws H2 s1 hp0 hp hws => ?_⟩
            rw [kids_of nk] at hws
            have hl := IsThs.len _ hws
            refine ⟨p, rfl, ⟨_, SqL.of hp⟩, comp_list (K := K) (a := p) (xs := ws) (fun i ys σc H' => ∃ (o : Option V) (ms : List Bool), σc = [some (.ref bl), o] ∧ ys = ms.map V.bl ∧ ms.length = i ∧ Same H2 H')
              ⟨none, [], rfl, rfl, rfl, Same.refl _⟩ (fun i ys σc H' ⟨_, _, _, _, _, e⟩ => SqL.of (e _ _ hp)) ?_ ?_⟩
            · rintro i x ys σc H' hx hi ⟨o, ms, rfl, rfl, hm, s2⟩
              obtain ⟨t, ht, hxt⟩ := ths_get _ hws hx
              refine ⟨by rw [List.length_map]; omega, ?_⟩
              exact ⟨_, rfl, _, rfl, x, bl, t, bs, rfl, IsTh.kp (Kp.of s2) hxt, h6 t (List.mem_of_getElem? ht), s2 _ _ (s1 _ _ hbl), by omega, fun b1 H3 s3 => nx hi ⟨_, ms ++ [b1], rfl, by rw [List.map_append]; rfl, by rw [List.length_append, hm]; rfl, s2.trans s3⟩⟩
            · rintro ys σc H' ⟨o, ms, rfl, rfl, hm, s2⟩ q hq
              exact ⟨q, ms, rfl, SqL.of upd_same, k _ _ (s1.trans (s2.trans (same_upd (o := .lst (ms.map V.bl)) hq)))⟩
end
end K54

set_option Elab.async false
set_option linter.all false
set_option maxRecDepth 100000
set_option maxHeartbeats 4000000
namespace L2
open PySem PySem.Spec PyProof.Rows
section
variable {X : Cx}
/-! ### l.index(x), a text that is there -/
def rIndexS : V → List V → Hp → VK → Prop := fun x vs H Q => ∃ (l : Addr) (ns : List Str) (i : Str) (j : Nat), x = .ref l ∧ vs = [.str i] ∧ H l = some (.lst (ns.map V.str)) ∧ ns[j]? = some i ∧ (∀ m, m < j → ns[m]? ≠ some i) ∧ Q (.int (j : Nat)) H
theorem mt_indexS : MtR X "list.index" rIndexS := by
  intro pins s σ H x vs v us Q I rx rv h
  obtain ⟨l, ns, i, j, rfl, rfl, hH, hj, hno, q⟩ := h
  cases rx
  obtain ⟨u, rfl, ru⟩ := rv.one
  obtain ⟨tk, rfl⟩ := ru
  obtain ⟨z, its, n, r, hl, e⟩ := I.lstM hH
  have hlen : its.length = ns.length := by
    have := r.length
    rw [List.length_map] at this
    exact this.symm
  have at' : ∀ (m : Nat) (y : Value), its[m]? = some y → ∃ k t, ns[m]? = some k ∧ y = .str k t := by
    intro m y hy
    have hm : m < ns.length := by
      rw [← hlen]
      exact (List.getElem?_eq_some_iff.mp hy).1
    obtain ⟨u2, f2, r2⟩ := r.get (i := m) (x := .str ns[m]) (by rw [List.getElem?_map, List.getElem?_eq_getElem hm]; rfl)
    rw [hy] at f2
    cases f2
    obtain ⟨t, rfl⟩ := r2
    exact ⟨_, t, List.getElem?_eq_getElem hm, rfl⟩
  have jl : j < its.length := by
    rw [hlen]
    exact (List.getElem?_eq_some_iff.mp hj).1
  have val : ∀ (m : Nat) (hm : m < its.toArray.size), ∃ k t, ns[m]? = some k ∧ its.toArray[m] = .str k t := fun m hm => by
    simp only [List.size_toArray] at hm
    obtain ⟨k, t, a1, a2⟩ := at' m its[m] (List.getElem?_eq_getElem hm)
    exact ⟨k, t, a1, by simpa using a2⟩
  have hsz : sizeLine = 16777216 := sizeLine_eq
  refine call_meets F.slot_list_index ⟨_, e, rfl⟩ F.entry_list_index (F.args_list_index_2 _ _) (SeqAt.list_indexAt l its.toArray n none #[] (.str i tk) (fun y => match y with | .str k _ => k == i | _ => false) j (by simpa using jl) (by
    rw [List.length_map] at z
    omega) ?_ ?_) ⟨e, ?_, ?_⟩
  · obtain ⟨k, t, a1, a2⟩ := val j (by simpa using jl)
    rw [a2]
    rw [hj] at a1
    cases a1
    exact beq_self_eq_true _
  · intro m hm hmj
    obtain ⟨k, t, a1, a2⟩ := val m hm
    rw [a2]
    show (k == i) = false
    rw [beq_eq_false_iff_ne]
    intro w
    subst w
    exact hno m hmj a1
  · intro y hy
    obtain ⟨m, hm, rfl⟩ := Array.mem_iff_getElem.mp hy
    obtain ⟨k, t, a1, a2⟩ := val m hm
    rw [a2]
    exact eqAt_V (y := .str k) (x := .str i) ⟨t, rfl⟩ ⟨tk, rfl⟩ rfl rfl
  · exact ⟨.int (j : Nat), H, I.tok _, ⟨_, rfl⟩, q⟩
end
end L2

set_option Elab.async false
set_option linter.all false
set_option maxRecDepth 100000
set_option maxHeartbeats 4000000
namespace K54
open PySem L2
def spTurned (S : List Str) (N : Nat) : Sp := fun vs H Q _ => ∃ (v : V) (na oa : Addr) (t : Th) (T1 T2 : List Str), vs = [v, .ref na, .ref oa] ∧ IsTh H v t ∧ PfT S N t ∧ H na = some (.lst (T1.map V.str)) ∧ H oa = some (.lst (T2.map V.str)) ∧ T1.length = T2.length ∧ T1.length ≤ 1000 ∧ (∀ x ∈ T2, Nm x) ∧
  ∀ (v' : V) (t' : Th) H', Same H H' → IsTh H' v' t' → PfT S N t' → cnt t' = cnt t → Q v' H'
theorem nd_nop : (["_law_names_here", "_law_others", "_law_part"] : List Str).Nodup := by decide +kernel
theorem inV_two (x : Str) : inV (.str x) [.str "name", .str "set"] = true ↔ x = "name" ∨ x = "set" := by
  have e : [V.str "name", .str "set"] = (["name", "set"] : List Str).map V.str := rfl
  rw [e, inV_strs]
  simp
theorem first_at {x : Str} : ∀ {T : List Str}, x ∈ T → ∃ j : Nat, T[j]? = some x ∧ ∀ q : Nat, q < j → T[q]? ≠ some x := by
  intro T
  induction T with
  | nil => intro h; cases h
  | cons y T ih =>
    intro h
    by_cases e : y = x
    · exact ⟨0, by rw [e]; rfl, fun q hq => by omega⟩
    · rcases List.mem_cons.mp h with z | z
      · exact absurd z.symm e
      · obtain ⟨j, h1, h2⟩ := ih z
        refine ⟨j + 1, h1, fun q hq => ?_⟩
        cases q with
        | zero => intro w; exact e (by simpa using w)
        | succ q => exact h2 q (by omega)
section
variable {S : List Str} {P : Program} {w : World} {K : PySem.W.Frag} {mg : Str → Option Value} {base : Heap}
theorem scTurned : FnScope ["_law_e", "_law_names_here", "_law_others"] ["_law_e", "_law_names_here", "_law_others"] (defScope sTurned) := ⟨rfl, rfl, rfl, by decide +kernel, rfl, by decide +kernel, by decide +kernel⟩
theorem ok_turned {f fP fW : Addr} {fd dP dW : FuncData} (F : Fun K "_law_turned" "_law_turned" sTurned f fd) (b : Binds K fd ["_law_e", "_law_names_here", "_law_others"] []) (m : mg "_law_turned" = some (.ref f)) (U : HW K mg fP fW dP dW) :
    ∀ N, FnOk P w K mg base CX0 (N + 2) f fd ["_law_e", "_law_names_here", "_law_others"] (spTurned S N) := by
  have GP : FnOk P w K mg base CX0 1 fP dP ["_law_e"] spLawParts := ok_lawparts U.P U.T U.KI
  have GW : FnOk P w K mg base CX0 1 fW dW ["_law_e", "_law_inner"] spWith := ok_with U.W U.T U.KI
  intro N
  induction N with
  | zero =>
    refine F.ok scTurned (fun vs H Q E h => ?_) (fun cdv A outer s H vs Q E hr h => ?_)
    · obtain ⟨v, na, oa, t, T1, T2, rfl, _⟩ := h
      rfl
    · obtain ⟨v, na, oa, t, T1, T2, rfl, _, h, _⟩ := h
      exact h.elim
  | succ N ih =>
    refine F.ok scTurned (fun vs H Q E h => ?_) (fun cdv A outer s H vs Q E hr h => ?_)
    · obtain ⟨v, na, oa, t, T1, T2, rfl, _⟩ := h
      rfl
    · obtain ⟨v, na, oa, t, T1, T2, rfl, hv, hD, hna, hoa, hTl, hT1, hlo, k⟩ := h
      have hsz : sizeLine = 16777216 := sizeLine_eq
      have hr1 : Room 1 _ := hr.mono (by omega)
      refine' ⟨?tt, ?body, ?fin⟩
      case body =>
        refine' pss_cut ?s1 (pss_one ?s2)
        case s1 =>
          refine' ps_if ?c (pss_one ?b) pss_nil
          case c => exact (pw_and (pt_cmpR op_in_seq (pe_ix ix_tup (pv 0) pe_int (fun _ _ => rfl)) (pe_tup (pa_k pe_str (pa_k pe_str pa_nil))) (by with_unfolding_all rfl)) (pw_and1 (pt_cmpR op_in_seq (pe_ix ix_tup (pv 0) pe_int (fun _ _ => rfl)) (pv 1) (by with_unfolding_all rfl)))).pt
          case b =>
            refine' ps_set (i := 0) scTurned.nd rfl (Or.inl rfl) (pe_op op_catP (pe_tup (pa_cons (pe_ix ix_tup (pv 0) pe_int (fun _ _ => rfl)) (pa_cons ?x pa_nil))) (pe_slice sl_tupP (pv 0) (po_some pe_int) po_none))
            case x => exact pe_ix ix_list (pv 2) (pe_bm PySem.F.plainAttrs_list PySem.F.slot_list_index PySem.F.type_list_index mt_indexS (pv 1) (pa_cons (pe_ix ix_tup (pv 0) pe_int (fun _ _ => rfl)) pa_nil)) (fun _ _ => rfl)
        case s2 =>
          refine' ps_ret (pe_call GW hr1 (by rfl) U.mW U.W.kp U.bW .nil pass0 (pa_n (pv 0) (pa_cons ?c pa_nil)))
          case c =>
            refine' pe_comp (N' := ["_law_names_here", "_law_others", "_law_part"]) (src := [some 1, some 2, none]) ?k1 ?k5 ?k6 ?k7
            case k1 => rfl
            case k5 => exact compScope_of (defScope sTurned) rfl ["_law_e", "_law_names_here", "_law_others"] rfl (by decide +kernel)
            case k6 => exact pi_list (pe_call GP hr1 (by rfl) U.mP U.P.kp U.bP .nil pass0 (pa_n (pv 0) pa_nil))
            case k7 => exact fun cl C ex s0 H0 => ⟨pg_name (i := 2) nd_nop rfl (Or.inl rfl), pts_nil, pe_call ih hr (by rfl) m F.kp b .nil pass0 (pa_n (pv 2) (pa_n (pv 0) (pa_n (pv 1) pa_nil)))⟩
      case fin =>
        obtain ⟨w0, hd, ks, rfl, h1, h2, h3, h4, h5, h6⟩ := hD
        have nk : ∀ k ∈ ks, L2.isTup k = true := fun k hk => (h6 k hk).isTup
        refine ⟨fun σ' H' => ∃ (a' : Addr) (hd' : List V), σ' = [some (.ref a'), some (.ref na), some (.ref oa)] ∧ Same H H' ∧ IsTh H' (.ref a') (nd w0 hd' ks) ∧ hd'.length ≤ 1 ∧ (∀ v ∈ hd', plT (.at v) = true) ∧ (w0 = "let" → (∃ x : Str, hd' = [.str x]) ∧ ks.length = 2) ∧ HdE S w0 hd' ks.length, ?_, ?_⟩
        · have hv' := hv
          unfold nd at hv'
          obtain ⟨a, vs, rfl, ha, hvs⟩ := th_tup hv'
          cases hvs with
          | @cons vh vr _ _ d1 d2 =>
            obtain ⟨rfl, _⟩ := th_at d1
            refine ⟨_, rfl, a, _, _, _, rfl, rfl, SqT.of ha, at_head _ _, (by show 2 ≤ sizeLine; decide), fun c hc => ?_⟩
            have sc := same_upd (o := .tup [.str "name", .str "set"]) hc
            have stay : ∀ H', Same H H' → ∃ (a' : Addr) (hd' : List V), [some (V.ref a), some (.ref na), some (.ref oa)] = [some (.ref a'), some (.ref na), some (.ref oa)] ∧ Same H H' ∧ IsTh H' (.ref a') (nd w0 hd' ks) ∧ hd'.length ≤ 1 ∧ (∀ v ∈ hd', plT (.at v) = true) ∧ (w0 = "let" → (∃ x : Str, hd' = [.str x]) ∧ ks.length = 2) ∧ HdE S w0 hd' ks.length :=
              fun H' s => ⟨a, hd, rfl, s, IsTh.kp (Kp.of s) hv, h1, h2, h3, h4⟩
            refine ⟨c, [.str "name", .str "set"], rfl, .inr (SqT.of upd_same), rfl, by decide +kernel, _, rfl, ite2 (fun g => ?_) (fun g => iteF (stay _ sc))⟩
            have hw := (inV_two w0).mp g
            obtain ⟨x, rfl⟩ := h4.st (hw.symm)
            cases d2 with
            | @cons v2 vr2 _ _ d3 d4 =>
              obtain ⟨rfl, _⟩ := th_at d3
              have ha2 := sc _ _ ha
              refine ⟨_, rfl, a, _, _, _, rfl, rfl, SqT.of ha2, at_next _ _ _, _, rfl, na, T1.map V.str, rfl, .inl (SqL.of (sc _ _ hna)), rfl, strs_flat T1, _, rfl, ite2 (fun g2 => ?_) (fun g2 => stay _ sc)⟩
              have hxm := (inV_strs x T1).mp g2
              obtain ⟨j, hj, hno⟩ := first_at hxm
              have hjl : j < T1.length := (List.getElem?_eq_some_iff.mp hj).1
              obtain ⟨y, hy⟩ : ∃ y, T2[j]? = some y := ⟨_, List.getElem?_eq_getElem (by omega)⟩
              have hyN := hlo y (List.mem_of_getElem? hy)
              have hyl := nm_lf hyN
              refine ⟨_, rfl, a, _, _, _, rfl, rfl, SqT.of ha2, at_head _ _, _, rfl, _, rfl, .inl ⟨rfl, _, SqL.of (sc _ _ hna)⟩, _, rfl, a, _, _, _, rfl, rfl, SqT.of ha2, at_next _ _ _, na, T1, x, j, rfl, rfl, sc _ _ hna, hj, hno, oa, T2.map V.str, _, .str y, rfl, rfl, SqL.of (sc _ _ hoa), atI_nat (by rw [List.getElem?_map, hy]; rfl), (by show 2 ≤ sizeLine; decide), fun c2 hc2 => ?_⟩
              have s2 := same_upd (o := .tup [.str w0, .str y]) hc2
              refine ⟨_, rfl, 2, rfl, a, _, rfl, s2 _ _ ha2, fun p3 H3 s3 hp3 => ?_⟩
              rw [cut_behind (by decide) (by show 2 ≤ _ + 1 + 1; omega)] at hp3
              have s23 := (sc.trans s2).trans s3
              have hvl := IsThs.len _ d4
              refine ⟨c2, p3, _, _, rfl, rfl, s3 _ _ upd_same, hp3, ?_, fun p4 H4 s4 hp4 => ?_⟩
              · show 2 + vr2.length ≤ sizeLine
                rw [hvl]
                show 2 + (([] : List V).map Th.at ++ ks).length ≤ sizeLine
                rw [List.map_nil, List.nil_append]
                omega
              have s24 := s23.trans s4
              refine ⟨p4, [.str y], rfl, s24, ?_, Nat.le_refl _, ?_, fun z => ⟨⟨y, rfl⟩, (h3 z).2⟩, ⟨fun _ => ⟨y, rfl⟩, fun z => ?_, fun z => ?_, ?_, h4.lw, h4.sh.turn hw hyN⟩⟩
              · unfold nd
                refine .tup hp4 (.cons (.at ?_) (.cons (.at ?_) (IsThs.kp (Kp.of s24) d4)))
                · obtain ⟨_, q⟩ := th_at d1; exact q
                · have h' : (decide (y.length ≤ 16) && y.cps.toList.all fun c => decide (c < 16 ^ 8)) = true := hyl
                  rw [Bool.and_eq_true, decide_eq_true_iff] at h'
                  exact decide_eq_true (by have := h'.1; omega)
              · intro v hv
                rw [List.mem_singleton] at hv
                rw [hv]
                rfl
              · rcases hw with q | q <;> (rw [q] at z; exact absurd z (by decide +kernel))
              · rcases hw with q | q <;> (rw [q] at z; exact absurd z (by decide +kernel))
              · intro v hv
                rw [List.mem_singleton] at hv
                rw [hv]
                exact hyl
        rintro σ1 H1 ⟨a', hd', rfl, s1, ha', g1, g2, g3, g4⟩
        refine ⟨_, rfl, _, rfl, .ref a', w0, hd'.map Th.at ++ ks, rfl, ha', by rw [List.length_append, List.length_map]; omega, fun p ws H2 s2 hp0 hp hws => ?_⟩
        rw [kids_of nk] at hws
        have hl := IsThs.len _ hws
        have s12 := s1.trans s2
        refine ⟨p, rfl, ⟨_, SqL.of hp⟩, comp_list (K := K) (a := p) (xs := ws) (fun i ys σc H' => ∃ (o : Option V) (us : List Th), σc = [some (.ref na), some (.ref oa), o] ∧ IsThs H' ys us ∧ us.length = i ∧ (∀ u ∈ us, PfT S N u) ∧ cnts us = cnts (ks.take i) ∧ Same H2 H')
          ⟨none, [], rfl, .nil, rfl, (fun _ q => by cases q), by rw [List.take_zero], Same.refl _⟩ (fun i ys σc H' ⟨_, _, _, _, _, _, _, e⟩ => SqL.of (e _ _ hp)) ?_ ?_⟩
        · rintro i x ys σc H' hx hi ⟨o, us, rfl, hys, hul, hup, huc, s3⟩
          obtain ⟨t, ht, hxt⟩ := ths_get _ hws hx
          have hyl := IsThs.len _ hys
          refine ⟨by omega, ?_⟩
          refine ⟨_, rfl, _, rfl, _, rfl, x, na, oa, t, T1, T2, rfl, IsTh.kp (Kp.of s3) hxt, h6 t (List.mem_of_getElem? ht), s3 _ _ (s12 _ _ hna), s3 _ _ (s12 _ _ hoa), hTl, hT1, hlo, fun v' t' H3 s4 hv4 pf4 c4 => nx hi ⟨_, us ++ [t'], rfl, IsThs.app _ (IsThs.kp (Kp.of s4) hys) (.cons hv4 .nil), by rw [List.length_append, hul]; rfl, ?_, ?_, s3.trans s4⟩⟩
          · intro u hu
            rcases List.mem_append.mp hu with q | q
            · exact hup u q
            · rw [List.mem_singleton] at q; rw [q]; exact pf4
          · rw [cnts_snoc, huc, c4, List.take_add_one, ht]
            exact (cnts_snoc _ _).symm
        · rintro ys σc H' ⟨o, us, rfl, hys, hul, hup, huc, s3⟩ q hq
          rw [List.take_of_length_le (by omega)] at huc
          have s4 := same_upd (o := .lst ys) hq
          have sA := (s2.trans s3).trans s4
          refine ⟨.ref a', q, _, us, ys, rfl, IsTh.kp (Kp.of sA) ha', by rw [List.length_cons, List.length_append, List.length_map]; omega, upd_same, IsThs.kp (Kp.of s4) hys, by omega, fun r H4 s5 hr4 => ?_⟩
          rw [lead_nd nk] at hr4
          have nu : ∀ k ∈ us, L2.isTup k = true := fun k hk => (hup k hk).isTup
          refine k _ _ H4 ((s1.trans sA).trans s5) hr4 ⟨w0, hd', us, rfl, g1, g2, fun z => ⟨(g3 z).1, by rw [hul, ← (g3 z).2]; omega⟩, (by rw [show us.length = ks.length by omega]; exact g4), by omega, hup⟩ ?_
          rw [cnt_nd nu, cnt_nd nk, huc]
end
end K54

set_option Elab.async false
set_option linter.all false
set_option maxRecDepth 100000
set_option maxHeartbeats 4000000
namespace K54
open PySem L2
/-! the world that an expression is drawn in -/
structure WA where
  nm : Addr
  lt : Addr
  fn : Addr
  wo : Addr
  sd : Addr
def worldKV (a : WA) (r z : Int) : List (Key × V) := [(Sum.inr "names", .ref a.nm), (Sum.inr "lets", .ref a.lt), (Sum.inr "functions", .ref a.fn), (Sum.inr "works", .ref a.wo), (Sum.inr "seeds", .ref a.sd), (Sum.inr "room", .int r), (Sum.inr "toil", .int z), (Sum.inr "takes", .bl true)]
section
variable {H : Hp} {wd : Addr} {a : WA} {r z q : Int}
theorem wget_names (e : H wd = some (.dK (worldKV a r z))) : DGet H wd (.str "names") (some (.ref a.nm)) := by
  have y := DGet.k (k := Sum.inr "names") e
  rw [show valV (worldKV a r z) (Sum.inr "names") = some (.ref a.nm) by with_unfolding_all rfl] at y
  exact y
theorem wget_lets (e : H wd = some (.dK (worldKV a r z))) : DGet H wd (.str "lets") (some (.ref a.lt)) := by
  have y := DGet.k (k := Sum.inr "lets") e
  rw [show valV (worldKV a r z) (Sum.inr "lets") = some (.ref a.lt) by with_unfolding_all rfl] at y
  exact y
theorem wget_functions (e : H wd = some (.dK (worldKV a r z))) : DGet H wd (.str "functions") (some (.ref a.fn)) := by
  have y := DGet.k (k := Sum.inr "functions") e
  rw [show valV (worldKV a r z) (Sum.inr "functions") = some (.ref a.fn) by with_unfolding_all rfl] at y
  exact y
theorem wget_works (e : H wd = some (.dK (worldKV a r z))) : DGet H wd (.str "works") (some (.ref a.wo)) := by
  have y := DGet.k (k := Sum.inr "works") e
  rw [show valV (worldKV a r z) (Sum.inr "works") = some (.ref a.wo) by with_unfolding_all rfl] at y
  exact y
theorem wget_seeds (e : H wd = some (.dK (worldKV a r z))) : DGet H wd (.str "seeds") (some (.ref a.sd)) := by
  have y := DGet.k (k := Sum.inr "seeds") e
  rw [show valV (worldKV a r z) (Sum.inr "seeds") = some (.ref a.sd) by with_unfolding_all rfl] at y
  exact y
theorem wget_room (e : H wd = some (.dK (worldKV a r z))) : DGet H wd (.str "room") (some (.int r)) := by
  have y := DGet.k (k := Sum.inr "room") e
  rw [show valV (worldKV a r z) (Sum.inr "room") = some (.int r) by with_unfolding_all rfl] at y
  exact y
theorem wget_toil (e : H wd = some (.dK (worldKV a r z))) : DGet H wd (.str "toil") (some (.int z)) := by
  have y := DGet.k (k := Sum.inr "toil") e
  rw [show valV (worldKV a r z) (Sum.inr "toil") = some (.int z) by with_unfolding_all rfl] at y
  exact y
theorem wget_takes (e : H wd = some (.dK (worldKV a r z))) : DGet H wd (.str "takes") (some (.bl true)) := by
  have y := DGet.k (k := Sum.inr "takes") e
  rw [show valV (worldKV a r z) (Sum.inr "takes") = some (.bl true) by with_unfolding_all rfl] at y
  exact y
theorem wset_room (e : H wd = some (.dK (worldKV a r z))) : DPut H wd (.str "room") (.int q) (upd H wd (.dK (worldKV a q z))) := by
  have y := DPut.k (k := Sum.inr "room") (v := .int q) e (by show 8 < sizeLine; decide)
  rw [show putK (worldKV a r z) (Sum.inr "room") (.int q) = worldKV a q z by with_unfolding_all rfl] at y
  exact y
theorem wset_toil (e : H wd = some (.dK (worldKV a r z))) : DPut H wd (.str "toil") (.int q) (upd H wd (.dK (worldKV a r q))) := by
  have y := DPut.k (k := Sum.inr "toil") (v := .int q) e (by show 8 < sizeLine; decide)
  rw [show putK (worldKV a r z) (Sum.inr "toil") (.int q) = worldKV a r q by with_unfolding_all rfl] at y
  exact y
theorem wset_seeds {s2 : Addr} (e : H wd = some (.dK (worldKV a r z))) : DPut H wd (.str "seeds") (.ref s2) (upd H wd (.dK (worldKV { a with sd := s2 } r z))) := by
  have y := DPut.k (k := Sum.inr "seeds") (v := .ref s2) e (by show 8 < sizeLine; decide)
  rw [show putK (worldKV a r z) (Sum.inr "seeds") (.ref s2) = worldKV { a with sd := s2 } r z by with_unfolding_all rfl] at y
  exact y
end
theorem world_ne {H : Hp} {d wd l : Addr} {a : WA} {ns : List Int} {n : Nat} {r z : Int} (F : Feed H d l ns n) (W : H wd = some (.dK (worldKV a r z))) : wd ≠ d := by
  obtain ⟨⟨y, hd⟩, _, _⟩ := F
  refine ne_of W hd (fun q => ?_)
  injection q with q
  have h1 := congrArg List.length q
  cases h1
/-- all but these two stays -/
def But2 (d e : Addr) (H H' : Hp) : Prop := ∀ b o, H b = some o → b ≠ d → b ≠ e → H' b = some o
theorem But2.refl (d e : Addr) (H : Hp) : But2 d e H H := fun _ _ h _ _ => h
theorem But2.trans {d e : Addr} {H H1 H2 : Hp} (a : But2 d e H H1) (b : But2 d e H1 H2) : But2 d e H H2 := fun c o h n m => b c o (a c o h n m) n m
theorem But2.of {d e : Addr} {H H1 : Hp} (a : But d H H1) : But2 d e H H1 := fun c o h n _ => a c o h n
theorem But2.same {d e : Addr} {H H1 : Hp} (a : Same H H1) : But2 d e H H1 := fun c o h _ _ => a c o h
theorem But2.upd {d e : Addr} {H : Hp} {o : HO} : But2 d e H (upd H e o) := fun c u h _ n => by rw [upd_ne n]; exact h
theorem But2.kp {d e l : Addr} {ns : List Int} {n : Nat} {kvs : List (Key × V)} {H H' : Hp} (b : But2 d e H H') (F : Feed H d l ns n) (W : H e = some (.dK kvs)) : Kp H H' := by
  obtain ⟨⟨z, hd⟩, _, _⟩ := F
  intro a o h hk
  exact b a o h (fun q => by subst q; rw [hd] at h; cases h; exact hk _ rfl) (fun q => by subst q; rw [W] at h; cases h; exact hk _ rfl)
theorem Feed.world {H : Hp} {d wd l : Addr} {a a2 : WA} {ns : List Int} {n : Nat} {r z r2 z2 : Int} (F : Feed H d l ns n) (W : H wd = some (.dK (worldKV a r z))) : Feed (L2.upd H wd (.dK (worldKV a2 r2 z2))) d l ns n := by
  have hne := world_ne F W
  obtain ⟨⟨y, hd⟩, hl, hs⟩ := F
  refine ⟨⟨y, by rw [upd_ne hne.symm]; exact hd⟩, ?_, hs⟩
  rw [upd_ne (ne_of hl W (by intro q; cases q))]
  exact hl
/-- what the world's lists hold -/
structure WI where
  T1 : List Str
  T2 : List Str
  fv : List V
  sv : List V
  ss : List Th
  ρ : Str → Int
  kvs : List (Key × V)
structure Wf (S : List Str) (M : Nat) (H : Hp) (d wd : Addr) (a : WA) (i : WI) : Prop where
  nm : H a.nm = some (.lst (i.T1.map V.str))
  lt : H a.lt = some (.lst (i.T2.map V.str))
  fn : H a.fn = some (.lst i.fv)
  fe : ∀ v ∈ i.fv, ∃ (c : Addr) (x : Str) (m : Int), v = .ref c ∧ H c = some (.tup [.str x, .int m]) ∧ x ∈ S ∧ Nm x ∧ 0 ≤ m ∧ m ≤ 6
  wo : H a.wo = some (.dK i.kvs)
  wk : Works S i.ρ i.kvs
  o1 : a.wo ≠ d
  o2 : a.wo ≠ wd
  sd : H a.sd = some (.lst i.sv)
  ss : IsThs H i.sv i.ss
  sp : ∀ t ∈ i.ss, PfT S M t
  n1 : 1 ≤ i.T1.length
  n2 : i.T1.length ≤ 10
  l2 : i.T2.length ≤ 10
  f2 : i.fv.length ≤ 10
  s2 : i.sv.length ≤ 10
  an : ∀ t ∈ i.T1, Nm t
  bn : ∀ t ∈ i.T2, Nm t
theorem Wf.go {S : List Str} {M : Nat} {H H' : Hp} {d wd : Addr} {a : WA} {i : WI} (h : Wf S M H d wd a i) (k : Kp H H') (b : But2 d wd H H') : Wf S M H' d wd a i :=
  ⟨k _ _ h.nm (fun _ z => by cases z), k _ _ h.lt (fun _ z => by cases z), k _ _ h.fn (fun _ z => by cases z), fun v hv => let ⟨c, x, m, h1, h2, h3⟩ := h.fe v hv; ⟨c, x, m, h1, k _ _ h2 (fun _ z => by cases z), h3⟩, b _ _ h.wo h.o1 h.o2, h.wk, h.o1, h.o2, k _ _ h.sd (fun _ z => by cases z), IsThs.kp k h.ss, h.sp, h.n1, h.n2, h.l2, h.f2, h.s2, h.an, h.bn⟩
/-- what stands between two statements -/
structure Ctx (S : List Str) (M : Nat) (H H' : Hp) (d l wd : Addr) (a : WA) (i : WI) (bd : Addr) (bs : List Str) (ns : List Int) (n : Nat) (r z : Int) : Prop where
  F : Feed H' d l ns n
  W : H' wd = some (.dK (worldKV a r z))
  N : Wf S M H' d wd a i
  B : H' bd = some (.lst (bs.map V.str))
  bl : bs.length ≤ 100
  bn : ∀ t ∈ bs, Nm t
  b2 : But2 d wd H H'
section
variable {S : List Str} {M : Nat} {H H1 H2 : Hp} {d l wd : Addr} {a : WA} {i : WI} {bd : Addr} {bs : List Str} {ns : List Int} {n n2 : Nat} {r r2 z z2 : Int}
theorem Ctx.go (C : Ctx S M H H1 d l wd a i bd bs ns n r z) (b : But2 d wd H1 H2) (F2 : Feed H2 d l ns n2) (W2 : H2 wd = some (.dK (worldKV a r2 z2))) : Ctx S M H H2 d l wd a i bd bs ns n2 r2 z2 :=
  ⟨F2, W2, C.N.go (b.kp C.F C.W) b, b.kp C.F C.W _ _ C.B (fun _ z => by cases z), C.bl, C.bn, C.b2.trans b⟩
theorem Ctx.draw (C : Ctx S M H H1 d l wd a i bd bs ns n r z) (b : But d H1 H2) (F2 : Feed H2 d l ns n2) : Ctx S M H H2 d l wd a i bd bs ns n2 r z :=
  C.go (But2.of b) F2 (b wd _ C.W (world_ne C.F C.W))
theorem Ctx.same (C : Ctx S M H H1 d l wd a i bd bs ns n r z) (s : Same H1 H2) : Ctx S M H H2 d l wd a i bd bs ns n r z :=
  C.go (But2.same s) (C.F.same s) (s _ _ C.W)
theorem Ctx.put (C : Ctx S M H H1 d l wd a i bd bs ns n r z) : Ctx S M H (upd H1 wd (.dK (worldKV a r2 z2))) d l wd a i bd bs ns n r2 z2 :=
  C.go But2.upd (C.F.world C.W) upd_same
theorem Ctx.zero (C : Ctx S M H H1 d l wd a i bd bs ns n r z) : Ctx S M H1 H1 d l wd a i bd bs ns n r z := ⟨C.F, C.W, C.N, C.B, C.bl, C.bn, But2.refl _ _ _⟩
theorem Ctx.bind (C : Ctx S M H H1 d l wd a i bd bs ns n r z) {b2 : Addr} {bs2 : List Str} (h : H1 b2 = some (.lst (bs2.map V.str))) (hl : bs2.length ≤ 100) (hn : ∀ t ∈ bs2, Nm t) : Ctx S M H H1 d l wd a i b2 bs2 ns n r z := ⟨C.F, C.W, C.N, h, hl, hn, C.b2⟩
theorem Ctx.tail (C : Ctx S M H H1 d l wd a i bd bs ns n r z) {H0 : Hp} (b : But2 d wd H0 H) : Ctx S M H0 H1 d l wd a i bd bs ns n r z := ⟨C.F, C.W, C.N, C.B, C.bl, C.bn, b.trans C.b2⟩
end
theorem nm_small {t : Str} (h : Nm t) : smallV (.str t) = true := decide_eq_true (Nat.le_trans h.1.2 (by decide))
def spWorld : Sp := fun vs H Q _ => ∃ (nm lt fn wo : Addr) (r z : Int), vs = [.ref nm, .ref lt, .ref fn, .ref wo, .int r, .int z] ∧ ∀ (wd sd : Addr) H', Same H H' → H wd = none → H sd = none → H' wd = some (.dK (worldKV ⟨nm, lt, fn, wo, sd⟩ r z)) → H' sd = some (.lst []) → Q (.ref wd) H'
def LeafT (S : List Str) (t : Th) : Prop := PfT S 1 t ∧ cnt t = 1
def spLeaf (S : List Str) (M : Nat) : Sp := fun vs H Q _ => ∃ (d l wd : Addr) (a : WA) (i : WI) (bd : Addr) (bs : List Str) (ns : List Int) (n : Nat) (r z : Int), vs = [.ref d, .ref wd, .ref bd] ∧ n ≤ 800000000000 ∧ Ctx S M H H d l wd a i bd bs ns n r z ∧
  ∀ (v : V) (t : Th) n' H', IsTh H' v t → LeafT S t → n' ≤ n + 4 → Ctx S M H H' d l wd a i bd bs ns n' r z → Q v H'
theorem leaf1 {S : List Str} : LeafT S (nd "take" [] []) := by
  refine ⟨⟨"take", [], [], rfl, Nat.zero_le _, fun v hv => (by cases hv), fun z => absurd z (by decide +kernel), ⟨fun z => z.elim (fun q => absurd q (by decide +kernel)) (fun q => absurd q (by decide +kernel)), fun z => absurd z (by decide +kernel), fun z => absurd z (by decide +kernel), fun v hv => (by cases hv), by decide +kernel, .take⟩, Nat.zero_le _, fun k hk => (by cases hk)⟩, ?_⟩
  rw [cnt_nd (fun k hk => by cases hk)]; simp [cnts]
theorem leaf2 {S : List Str} {i : Int} (h0 : 0 ≤ i) (h1 : i ≤ 1000000000) : LeafT S (nd "num" [.int i] []) := by
  refine ⟨⟨"num", [.int i], [], rfl, Nat.le_refl _, fun u hu => (by rw [List.mem_singleton] at hu; rw [hu]; rfl), fun z => absurd z (by decide +kernel), ⟨fun z => z.elim (fun q => absurd q (by decide +kernel)) (fun q => absurd q (by decide +kernel)), fun z => absurd z (by decide +kernel), fun z => absurd z (by decide +kernel), fun v hv => (by rw [List.mem_singleton] at hv; rw [hv]; exact decide_eq_true (by omega)), by decide +kernel, .num h0 h1⟩, Nat.zero_le _, fun k hk => (by cases hk)⟩, ?_⟩
  rw [cnt_nd (fun k hk => by cases hk)]; simp [cnts]
theorem leaf3 {S : List Str} {x : Str} (h : Nm x) : LeafT S (nd "name" [.str x] []) := by
  refine ⟨⟨"name", [.str x], [], rfl, Nat.le_refl _, fun u hu => (by rw [List.mem_singleton] at hu; rw [hu]; rfl), fun z => absurd z (by decide +kernel), ⟨fun z => ⟨x, rfl⟩, fun z => absurd z (by decide +kernel), fun z => absurd z (by decide +kernel), fun v hv => (by rw [List.mem_singleton] at hv; rw [hv]; exact nm_lf h), by decide +kernel, .name h⟩, Nat.zero_le _, fun k hk => (by cases hk)⟩, ?_⟩
  rw [cnt_nd (fun k hk => by cases hk)]; simp [cnts]
section
variable {S : List Str} {M : Nat} {P : Program} {w : World} {K : PySem.W.Frag} {mg : Str → Option Value} {base : Heap}
theorem scWorld : FnScope ["_law_names_here", "_law_lets", "_law_functions", "_law_works", "_law_room", "_law_toil"] ["_law_names_here", "_law_lets", "_law_functions", "_law_works", "_law_room", "_law_toil"] (defScope sWorld) := ⟨rfl, rfl, rfl, by decide +kernel, rfl, by decide +kernel, by decide +kernel⟩
theorem ok_world {f : Addr} {fd : FuncData} (F : Fun K "_law_world" "_law_world" sWorld f fd) : FnOk P w K mg base CX0 1 f fd ["_law_names_here", "_law_lets", "_law_functions", "_law_works", "_law_room", "_law_toil"] spWorld := by
  refine F.ok scWorld (fun vs H Q E h => ?_) (fun cdv A outer s H vs Q E hr h => ?_)
  · obtain ⟨nm, lt, fn, wo, r, z, rfl, _⟩ := h
    rfl
  · obtain ⟨nm, lt, fn, wo, r, z, rfl, k⟩ := h
    refine ⟨_, pss_one (ps_ret (pe_disp (pps_cons pe_str (pv 0) (pps_cons pe_str (pv 1) (pps_cons pe_str (pv 2) (pps_cons pe_str (pv 3) (pps_cons pe_str (pe_lst pa_nil) (pps_cons pe_str (pv 4) (pps_cons pe_str (pv 5) (pps_cons pe_str pe_bl pps_nil)))))))) rfl rfl (by intro z; cases z) (by decide))), ?_⟩
    intro wd hwd
    have sw := same_upd (o := .dK []) hwd
    refine ⟨_, rfl, _, rfl, _, rfl, _, rfl, Nat.zero_le _, fun sd hsd => ?_⟩
    have hsn : sd ≠ wd := fun z => by rw [z, upd_same] at hsd; cases hsd
    have sb := same_upd (o := .lst []) hsd
    refine ⟨_, rfl, _, rfl, sb _ _ upd_same, worldKV ⟨nm, lt, fn, wo, sd⟩ r z, rfl, by show 8 ≤ 15; decide, ?_⟩
    have em : mergeK [] (worldKV ⟨nm, lt, fn, wo, sd⟩ r z) = worldKV ⟨nm, lt, fn, wo, sd⟩ r z := by with_unfolding_all rfl
    rw [em]
    refine k wd sd _ (fun b ob e => ?_) hwd (same_none sw hsd) upd_same ?_
    · rw [upd_ne (ne_of_none e hwd)]
      exact sb _ _ (sw _ _ e)
    · rw [upd_ne hsn]
      exact upd_same
theorem scLeaf : FnScope ["_law_feed_here", "_law_world_here", "_law_bound_here", "_law_way", "_law_some"] ["_law_feed_here", "_law_world_here", "_law_bound_here"] (defScope sLeaf) := ⟨rfl, rfl, rfl, by decide +kernel, rfl, by decide +kernel, by decide +kernel⟩
theorem ok_leaf {f fV fD fS : Addr} {fd dV dD dS : FuncData} (F : Fun K "_law_leaf" "_law_leaf" sLeaf f fd) (U : Helpers K mg fD fS dD dS) (FV : Fun K "_law_value" "_law_value" sLawValue fV dV) (bV : Binds K dV ["_law_feed_here"] []) (mV : mg "_law_value" = some (.ref fV)) :
    FnOk P w K mg base CX0 3 f fd ["_law_feed_here", "_law_world_here", "_law_bound_here"] (spLeaf S M) := by
  have GD : FnOk P w K mg base CX0 1 fD dD ["_law_feed_here", "_law_many"] spDraw := ok_draw U.D U.T
  have GV : FnOk P w K mg base CX0 2 fV dV ["_law_feed_here"] spValue := ok_value FV U
  refine F.ok scLeaf (fun vs H Q E h => ?_) (fun cdv A outer s H vs Q E hr h => ?_)
  · obtain ⟨d, l, wd, a, i, bd, bs, ns, n, r, z, rfl, _⟩ := h
    rfl
  · obtain ⟨d, l, wd, a, i, bd, bs, ns, n, r, z, rfl, hn, C0, k⟩ := h
    have hsz : sizeLine = 16777216 := sizeLine_eq
    have hu : (_ : Around).units + 1 < cLine := Nat.lt_of_le_of_lt (Nat.add_le_add_left (by decide) _) hr.units
    have hu0 := hr.units0
    have hr1 : Room 1 _ := hr.mono (by decide)
    have hr2 : Room 2 _ := hr.mono (by decide)
    refine' ⟨?tt, ?body, ?fin⟩
    case body =>
      refine' pss_cons ?s1 ?r1
      case s1 => exact ps_set (i := 3) scLeaf.nd rfl (Or.inl rfl) (pe_call GD hr1 (by rfl) U.mD U.D.kp U.bD .nil pass0 (pa_n (pv 0) (pa_k pe_int pa_nil)))
      case r1 =>
        refine' pss_cut ?s2 ?r2
        case s2 =>
          refine' ps_if ?c (pss_one ?b) pss_nil
          case c => exact (pw_and (pt_cmpR op_eq (pv 3) pe_int (nomark _)) (pw_and1 (pt_val (pe_dget hu (pv 1) pe_str (fun _ _ => rfl))))).pt
          case b => exact ps_ret (pe_tup (pa_k pe_str pa_nil))
        case r2 =>
          refine' pss_cons ?s3 ?r3
          case s3 => exact ps_set (i := 4) scLeaf.nd rfl (Or.inl rfl) (pe_op op_cat (pe_op op_cat (pe_dget hu (pv 1) pe_str (fun _ _ => rfl)) (pv 2)) (pv 2))
          case r3 =>
            refine' pss_cons ?s4 (pss_one ?s5)
            case s4 =>
              refine' ps_if ?c (pss_one ?b) pss_nil
              case c => exact (pw_or (pt_cmpR op_lt (pv 3) pe_int (nomark _)) (pw_or1 (pt_cmpR (op_eq_nil hu0) (pv 4) (pe_lst pa_nil) (nomark _)))).pt
              case b => exact ps_ret (pe_tup (pa_k pe_str (pa_c (pe_call GV hr2 (by rfl) mV FV.kp bV .nil pass0 (pa_n (pv 0) pa_nil)) pa_nil)))
            case s5 =>
              refine' ps_ret (pe_tup (pa_k pe_str (pa_cons ?x pa_nil)))
              case x => exact pe_ix ix_list (pv 4) (pe_call GD hr1 (by rfl) U.mD U.D.kp U.bD .nil pass0 (pa_n (pv 0) (pa_c (pe_callB call_len_seq (by rfl) U.T.len PySem.boot_len (pa_n (pv 4) pa_nil)) pa_nil))) (fun _ _ => rfl)
    case fin =>
      refine ⟨_, rfl, d, l, ns, n, _, rfl, C0.F, by omega, by decide, by decide, fun way n1 H1 w0 w1 hn1 F1 b1 => ?_⟩
      have C1 := C0.draw b1 F1
      refine ⟨fun σ' H' => σ' = [some (.ref d), some (.ref wd), some (.ref bd), some (.int way), none] ∧ H' = H1, ?_, ?_⟩
      · refine ⟨_, rfl, rfl, _, rfl, ite2 (fun g => ?_) (fun g => iteF ⟨rfl, rfl⟩)⟩
        refine ⟨_, rfl, wd, .bl true, rfl, wget_takes C1.W, true, rfl, iteT ?_⟩
        refine ⟨(by show 1 ≤ sizeLine; decide), fun p hp => ?_⟩
        exact k (.ref p) (nd "take" [] []) n1 _ (.tup upd_same (.cons (.at (by decide +kernel)) .nil)) leaf1 (by omega) (C1.same (same_upd hp))
      rintro σ2 H2 ⟨rfl, rfl⟩
      have n2 := C1.N.n2
      have n1' := C1.N.n1
      have bl := C1.bl
      refine ⟨_, rfl, wd, .ref a.nm, rfl, wget_names C1.W, _, rfl, a.nm, bd, i.T1.map V.str, bs.map V.str, rfl, rfl, C1.N.nm, C1.B, by rw [List.length_map, List.length_map]; omega, fun c hc => ?_⟩
      have sc := same_upd (o := .lst (i.T1.map V.str ++ bs.map V.str)) hc
      have C2 := C1.same sc
      refine ⟨_, rfl, c, bd, _, bs.map V.str, rfl, rfl, upd_same, C2.B, by rw [List.length_append, List.length_map, List.length_map]; omega, fun e he => ?_⟩
      have se := same_upd (o := .lst (i.T1.map V.str ++ bs.map V.str ++ bs.map V.str)) he
      have C3 := C2.same se
      have hE : upd (upd H2 c (.lst (i.T1.map V.str ++ bs.map V.str))) e (.lst (i.T1.map V.str ++ bs.map V.str ++ bs.map V.str)) e = some (.lst (i.T1.map V.str ++ bs.map V.str ++ bs.map V.str)) := upd_same
      have hEl : (i.T1.map V.str ++ bs.map V.str ++ bs.map V.str).length = i.T1.length + bs.length + bs.length := by simp only [List.length_append, List.length_map]
      have hEn : ∀ v ∈ i.T1.map V.str ++ bs.map V.str ++ bs.map V.str, ∃ x, v = .str x ∧ Nm x := by
        intro v hv
        rw [← List.map_append, ← List.map_append] at hv
        obtain ⟨x, hx, rfl⟩ := List.mem_map.mp hv
        refine ⟨x, rfl, ?_⟩
        rcases List.mem_append.mp hx with y | y
        · rcases List.mem_append.mp y with y | y
          · exact C1.N.an x y
          · exact C1.bn x y
        · exact C1.bn x y
      generalize upd (upd H2 c (.lst (i.T1.map V.str ++ bs.map V.str))) e (.lst (i.T1.map V.str ++ bs.map V.str ++ bs.map V.str)) = H3 at C3 hE
      generalize i.T1.map V.str ++ bs.map V.str ++ bs.map V.str = es at hE hEl hEn
      have num : ∀ H4, Ctx S M H H4 d l wd a i bd bs ns n1 r z → spValue [.ref d] H4 (fun v H' => 2 ≤ sizeLine ∧ ∀ p, H' p = none → Q (.ref p) (upd H' p (.tup [.str "num", v]))) E := by
        intro H4 C4
        refine ⟨d, l, ns, n1, rfl, C4.F, by omega, fun j n4 H5 j0 j1 hn4 F4 b4 => ⟨(by decide), fun p hp => ?_⟩⟩
        exact k (.ref p) (nd "num" [.int j] []) n4 _ (.tup upd_same (.cons (.at (by decide +kernel)) (.cons (.at rfl) .nil))) (leaf2 j0 j1) (by omega) ((C4.draw b4 F4).same (same_upd hp))
      refine ⟨_, rfl, _, _, rfl, rfl, _, rfl, ite2 (fun g => iteT ⟨_, rfl, num _ C3⟩) (fun g => ?_)⟩
      refine ⟨_, rfl, Nat.zero_le _, fun q hq => ?_⟩
      have sq := same_upd (o := .lst []) hq
      have C4 := C3.same sq
      have hne : es.isEmpty = false := by
        cases es with
        | nil => rw [List.length_nil] at hEl; omega
        | cons => rfl
      refine ⟨e, q, es, rfl, rfl, SqL.of (sq _ _ hE), SqL.of upd_same, _, rfl, ?_⟩
      rw [hne]
      refine iteF ?_
      have hl : ((es.length : Nat) : Int) = (i.T1.length + bs.length + bs.length : Nat) := by rw [hEl]
      refine ⟨_, rfl, _, rfl, _, rfl, e, es, rfl, .inl (SqL.of (sq _ _ hE)), d, l, ns, n1, _, rfl, C4.F, by omega, by show (0 : Int) < (es.length : Int); omega, by show (es.length : Int) < 18446744073709551616; omega, fun j n5 H5 j0 j1 hn5 F5 b5 => ?_⟩
      obtain ⟨v5, hv5, hat5⟩ := at_in (xs := es) (i := j) j0 j1
      obtain ⟨x, rfl, hx⟩ := hEn v5 hv5
      refine ⟨e, es, j, .str x, rfl, rfl, SqL.of (C4.F.lst b5 (sq _ _ hE)), hat5, (by show 2 ≤ sizeLine; decide), fun p hp => ?_⟩
      exact k (.ref p) (nd "name" [.str x] []) n5 _ (.tup upd_same (.cons (.at (by decide +kernel)) (.cons (.at (nm_small hx)) .nil))) (leaf3 hx) (by omega) ((C4.draw b5 F5).same (same_upd hp))
end
end K54

set_option Elab.async false
set_option linter.all false
set_option maxRecDepth 100000
set_option maxHeartbeats 4000000
namespace K54
open PySem L2
structure Fn (K : PySem.W.Frag) (mg : Str → Option Value) (x : Str) (st : Stmt) (ps : List Str) (f : Addr) (d : FuncData) : Prop where
  F : Fun K x x st f d
  b : Binds K d ps []
  m : mg x = some (.ref f)
/-- where the functions stand that an expression is drawn with -/
structure GenF where
  fD : Addr
  fS : Addr
  fV : Addr
  fL : Addr
  fP : Addr
  fW : Addr
  fN : Addr
  fK : Addr
  fR : Addr
  fT : Addr
  fX : Addr
  dD : FuncData
  dS : FuncData
  dV : FuncData
  dL : FuncData
  dP : FuncData
  dW : FuncData
  dN : FuncData
  dK : FuncData
  dR : FuncData
  dT : FuncData
  dX : FuncData
structure Gen (K : PySem.W.Frag) (mg : Str → Option Value) (g : GenF) : Prop where
  U : Helpers K mg g.fD g.fS g.dD g.dS
  X : HW K mg g.fP g.fW g.dP g.dW
  V : Fn K mg "_law_value" sLawValue ["_law_feed_here"] g.fV g.dV
  L : Fn K mg "_law_leaf" sLeaf ["_law_feed_here", "_law_world_here", "_law_bound_here"] g.fL g.dL
  N : Fn K mg "_law_nodes" sNodes ["_law_e"] g.fN g.dN
  Y : Fn K mg "_law_work" sLawWork ["_law_e", "_law_works"] g.fK g.dK
  R : Fn K mg "_law_right" sRight ["_law_e", "_law_bound_here"] g.fR g.dR
  T : Fn K mg "_law_turned" sTurned ["_law_e", "_law_names_here", "_law_others"] g.fT g.dT
  S : Fn K mg "_law_spoilt" sSpoilt ["_law_e", "_law_at", "_law_leaf_here"] g.fX g.dX
  sum : mg "sum" = none
  all : mg "all" = none
section
variable {S : List Str} {M : Nat} {P : Program} {w : World} {K : PySem.W.Frag} {mg : Str → Option Value} {base : Heap} {g : GenF}
theorem Gen.gD (G : Gen K mg g) : FnOk P w K mg base CX0 1 g.fD g.dD ["_law_feed_here", "_law_many"] spDraw := ok_draw G.U.D G.U.T
theorem Gen.gL (G : Gen K mg g) : FnOk P w K mg base CX0 3 g.fL g.dL ["_law_feed_here", "_law_world_here", "_law_bound_here"] (spLeaf S M) := ok_leaf G.L.F G.U G.V.F G.V.b G.V.m
theorem Gen.gN (G : Gen K mg g) (N : Nat) : FnOk P w K mg base CX0 (N + 2) g.fN g.dN ["_law_e"] (spNodes S N) := ok_nodes G.N.F G.N.b G.N.m G.X.T G.X.KI G.sum G.X.P G.X.bP G.X.mP N
theorem Gen.gK (G : Gen K mg g) (N : Nat) : FnOk P w K mg base CX0 (N + 2) g.fK g.dK ["_law_e", "_law_works"] (spLawWork S N) := ok_lawwork G.Y.F G.Y.b G.Y.m G.X.T G.X.KI G.sum G.X.P G.X.bP G.X.mP N
theorem Gen.gR (G : Gen K mg g) (N : Nat) : FnOk P w K mg base CX0 (N + 2) g.fR g.dR ["_law_e", "_law_bound_here"] (spRight S N) := ok_right G.R.F G.R.b G.R.m G.X.T G.X.KI G.all G.X.P G.X.bP G.X.mP N
theorem Gen.gT (G : Gen K mg g) (N : Nat) : FnOk P w K mg base CX0 (N + 2) g.fT g.dT ["_law_e", "_law_names_here", "_law_others"] (spTurned S N) := ok_turned G.T.F G.T.b G.T.m G.X N
theorem Gen.gS (G : Gen K mg g) (N : Nat) : FnOk P w K mg base CX0 (N + 3) g.fX g.dX ["_law_e", "_law_at", "_law_leaf_here"] (spSpoilt S N 1) := ok_spoilt G.S.F G.S.b G.S.m G.X G.U.T.range G.sum G.N.F G.N.b G.N.m 1 N
end
theorem cnts_le {m : Nat} : ∀ {ks : List Th}, (∀ k ∈ ks, cnt k ≤ m) → cnts ks ≤ ks.length * m := by
  intro ks
  induction ks with
  | nil => intro _; rw [cnts]; exact Nat.zero_le _
  | cons x ks ih =>
    intro h
    have h1 := h x (List.mem_cons_self ..)
    have h2 := ih fun k hk => h k (List.mem_cons_of_mem _ hk)
    rw [cnts, List.length_cons, Nat.succ_mul]
    omega
theorem cnt_pow {S : List Str} : ∀ (n : Nat) {t : Th}, PfT S n t → cnt t ≤ 7 ^ n := by
  intro n
  induction n with
  | zero => intro t h; exact h.elim
  | succ n ih =>
    intro t h
    obtain ⟨w, hd, ks, rfl, h1, h2, h3, h4, h5, h6⟩ := h
    rw [cnt_nd fun k hk => (h6 k hk).isTup]
    have h7 := cnts_le fun k hk => ih (h6 k hk)
    have h8 : ks.length * 7 ^ n ≤ 6 * 7 ^ n := Nat.mul_le_mul_right _ h5
    have h9 : 0 < 7 ^ n := Nat.pow_pos (by decide)
    rw [Nat.pow_succ]
    omega
def spCopied (S : List Str) (M : Nat) : Sp := fun vs H Q _ => ∃ (d l wd : Addr) (a : WA) (i : WI) (bd : Addr) (bs : List Str) (ns : List Int) (n : Nat) (r z b tm : Int), vs = [.ref d, .ref wd, .ref bd, .int b, .int tm] ∧ n ≤ 700000000000 ∧ M ≤ 20 ∧ 0 ≤ tm ∧ tm ≤ 1000000000000000000 ∧ 0 ≤ r ∧ Ctx S M H H d l wd a i bd bs ns n r z ∧
  ∀ (v : V) (t : Th) (n' : Nat) (r' z' : Int) H', IsTh H' v t → PfT S (M + 1) t → (cnt t : Int) ≤ 1 + r - r' → 0 ≤ r' → n' ≤ n + 13 → Ctx S M H H' d l wd a i bd bs ns n' r' z' → Q v H'
theorem nd_on : (["_law_others", "_law_name_here"] : List Str).Nodup := by decide +kernel
section
variable {S : List Str} {M : Nat} {P : Program} {w : World} {K : PySem.W.Frag} {mg : Str → Option Value} {base : Heap} {g : GenF}
theorem scCopied : FnScope ["_law_feed_here", "_law_world_here", "_law_bound_here", "_law_below", "_law_times", "_law_seed", "_law_names_here", "_law_shift", "_law_others", "_law_found", "_law_cost"] ["_law_feed_here", "_law_world_here", "_law_bound_here", "_law_below", "_law_times"] (defScope sCopied) := ⟨rfl, rfl, rfl, by decide +kernel, rfl, by decide +kernel, by decide +kernel⟩
theorem ok_copied {f : Addr} {fd : FuncData} (F : Fun K "_law_copied" "_law_copied" sCopied f fd) (G : Gen K mg g) :
    FnOk P w K mg base CX0 (M + 4) f fd ["_law_feed_here", "_law_world_here", "_law_bound_here", "_law_below", "_law_times"] (spCopied S M) := by
  have GD : FnOk P w K mg base CX0 1 g.fD g.dD ["_law_feed_here", "_law_many"] spDraw := G.gD
  have GL : FnOk P w K mg base CX0 3 g.fL g.dL ["_law_feed_here", "_law_world_here", "_law_bound_here"] (spLeaf S M) := G.gL
  have GN : FnOk P w K mg base CX0 (M + 3) g.fN g.dN ["_law_e"] (spNodes S (M + 1)) := G.gN (M + 1)
  have GK : FnOk P w K mg base CX0 (M + 3) g.fK g.dK ["_law_e", "_law_works"] (spLawWork S (M + 1)) := G.gK (M + 1)
  have GR : FnOk P w K mg base CX0 (M + 3) g.fR g.dR ["_law_e", "_law_bound_here"] (spRight S (M + 1)) := G.gR (M + 1)
  have GT : FnOk P w K mg base CX0 (M + 2) g.fT g.dT ["_law_e", "_law_names_here", "_law_others"] (spTurned S M) := G.gT M
  have GX : FnOk P w K mg base CX0 (M + 3) g.fX g.dX ["_law_e", "_law_at", "_law_leaf_here"] (spSpoilt S M 1) := G.gS M
  refine F.ok scCopied (fun vs H Q E h => ?_) (fun cdv A outer s H vs Q E hr h => ?_)
  · obtain ⟨d, l, wd, a, i, bd, bs, ns, n, r, z, b, tm, rfl, _⟩ := h
    rfl
  · obtain ⟨d, l, wd, a, i, bd, bs, ns, n, r, z, b, tm, rfl, hn, hM, ht0, ht1, hr0, C0, k⟩ := h
    have hsz : sizeLine = 16777216 := sizeLine_eq
    have hu : (_ : Around).units + 1 < cLine := Nat.lt_of_le_of_lt (Nat.add_le_add_left (by omega) _) hr.units
    have hu0 := hr.units0
    have hr1 : Room 1 _ := hr.mono (by omega)
    have hr3 : Room 3 _ := hr.mono (by omega)
    have hrM2 : Room (M + 2) _ := hr.mono (by omega)
    have hrM3 : Room (M + 3) _ := hr
    refine' ⟨?tt, ?body, ?fin⟩
    case body =>
      refine' pss_cut ?s1 (pss_cons ?s2 (pss_cons ?s3 (pss_cons ?s4 (pss_cut ?s5 (pss_cut ?s6 (pss_cons ?s7 (pss_cut ?s8 (pss_cons ?s9 (pss_cut ?s10 (pss_cons ?s11 (pss_cons ?s12 (pss_one ?s13))))))))))))
      case s1 => exact ps_if (pt_cmpR (op_eq_nil hu0) (pe_dget hu (pv 1) pe_str (fun _ _ => rfl)) (pe_lst pa_nil) (nomark _)) (pss_one (ps_ret (pe_call GL hr3 (by rfl) G.L.m G.L.F.kp G.L.b .nil pass0 (pa_n (pv 0) (pa_n (pv 1) (pa_n (pv 2) pa_nil)))))) pss_nil
      case s2 => exact ps_set (i := 5) scCopied.nd rfl (Or.inl rfl) (pe_ix ix_list (pe_dget hu (pv 1) pe_str (fun _ _ => rfl)) (pe_call GD hr1 (by rfl) G.U.mD G.U.D.kp G.U.bD .nil pass0 (pa_n (pv 0) (pa_c (pe_callB call_len_seq (by rfl) G.U.T.len PySem.boot_len (pa_cons (pe_dget hu (pv 1) pe_str (fun _ _ => rfl)) pa_nil)) pa_nil))) (fun _ _ => rfl))
      case s3 => exact ps_set (i := 6) scCopied.nd rfl (Or.inl rfl) (pe_dget hu (pv 1) pe_str (fun _ _ => rfl))
      case s4 => exact ps_set (i := 7) scCopied.nd rfl (Or.inl rfl) (pe_call GD hr1 (by rfl) G.U.mD G.U.D.kp G.U.bD .nil pass0 (pa_n (pv 0) (pa_c (pe_callB call_len_seq (by rfl) G.U.T.len PySem.boot_len (pa_n (pv 6) pa_nil)) pa_nil)))
      case s5 => exact ps_set (i := 8) scCopied.nd rfl (Or.inr rfl) (pe_op op_cat (pe_slice sl_list (pv 6) (po_some (pv 7)) po_none) (pe_slice sl_list (pv 6) po_none (po_some (pv 7))))
      case s6 =>
        refine' ps_if ?c (pss_one ?b) pss_nil
        case c => exact pt_cmpR op_eq (pe_call GD hr1 (by rfl) G.U.mD G.U.D.kp G.U.bD .nil pass0 (pa_n (pv 0) (pa_k pe_int pa_nil))) pe_int (nomark _)
        case b =>
          refine' ps_set (i := 8) scCopied.nd rfl (Or.inr rfl) (pe_comp (N' := ["_law_others", "_law_name_here"]) (src := [some 8, none]) ?k1 ?k5 ?k6 ?k7)
          case k1 => rfl
          case k5 => exact compScope_of (defScope sCopied) rfl ["_law_feed_here", "_law_world_here", "_law_bound_here", "_law_below", "_law_times", "_law_seed", "_law_names_here", "_law_shift", "_law_others", "_law_found", "_law_cost"] rfl (by decide +kernel)
          case k6 => exact pi_list (pv 6)
          case k7 => exact fun cl C ex s0 H0 => ⟨pg_name (i := 1) nd_on rfl (Or.inl rfl), pts_nil, pe_ix (ix_listK (K := K) rfl) (pv 0) pe_int (fun _ _ => rfl)⟩
      case s7 => exact ps_set (i := 9) scCopied.nd rfl (Or.inl rfl) (pe_call GT hrM2 (by rfl) G.T.m G.T.F.kp G.T.b .nil pass0 (pa_n (pv 5) (pa_n (pv 6) (pa_n (pv 8) pa_nil))))
      case s8 =>
        refine' ps_if ?c (pss_one ?b) pss_nil
        case c => exact pt_cmpR op_eq (pe_call GD hr1 (by rfl) G.U.mD G.U.D.kp G.U.bD .nil pass0 (pa_n (pv 0) (pa_k pe_int pa_nil))) pe_int (nomark _)
        case b => exact ps_set (i := 9) scCopied.nd rfl (Or.inl rfl) (pe_call GX hrM3 (by rfl) G.S.m G.S.F.kp G.S.b .nil pass0 (pa_n (pv 9) (pa_c (pe_call GD hr1 (by rfl) G.U.mD G.U.D.kp G.U.bD .nil pass0 (pa_n (pv 0) (pa_c (pe_call GN hrM3 (by rfl) G.N.m G.N.F.kp G.N.b .nil pass0 (pa_n (pv 9) pa_nil)) pa_nil))) (pa_c (pe_call GL hr3 (by rfl) G.L.m G.L.F.kp G.L.b .nil pass0 (pa_n (pv 0) (pa_n (pv 1) (pa_n (pv 2) pa_nil)))) pa_nil))))
      case s9 => exact ps_set (i := 10) scCopied.nd rfl (Or.inl rfl) (pe_op op_mul (pv 4) (pe_call GK hrM3 (by rfl) G.Y.m G.Y.F.kp G.Y.b .nil pass0 (pa_n (pv 9) (pa_cons (pe_dget hu (pv 1) pe_str (fun _ _ => rfl)) pa_nil))))
      case s10 =>
        refine' ps_if ?c (pss_one ?b) pss_nil
        case c => exact (pw_or (pt_not (pt_val (pe_call GR hrM3 (by rfl) G.R.m G.R.F.kp G.R.b .nil pass0 (pa_n (pv 9) (pa_n (pv 2) pa_nil))))) (pw_or (pt_cmpR op_gt (pv 10) (pe_op op_sub (pe_dget hu (pv 1) pe_str (fun _ _ => rfl)) (pe_op op_mul pe_int (pv 4))) (nomark _)) (pw_or1 (pt_cmpR op_gt (pe_call GN hrM3 (by rfl) G.N.m G.N.F.kp G.N.b .nil pass0 (pa_n (pv 9) pa_nil)) (pe_dget hu (pv 1) pe_str (fun _ _ => rfl)) (nomark _))))).pt
        case b => exact ps_ret (pe_call GL hr3 (by rfl) G.L.m G.L.F.kp G.L.b .nil pass0 (pa_n (pv 0) (pa_n (pv 1) (pa_n (pv 2) pa_nil))))
      case s11 => exact ps_dput hu (pv 1) pe_str (pe_op op_sub (pe_dget hu (pv 1) pe_str (fun _ _ => rfl)) (pv 10)) (by rfl)
      case s12 => exact ps_dput hu (pv 1) pe_str (pe_op op_sub (pe_dget hu (pv 1) pe_str (fun _ _ => rfl)) (pe_call GN hrM3 (by rfl) G.N.m G.N.F.kp G.N.b .nil pass0 (pa_n (pv 9) pa_nil))) (by rfl)
      case s13 => exact ps_ret (pv 9)
    case fin =>
      have leaf : ∀ H4 n4, n4 ≤ n + 9 → Ctx S M H H4 d l wd a i bd bs ns n4 r z → spLeaf S M [.ref d, .ref wd, .ref bd] H4 (fun v H' => Q v H') E := by
        intro H4 n4 h4 C4
        refine ⟨d, l, wd, a, i, bd, bs, ns, n4, r, z, rfl, by omega, C4.zero, fun v t n5 H5 hv hL hn5 C5 => ?_⟩
        exact k v t n5 r z H5 hv (hL.1.le (by omega)) (by have := hL.2; omega) hr0 (by omega) (C5.tail C4.b2)
      refine ⟨fun σ' H' => σ' = [some (.ref d), some (.ref wd), some (.ref bd), some (.int b), some (.int tm), none, none, none, none, none, none] ∧ Ctx S M H H' d l wd a i bd bs ns n r z ∧ 0 < i.sv.length, ?_, ?_⟩
      · refine ⟨_, rfl, wd, .ref a.sd, rfl, wget_seeds C0.W, Nat.zero_le _, fun q hq => ?_⟩
        have sq := same_upd (o := .lst []) hq
        have C1 := C0.same sq
        refine ⟨a.sd, q, i.sv, rfl, rfl, SqL.of C1.N.sd, SqL.of upd_same, _, rfl, ite2 (fun g => ⟨_, rfl, _, rfl, _, rfl, leaf _ n (by omega) C1⟩) (fun g => ⟨rfl, C1, ?_⟩)⟩
        cases e : i.sv with
        | nil => rw [e] at g; exact absurd rfl g
        | cons => exact Nat.succ_pos _
      rintro σ1 H1 ⟨rfl, C1, hs0⟩
      have hs2 := C1.N.s2
      refine ⟨_, rfl, wd, .ref a.sd, rfl, wget_seeds C1.W, _, rfl, _, rfl, wd, .ref a.sd, rfl, wget_seeds C1.W, a.sd, i.sv, rfl, .inl (SqL.of C1.N.sd), d, l, ns, n, _, rfl, C1.F, by omega, by omega, by omega, fun j n2 H2 j0 j1 hn2 F2 b2 => ?_⟩
      have C2 := C1.draw b2 F2
      obtain ⟨vs, hvs, hat⟩ := at_in (xs := i.sv) (i := j) j0 j1
      obtain ⟨jj, _, hjj, _⟩ := atI_get hat
      obtain ⟨ts, hts, hsv⟩ := ths_get _ C2.N.ss hjj
      have pts := C2.N.sp ts (List.mem_of_getElem? hts)
      have n1 := C2.N.n1
      have n2' := C2.N.n2
      refine ⟨a.sd, i.sv, j, vs, rfl, rfl, SqL.of C2.N.sd, hat, ?_⟩
      refine ⟨_, rfl, wd, .ref a.nm, rfl, wget_names C2.W, ?_⟩
      have hl1 : ((i.T1.map V.str).length : Int) = (i.T1.length : Int) := by rw [List.length_map]
      refine ⟨_, rfl, _, rfl, a.nm, i.T1.map V.str, rfl, .inl (SqL.of C2.N.nm), d, l, ns, n2, _, rfl, C2.F, by omega, by show (0 : Int) < ((i.T1.map V.str).length : Int); omega, by show ((i.T1.map V.str).length : Int) < 18446744073709551616; omega, fun sh n3 H3 sh0 sh1 hn3 F3 b3 => ?_⟩
      have C3 := C2.draw b3 F3
      have hsv3 := IsTh.kp (b3.kp C2.F) hsv
      clear C1 C2 hsv F2 F3 b2 b3
      let Oth : Hp → Addr → Prop := fun H' oa => ∃ T2 : List Str, H' oa = some (.lst (T2.map V.str)) ∧ T2.length = i.T1.length ∧ ∀ t ∈ T2, Nm t
      refine ⟨fun σ' H' => ∃ oa, σ' = [some (.ref d), some (.ref wd), some (.ref bd), some (.int b), some (.int tm), some vs, some (.ref a.nm), some (.int sh), some (.ref oa), none, none] ∧ Oth H' oa ∧ IsTh H' vs ts ∧ Ctx S M H H' d l wd a i bd bs ns n3 r z, ?_, ?_⟩
      · refine ⟨_, rfl, _, rfl, sh, rfl, a.nm, _, rfl, SqL.of C3.N.nm, fun p1 hp1 => ?_⟩
        rw [cut_behind sh0 (by rw [List.length_map]; omega)]
        have s1 := same_upd (o := .lst ((i.T1.map V.str).drop sh.toNat)) hp1
        have C4 := C3.same s1
        refine ⟨_, rfl, _, rfl, sh, rfl, a.nm, _, rfl, SqL.of C4.N.nm, fun p2 hp2 => ?_⟩
        rw [cut_to sh0 (by rw [List.length_map]; omega)]
        have s2 := same_upd (o := .lst ((i.T1.map V.str).take sh.toNat)) hp2
        have C5 := C4.same s2
        refine ⟨p1, p2, _, _, rfl, rfl, s2 _ _ upd_same, upd_same, by rw [List.length_drop, List.length_take, List.length_map]; omega, fun p3 hp3 => ?_⟩
        have s3 := same_upd (o := .lst ((i.T1.map V.str).drop sh.toNat ++ (i.T1.map V.str).take sh.toNat)) hp3
        refine ⟨p3, rfl, ⟨i.T1.drop sh.toNat ++ i.T1.take sh.toNat, ?_, ?_, ?_⟩, IsTh.kp (Kp.of ((s1.trans s2).trans s3)) hsv3, C5.same s3⟩
        · rw [upd_same, List.map_append, List.map_drop, List.map_take]
        · rw [List.length_append, List.length_drop, List.length_take]; omega
        · intro t ht
          rcases List.mem_append.mp ht with y | y
          · exact C3.N.an t (List.mem_of_mem_drop y)
          · exact C3.N.an t (List.mem_of_mem_take y)
      clear C3 hsv3
      rintro σ5 H5 ⟨oa, rfl, O5, hv5, C5⟩
      refine ⟨fun σ' H' => ∃ oa n', σ' = [some (.ref d), some (.ref wd), some (.ref bd), some (.int b), some (.int tm), some vs, some (.ref a.nm), some (.int sh), some (.ref oa), none, none] ∧ Oth H' oa ∧ n' ≤ n + 3 ∧ IsTh H' vs ts ∧ Ctx S M H H' d l wd a i bd bs ns n' r z, ?_, ?_⟩
      · refine ⟨_, rfl, d, l, ns, n3, _, rfl, C5.F, by omega, by decide, by decide, fun q n6 H6 q0 q1 hn6 F6 b6 => ?_⟩
        have C6 := C5.draw b6 F6
        have hv6 := IsTh.kp (b6.kp C5.F) hv5
        obtain ⟨T2, hT, hTl, hTn⟩ := O5
        have hT6 := C5.F.lst b6 hT
        refine ⟨rfl, _, rfl, ite2 (fun g => ?_) (fun g => ⟨oa, n6, rfl, ⟨T2, hT6, hTl, hTn⟩, by omega, hv6, C6⟩)⟩
        obtain ⟨x0, hx0⟩ : ∃ x, T2[0]? = some x := ⟨_, List.getElem?_eq_getElem (by omega)⟩
        refine ⟨_, rfl, a.nm, rfl, ⟨_, SqL.of C6.N.nm⟩, comp_list (K := K) (a := a.nm) (xs := i.T1.map V.str) (fun j ys σc H' => ∃ (o : Option V) (fs : List Str), σc = [some (.ref oa), o] ∧ H' = H6 ∧ ys = fs.map V.str ∧ fs.length = j ∧ ∀ t ∈ fs, Nm t)
            ⟨none, [], rfl, rfl, rfl, rfl, (fun t ht => by cases ht)⟩ (fun i ys σc H' ⟨_, _, _, e, _⟩ => by rw [e]; exact SqL.of C6.N.nm) ?_ ?_⟩
        · rintro j x ys σc H' hx hj ⟨o, fs, rfl, rfl, rfl, hfl, hfa⟩
          rw [List.length_map] at hj
          refine ⟨by rw [List.length_map]; omega, ?_⟩
          refine ⟨_, rfl, oa, T2.map V.str, _, .str x0, rfl, rfl, SqL.of hT6, atI_nat (j := 0) (by rw [List.getElem?_map, hx0]; rfl), nx (by rw [List.length_map]; exact hj) ⟨_, fs ++ [x0], rfl, rfl, by rw [List.map_append]; rfl, by rw [List.length_append, hfl]; rfl, fun u hu => ?_⟩⟩
          rcases List.mem_append.mp hu with y | y
          · exact hfa u y
          · rw [List.mem_singleton] at y; subst y; exact hTn u (List.mem_of_getElem? hx0)
        · rintro ys σc H' ⟨o, fs, rfl, rfl, rfl, hfl, hfa⟩ q hq
          have sq := same_upd (o := .lst (fs.map V.str)) hq
          exact ⟨q, n6, rfl, ⟨fs, upd_same, by rw [hfl, List.length_map], hfa⟩, by omega, IsTh.kp (Kp.of sq) hv6, C6.same sq⟩
      clear O5 C5 hv5
      rintro σ6 H6 ⟨oa, n6, rfl, ⟨T2, hT, hTl, hTn⟩, hn6, hv6, C6⟩
      refine ⟨_, rfl, _, rfl, _, rfl, vs, a.nm, oa, ts, i.T1, T2, rfl, hv6, pts, C6.N.nm, hT, hTl.symm, by omega, hTn, fun v7 t7 H7 s7 hv7 pf7 c7 => ?_⟩
      have C7 := C6.same s7
      refine ⟨fun σ' H' => ∃ v8 t8 n8, σ' = [some (.ref d), some (.ref wd), some (.ref bd), some (.int b), some (.int tm), some vs, some (.ref a.nm), some (.int sh), some (.ref oa), some v8, none] ∧ n8 ≤ n + 9 ∧ IsTh H' v8 t8 ∧ PfT S (M + 1) t8 ∧ Ctx S M H H' d l wd a i bd bs ns n8 r z, ?_, ?_⟩
      · refine ⟨_, rfl, d, l, ns, n6, _, rfl, C7.F, by omega, by decide, by decide, fun q n8 H8 q0 q1 hn8 F8 b8 => ?_⟩
        have C8 := C7.draw b8 F8
        have hv8 := IsTh.kp (b8.kp C7.F) hv7
        refine ⟨rfl, _, rfl, ite2 (fun g => ?_) (fun g => ⟨v7, t7, n8, rfl, by omega, hv8, pf7.le (by omega), C8⟩)⟩
        have hc := cnt_pf pf7
        refine ⟨_, rfl, _, rfl, _, rfl, v7, t7, rfl, hv8, pf7.le (by omega), fun H9 s9 => ?_⟩
        have C9 := C8.same s9
        have hcl : (cnt t7 : Int) < 18446744073709551616 := by
          have h1 := cnt_pow M pf7
          have h2 : 7 ^ M ≤ 7 ^ 20 := Nat.pow_le_pow_right (by decide) hM
          have h3 : (7 : Nat) ^ 20 = 79792266297612001 := by decide
          omega
        refine ⟨d, l, ns, n8, _, rfl, C9.F, by omega, by omega, hcl, fun q2 n10 H10 y0 y1 hn10 F10 b10 => ?_⟩
        have C10 := C9.draw b10 F10
        have hv10 := IsTh.kp (b10.kp C9.F) (IsTh.kp (Kp.of s9) hv8)
        refine ⟨_, rfl, _, rfl, _, rfl, d, l, wd, a, i, bd, bs, ns, n10, r, z, rfl, by omega, C10.zero, fun vl tl n11 H11 hvl hL hn11 C11 => ?_⟩
        have hv11 := IsTh.kp (C11.b2.kp C10.F C10.W) hv10
        refine ⟨v7, vl, q2, t7, tl, rfl, hv11, pf7, hvl, hL.1, fun v12 t12 H12 s12 hv12 pf12 _ => ?_⟩
        exact ⟨v12, t12, n11, rfl, by omega, hv12, pf12, (C11.tail C10.b2).same s12⟩
      clear C6 C7 hv6 hv7 hT
      rintro σ8 H8 ⟨v8, t8, n8, rfl, hn8, hv8, pf8, C8⟩
      refine ⟨_, rfl, _, rfl, _, rfl, wd, .ref a.wo, rfl, wget_works C8.W, v8, a.wo, t8, i.ρ, i.kvs, rfl, hv8, pf8, C8.N.wo, C8.N.wk, fun H9 s9 => ?_⟩
      have C9 := C8.same s9
      have hv9 := IsTh.kp (Kp.of s9) hv8
      refine ⟨_, _, rfl, rfl, .inl ⟨by omega, by omega⟩, ?_⟩
      obtain ⟨co, hco⟩ : ∃ co, co = tm * wk i.ρ t8 := ⟨_, rfl⟩
      refine ⟨fun σ' H' => σ' = [some (.ref d), some (.ref wd), some (.ref bd), some (.int b), some (.int tm), some vs, some (.ref a.nm), some (.int sh), some (.ref oa), some v8, some (.int co)] ∧ IsTh H' v8 t8 ∧ (cnt t8 : Int) ≤ r ∧ Ctx S M H H' d l wd a i bd bs ns n8 r z, ?_, ?_⟩
      · have bl := C9.bl
        refine ⟨_, rfl, _, rfl, v8, bd, t8, bs, rfl, hv9, pf8, C9.B, by omega, fun rb H10 s10 => ?_⟩
        have C10 := C9.same s10
        have hv10 := IsTh.kp (Kp.of s10) hv9
        refine ⟨_, rfl, ite2 (fun g => iteT ⟨_, rfl, _, rfl, _, rfl, leaf _ n8 hn8 C10⟩) (fun g => ?_)⟩
        refine ⟨_, rfl, _, rfl, wd, .int z, rfl, wget_toil C10.W, _, rfl, _, _, rfl, rfl, .inl ⟨by decide, by decide⟩, _, _, rfl, rfl, _, _, rfl, rfl, _, rfl, ite2 (fun g => iteT ⟨_, rfl, _, rfl, _, rfl, leaf _ n8 hn8 C10⟩) (fun g => ?_)⟩
        refine ⟨_, rfl, v8, t8, rfl, hv10, pf8, fun H11 s11 => ?_⟩
        have C11 := C10.same s11
        have hv11 := IsTh.kp (Kp.of s11) hv10
        refine ⟨_, rfl, wd, .int r, rfl, wget_room C11.W, _, _, rfl, rfl, _, rfl, ite2 (fun g => ⟨_, rfl, _, rfl, _, rfl, leaf _ n8 hn8 C11⟩) (fun g => ⟨by rw [hco]; rfl, hv11, ?_, C11⟩)⟩
        rw [decide_eq_true_iff] at g
        omega
      clear C8 C9 hv8 hv9
      rintro σ9 H9 ⟨rfl, hv9, hcr, C9⟩
      refine ⟨_, rfl, wd, .int z, rfl, wget_toil C9.W, _, rfl, _, _, rfl, rfl, _, rfl, wd, _, rfl, wset_toil C9.W, ?_⟩
      have C10 := C9.put (r2 := r) (z2 := z - co)
      have hv10 := IsTh.kp ((But2.upd (d := d)).kp C9.F C9.W) hv9 (H' := upd H9 wd (.dK (worldKV a r (z - co))))
      refine ⟨_, rfl, wd, .int r, rfl, wget_room C10.W, _, rfl, v8, t8, rfl, hv10, pf8, fun H11 s11 => ?_⟩
      have C11 := C10.same s11
      have hv11 := IsTh.kp (Kp.of s11) hv10
      refine ⟨_, _, rfl, rfl, _, rfl, wd, _, rfl, wset_room C11.W, ?_⟩
      have C12 := C11.put (r2 := r - cnt t8) (z2 := z - co)
      have hv12 := IsTh.kp ((But2.upd (d := d)).kp C11.F C11.W) hv11 (H' := upd H11 wd (.dK (worldKV a (r - cnt t8) (z - co))))
      refine ⟨_, rfl, k v8 t8 n8 _ _ _ hv12 pf8 (by omega) (by omega) (by omega) C12⟩
end
end K54

set_option Elab.async false
set_option linter.all false
set_option maxRecDepth 100000
set_option maxHeartbeats 4000000
namespace K54
open PySem L2
def cD : Nat → Nat
  | 0 => 0
  | N + 1 => 40 + 6 * cD N
def tB (N : Nat) : Int := 5 ^ (20 - N)
theorem tB_pos (N : Nat) : 0 < tB N := Int.pow_pos (by decide)
theorem tB_succ {N : Nat} (h : N ≤ 10) : tB N = 5 * tB (N + 1) := by
  unfold tB
  rw [show 20 - N = (20 - (N + 1)) + 1 by omega, Int.pow_succ]
  omega
theorem tB_le : ∀ {N : Nat}, N ≤ 10 → tB N ≤ 95367431640625 := by
  intro N
  induction N with
  | zero => intro _; exact Int.le_of_eq (by decide)
  | succ N ih =>
    intro h
    have h1 := ih (by omega)
    have h2 := tB_succ (N := N) (by omega)
    have h3 := tB_pos (N + 1)
    omega
def spExpr (S : List Str) (M N : Nat) : Sp := fun vs H Q _ => ∃ (d l wd : Addr) (a : WA) (i : WI) (bd : Addr) (bs : List Str) (ns : List Int) (n : Nat) (r z b tm : Int), vs = [.ref d, .ref wd, .ref bd, .int b, .int tm] ∧ 1 ≤ N ∧ N ≤ 10 ∧ b ≤ N ∧ M ≤ 20 ∧ 0 ≤ tm ∧ tm ≤ tB N ∧ n + cD N ≤ 600000000000 ∧ bs.length + N ≤ 100 ∧ Ctx S M H H d l wd a i bd bs ns n r z ∧
  ∀ (v : V) (t : Th) (n' : Nat) (r' z' : Int) H', IsTh H' v t → PfT S (M + N) t → (cnt t : Int) ≤ r - r' → (r ≤ 6 → r' = r - 1) → (7 ≤ r → -5 * (N : Int) ≤ r') → n' ≤ n + cD N → Ctx S M H H' d l wd a i bd bs ns n' r' z' → Q v H'
def spBound (S : List Str) (M N : Nat) : Sp := fun vs H Q _ => ∃ (d l wd : Addr) (a : WA) (i : WI) (bd : Addr) (bs : List Str) (ns : List Int) (n : Nat) (r z b tm : Int) (kd : Str), vs = [.ref d, .ref wd, .ref bd, .int b, .int tm, .str kd] ∧ 1 ≤ N ∧ N ≤ 10 ∧ b ≤ N + 1 ∧ M ≤ 20 ∧ 0 ≤ tm ∧ tm ≤ tB N ∧ n + (1 + 2 * cD N) ≤ 600000000000 ∧ bs.length + (N + 1) ≤ 100 ∧ 6 ≤ r ∧ Ctx S M H H d l wd a i bd bs ns n r z ∧
  ∀ (v : V) (t : Th) (n' : Nat) (r' z' : Int) H', IsTh H' v t → PfT S (M + N + 1) t → (cnt t : Int) ≤ 1 + r - r' → -5 * ((N : Int) + 1) ≤ r' → n' ≤ n + (1 + 2 * cD N) → Ctx S M H H' d l wd a i bd bs ns n' r' z' → Q v H'
def spCalled (S : List Str) (M N : Nat) : Sp := fun vs H Q _ => ∃ (d l wd : Addr) (a : WA) (i : WI) (bd : Addr) (bs : List Str) (ns : List Int) (n : Nat) (r z b tm : Int), vs = [.ref d, .ref wd, .ref bd, .int b, .int tm] ∧ 1 ≤ N ∧ N ≤ 10 ∧ b ≤ N + 1 ∧ M ≤ 20 ∧ 0 ≤ tm ∧ tm ≤ tB N ∧ n + (5 + 6 * cD N) ≤ 600000000000 ∧ bs.length + (N + 1) ≤ 100 ∧ 6 ≤ r ∧ Ctx S M H H d l wd a i bd bs ns n r z ∧
  ∀ (v : V) (t : Th) (n' : Nat) (r' z' : Int) H', IsTh H' v t → PfT S (M + N + 1) t → (cnt t : Int) ≤ 1 + r - r' → -5 * ((N : Int) + 1) ≤ r' → n' ≤ n + (5 + 6 * cD N) → Ctx S M H H' d l wd a i bd bs ns n' r' z' → Q v H'
/-- the own field of a word that asks for nothing -/
theorem hd_any {S : List Str} {w : Str} {hd : List V} {n : Nat} (h1 : w ≠ "set") (h2 : w ≠ "name") (h3 : w ≠ "call") (h4 : w ≠ "again") (lv : ∀ v ∈ hd, lfV v = true) (lw : lfV (.str w) = true) (sh : Sh S w hd n) : HdE S w hd n :=
  ⟨fun z => z.elim (fun q => absurd q h1) (fun q => absurd q h2), fun z => absurd z h3, fun z => absurd z h4, lv, lw, sh⟩
theorem pf_node {S : List Str} {n : Nat} {w : Str} {hd : List V} {ks : List Th} (h1 : hd.length ≤ 1) (hp : ∀ v ∈ hd, plT (.at v) = true) (hl : w ≠ "let") (hE : HdE S w hd ks.length) (h5 : ks.length ≤ 6) (h6 : ∀ k ∈ ks, PfT S n k) : PfT S (n + 1) (nd w hd ks) :=
  ⟨w, hd, ks, rfl, h1, hp, fun z => absurd z hl, hE, h5, h6⟩
theorem one_mem {α : Type} {p : α → Prop} {x : α} (h : p x) : ∀ y ∈ [x], p y := fun y hy => by rw [List.mem_singleton] at hy; rw [hy]; exact h
theorem two_mem {α : Type} {p : α → Prop} {x y : α} (h : p x) (g : p y) : ∀ u ∈ [x, y], p u := fun u hu => by
  rcases List.mem_cons.mp hu with q | q
  · rw [q]; exact h
  · exact one_mem g u q
theorem pf_set {S : List Str} {n : Nat} {x : Str} {t : Th} (hx : Nm x) (h : PfT S n t) : PfT S (n + 1) (nd "set" [.str x] [t]) :=
  pf_node (Nat.le_refl _) (one_mem rfl) (by decide +kernel) ⟨fun _ => ⟨x, rfl⟩, fun z => absurd z (by decide +kernel), fun z => absurd z (by decide +kernel), one_mem (nm_lf hx), by decide +kernel, .set hx⟩ (by show 1 ≤ 6; decide) (one_mem h)
theorem pf_say {S : List Str} {n : Nat} {t : Th} (h : PfT S n t) : PfT S (n + 1) (nd "say" [] [t]) :=
  pf_node (Nat.zero_le _) (fun v hv => by cases hv) (by decide +kernel) (hd_any (by decide +kernel) (by decide +kernel) (by decide +kernel) (by decide +kernel) (fun v hv => by cases hv) (by decide +kernel) .say) (by show 1 ≤ 6; decide) (one_mem h)
theorem pf_let {S : List Str} {n : Nat} {x : Str} {t u : Th} (hx : Nm x) (h : PfT S n t) (g : PfT S n u) : PfT S (n + 1) (nd "let" [.str x] [t, u]) :=
  ⟨"let", [.str x], [t, u], rfl, Nat.le_refl _, one_mem rfl, fun _ => ⟨⟨x, rfl⟩, rfl⟩, hd_any (by decide +kernel) (by decide +kernel) (by decide +kernel) (by decide +kernel) (one_mem (nm_lf hx)) (by decide +kernel) (.lt hx), by show 2 ≤ 6; decide, two_mem h g⟩
theorem pf_again {S : List Str} {n : Nat} {j : Int} {t : Th} (h0 : 0 ≤ j) (h5 : j ≤ 5) (h : PfT S n t) : PfT S (n + 1) (nd "again" [.int j] [t]) :=
  pf_node (Nat.le_refl _) (one_mem rfl) (by decide +kernel) ⟨fun z => z.elim (fun q => absurd q (by decide +kernel)) (fun q => absurd q (by decide +kernel)), fun z => absurd z (by decide +kernel), fun _ => ⟨j, rfl, h0, h5⟩, one_mem (decide_eq_true (by omega)), by decide +kernel, .again h0 h5⟩ (by show 1 ≤ 6; decide) (one_mem h)
theorem cnt_1 {S : List Str} {n : Nat} {w : Str} {hd : List V} {t : Th} (h : PfT S n t) : cnt (nd w hd [t]) = 1 + cnt t := by
  rw [cnt_nd (one_mem h.isTup)]; simp [cnts]
theorem cnt_2 {S : List Str} {n : Nat} {w : Str} {hd : List V} {t u : Th} (h : PfT S n t) (g : PfT S n u) : cnt (nd w hd [t, u]) = 1 + (cnt t + cnt u) := by
  rw [cnt_nd (two_mem h.isTup g.isTup)]; simp [cnts]
theorem nd_bn : (["_law_bound_here", "_law_name_here"] : List Str).Nodup := by decide +kernel
section
variable {S : List Str} {M : Nat} {P : Program} {w : World} {K : PySem.W.Frag} {mg : Str → Option Value} {base : Heap} {g : GenF}
theorem scBound : FnScope ["_law_feed_here", "_law_world_here", "_law_bound_here", "_law_below", "_law_times", "_law_kind", "_law_some", "_law_name_here", "_law_first"] ["_law_feed_here", "_law_world_here", "_law_bound_here", "_law_below", "_law_times", "_law_kind"] (defScope sBound) := ⟨rfl, rfl, rfl, by decide +kernel, rfl, by decide +kernel, by decide +kernel⟩
theorem ok_bound {f fE : Addr} {fd dE : FuncData} (F : Fun K "_law_bound" "_law_bound" sBound f fd) (G : Gen K mg g) (FE : Fn K mg "_law_expr" sExpr ["_law_feed_here", "_law_world_here", "_law_bound_here", "_law_below", "_law_times"] fE dE) {N c : Nat}
    (GE : FnOk P w K mg base CX0 c fE dE ["_law_feed_here", "_law_world_here", "_law_bound_here", "_law_below", "_law_times"] (spExpr S M N)) (hc : 1 ≤ c) :
    FnOk P w K mg base CX0 (c + 1) f fd ["_law_feed_here", "_law_world_here", "_law_bound_here", "_law_below", "_law_times", "_law_kind"] (spBound S M N) := by
  have GD : FnOk P w K mg base CX0 1 g.fD g.dD ["_law_feed_here", "_law_many"] spDraw := G.gD
  refine F.ok scBound (fun vs H Q E h => ?_) (fun cdv A outer s H vs Q E hr h => ?_)
  · obtain ⟨d, l, wd, a, i, bd, bs, ns, n, r, z, b, tm, kd, rfl, _⟩ := h
    rfl
  · obtain ⟨d, l, wd, a, i, bd, bs, ns, n, r, z, b, tm, kd, rfl, hN1, hN10, hb, hM, ht0, ht1, hn, hbl, hr6, C0, k⟩ := h
    have hsz : sizeLine = 16777216 := sizeLine_eq
    have hu : (_ : Around).units + 1 < cLine := Nat.lt_of_le_of_lt (Nat.add_le_add_left (by omega) _) hr.units
    have hu0 := hr.units0
    have hr1 : Room 1 _ := hr.mono (by omega)
    refine' ⟨?tt, ?body, ?fin⟩
    case body =>
      refine' pss_cut ?s1 (pss_cut ?s2 (pss_cons ?s3 (pss_one ?s4)))
      case s1 =>
        refine' ps_setComp (i := 6) (N' := ["_law_bound_here", "_law_name_here"]) (src := [some 2, none]) ?k1 ?k2 ?k3 ?k4 ?k5 ?k6 ?k7
        case k1 => rfl
        case k2 => exact scBound.nd
        case k3 => rfl
        case k4 => exact Or.inl rfl
        case k5 => exact compScope_of (defScope sBound) rfl ["_law_feed_here", "_law_world_here", "_law_bound_here", "_law_below", "_law_times", "_law_kind", "_law_some", "_law_name_here", "_law_first"] rfl (by decide +kernel)
        case k6 => exact pi_list (pe_dget hu (pv 1) pe_str (fun _ _ => rfl))
        case k7 => exact fun cl C ex s0 H0 => ⟨pg_name (i := 1) nd_bn rfl (Or.inl rfl), pts_one (pt_cmpR (op_notIn_seqK (K := K) rfl) (pv 1) (pv 0) (by with_unfolding_all rfl)), pv 1⟩
      case s2 =>
        refine' ps_if ?c (pss_cons ?e1 (pss_one ?e2)) pss_nil
        case c => exact (pw_and (pt_cmpR op_eq (pv 5) pe_str (nomark _)) (pw_and1 (pt_cmpR (op_ne_list hu0) (pv 6) (pe_lst pa_nil) (nomark _)))).pt
        case e1 => exact ps_set (i := 7) scBound.nd rfl (Or.inl rfl) (pe_ix ix_list (pv 6) (pe_call GD hr1 (by rfl) G.U.mD G.U.D.kp G.U.bD .nil pass0 (pa_n (pv 0) (pa_c (pe_callB call_len_seq (by rfl) G.U.T.len PySem.boot_len (pa_n (pv 6) pa_nil)) pa_nil))) (fun _ _ => rfl))
        case e2 => exact ps_ret (pe_tup (pa_k pe_str (pa_n (pv 7) (pa_c (pe_call GE hr (by rfl) FE.m FE.F.kp FE.b .nil pass0 (pa_n (pv 0) (pa_n (pv 1) (pa_n (pv 2) (pa_cons (pe_op op_sub (pv 3) pe_int) (pa_n (pv 4) pa_nil)))))) pa_nil))))
      case s3 =>
        refine' ps_if ?c (pss_cons ?e0 (pss_cons ?e1 (pss_cons ?e2 (pss_one ?e3)))) pss_nil
        case c => exact pt_cmpR op_eq (pv 5) pe_str (nomark _)
        case e0 => exact ps_set (i := 6) scBound.nd rfl (Or.inl rfl) (pe_op op_cat (pe_dget hu (pv 1) pe_str (fun _ _ => rfl)) (pe_dget hu (pv 1) pe_str (fun _ _ => rfl)))
        case e1 => exact ps_set (i := 7) scBound.nd rfl (Or.inl rfl) (pe_ix ix_list (pv 6) (pe_call GD hr1 (by rfl) G.U.mD G.U.D.kp G.U.bD .nil pass0 (pa_n (pv 0) (pa_c (pe_callB call_len_seq (by rfl) G.U.T.len PySem.boot_len (pa_n (pv 6) pa_nil)) pa_nil))) (fun _ _ => rfl))
        case e2 => exact ps_set (i := 8) scBound.nd rfl (Or.inl rfl) (pe_call GE hr (by rfl) FE.m FE.F.kp FE.b .nil pass0 (pa_n (pv 0) (pa_n (pv 1) (pa_n (pv 2) (pa_cons (pe_op op_sub (pv 3) pe_int) (pa_n (pv 4) pa_nil))))))
        case e3 => exact ps_ret (pe_tup (pa_k pe_str (pa_n (pv 7) (pa_n (pv 8) (pa_c (pe_call GE hr (by rfl) FE.m FE.F.kp FE.b .nil pass0 (pa_n (pv 0) (pa_n (pv 1) (pa_cons (pe_op op_cat (pv 2) (pe_lst (pa_n (pv 7) pa_nil))) (pa_cons (pe_op op_sub (pv 3) pe_int) (pa_n (pv 4) pa_nil)))))) pa_nil)))))
      case s4 => exact ps_ret (pe_tup (pa_k pe_str (pa_c (pe_call GE hr (by rfl) FE.m FE.F.kp FE.b .nil pass0 (pa_n (pv 0) (pa_n (pv 1) (pa_n (pv 2) (pa_cons (pe_op op_sub (pv 3) pe_int) (pa_n (pv 4) pa_nil)))))) pa_nil)))
    case fin =>
      have n1 := C0.N.n1
      have n2 := C0.N.n2
      have l2 := C0.N.l2
      refine ⟨fun σ' H' => ∃ (fr : Addr) (fs : List Str), σ' = [some (.ref d), some (.ref wd), some (.ref bd), some (.int b), some (.int tm), some (.str kd), some (.ref fr), none, none] ∧ H' fr = some (.lst (fs.map V.str)) ∧ (∀ t ∈ fs, Nm t) ∧ fs.length ≤ 10 ∧ Ctx S M H H' d l wd a i bd bs ns n r z, ?_, ?_⟩
      · refine ⟨_, rfl, wd, .ref a.nm, rfl, wget_names C0.W, a.nm, rfl, ⟨_, SqL.of C0.N.nm⟩, comp_list (K := K) (a := a.nm) (xs := i.T1.map V.str) (fun j ys σc H' => ∃ (o : Option V) (fs : List Str), σc = [some (.ref bd), o] ∧ H' = H ∧ ys = fs.map V.str ∧ fs.length ≤ j ∧ ∀ t ∈ fs, Nm t)
            ⟨none, [], rfl, rfl, rfl, Nat.le_refl _, (fun t ht => by cases ht)⟩ (fun i ys σc H' ⟨_, _, _, e, _⟩ => by rw [e]; exact SqL.of C0.N.nm) ?_ ?_⟩
        · rintro j x ys σc H' hx hj ⟨o, fs, rfl, rfl, rfl, hfl, hfa⟩
          obtain ⟨t, ht, rfl⟩ := List.mem_map.mp (List.mem_of_getElem? hx)
          have hj' : j < 10 := by
            rw [List.length_map] at hj
            omega
          refine ⟨by rw [List.length_map]; omega, ?_⟩
          refine ⟨_, rfl, _, rfl, bd, bs.map V.str, rfl, .inl (SqL.of C0.B), rfl, strs_flat bs, _, rfl, ite2 (fun g => ?_) (fun g => ?_)⟩
          · refine ⟨_, rfl, nx hj ⟨_, fs ++ [t], rfl, rfl, by rw [List.map_append]; rfl, by rw [List.length_append, List.length_singleton]; omega, fun u hu => ?_⟩⟩
            rcases List.mem_append.mp hu with y | y
            · exact hfa u y
            · rw [List.mem_singleton] at y; subst y; exact C0.N.an u ht
          · exact nx hj ⟨_, fs, rfl, rfl, rfl, by omega, hfa⟩
        · rintro ys σc H' ⟨o, fs, rfl, rfl, rfl, hfl, hfa⟩ q hq
          rw [List.length_map] at hfl
          exact ⟨q, fs, rfl, upd_same, hfa, by omega, C0.same (same_upd hq)⟩
      rintro σ1 H1 ⟨fr, fs, rfl, S1, hfn, hfl, C1⟩
      refine ⟨fun σ' H' => σ' = [some (.ref d), some (.ref wd), some (.ref bd), some (.int b), some (.int tm), some (.str kd), some (.ref fr), none, none] ∧ Ctx S M H H' d l wd a i bd bs ns n r z, ?_, ?_⟩
      · refine ⟨_, rfl, rfl, _, rfl, ite2 (fun g => ?_) (fun g => iteF ⟨rfl, C1⟩)⟩
        refine ⟨_, rfl, Nat.zero_le _, fun e he => ?_⟩
        have se := same_upd (o := .lst []) he
        have C2 := C1.same se
        refine ⟨fr, e, fs.map V.str, [], rfl, rfl, SqL.of (se _ _ S1), SqL.of upd_same, strs_flat fs, rfl, _, rfl, ite2 (fun g2 => ?_) (fun g2 => ⟨rfl, C2⟩)⟩
        have hf0 : 0 < fs.length := by
          cases fs with
          | nil => exact absurd g2 (by decide)
          | cons => exact Nat.succ_pos _
        have hl1 : ((fs.map V.str).length : Int) = (fs.length : Int) := by rw [List.length_map]
        refine ⟨_, rfl, _, rfl, _, rfl, fr, fs.map V.str, rfl, .inl (SqL.of (se _ _ S1)), d, l, ns, n, _, rfl, C2.F, by omega, by show (0 : Int) < ((fs.map V.str).length : Int); omega, by show ((fs.map V.str).length : Int) < 18446744073709551616; omega, fun q n3 H3 q0 q1 hn3 F3 b3 => ?_⟩
        have C3 := C2.draw b3 F3
        obtain ⟨vx, hvx, hat⟩ := at_in (xs := fs.map V.str) (i := q) q0 q1
        obtain ⟨x, hx, rfl⟩ := List.mem_map.mp hvx
        refine ⟨fr, fs.map V.str, q, .str x, rfl, rfl, SqL.of (C2.F.lst b3 (se _ _ S1)), hat, ?_⟩
        refine ⟨_, rfl, _, rfl, _, rfl, _, rfl, _, rfl, _, _, rfl, rfl, _, rfl, d, l, wd, a, i, bd, bs, ns, n3, r, z, b - 1, tm, rfl, hN1, hN10, by omega, hM, ht0, ht1, by omega, by omega, C3.zero, fun v4 t4 n4 r4 z4 H4 h4 p4 c4 y1 y2 hn4 C4 => ⟨(by show 3 ≤ sizeLine; decide), fun p hp => ?_⟩⟩
        have sp := same_upd (o := .tup [.str "set", .str x, v4]) hp
        have hk := cnt_pf p4
        refine k (.ref p) (nd "set" [.str x] [t4]) n4 r4 z4 _ (.tup upd_same (.cons (.at (by decide +kernel)) (.cons (.at (nm_small (hfn x hx))) (.cons (IsTh.kp (Kp.of sp) h4) .nil)))) (pf_set (hfn x hx) p4) ?_ (by omega) (by omega) ((C4.tail C3.b2).same sp)
        rw [cnt_1 p4]
        omega
      clear C1 S1 hfn hfl
      rintro σ2 H2 ⟨rfl, C2⟩
      refine ⟨_, rfl, rfl, _, rfl, ite2 (fun g => ?_) (fun g => ?_)⟩
      · refine ⟨_, rfl, wd, .ref a.nm, rfl, wget_names C2.W, _, rfl, wd, .ref a.lt, rfl, wget_lets C2.W, a.nm, a.lt, i.T1.map V.str, i.T2.map V.str, rfl, rfl, C2.N.nm, C2.N.lt, by rw [List.length_map, List.length_map]; omega, fun c hc => ?_⟩
        have sc := same_upd (o := .lst (i.T1.map V.str ++ i.T2.map V.str)) hc
        have C3 := C2.same sc
        have hE : upd H2 c (.lst (i.T1.map V.str ++ i.T2.map V.str)) c = some (.lst (i.T1.map V.str ++ i.T2.map V.str)) := upd_same
        have hEl : (i.T1.map V.str ++ i.T2.map V.str).length = i.T1.length + i.T2.length := by simp only [List.length_append, List.length_map]
        have hEn : ∀ v ∈ i.T1.map V.str ++ i.T2.map V.str, ∃ x, v = .str x ∧ Nm x := by
          intro v hv
          rcases List.mem_append.mp hv with y | y
          · obtain ⟨x, hx, rfl⟩ := List.mem_map.mp y; exact ⟨x, rfl, C2.N.an x hx⟩
          · obtain ⟨x, hx, rfl⟩ := List.mem_map.mp y; exact ⟨x, rfl, C2.N.bn x hx⟩
        generalize upd H2 c (.lst (i.T1.map V.str ++ i.T2.map V.str)) = H3 at C3 hE
        generalize i.T1.map V.str ++ i.T2.map V.str = es at hE hEl hEn
        have hl1 : (es.length : Int) = ((i.T1.length + i.T2.length : Nat) : Int) := by rw [hEl]
        refine ⟨_, rfl, _, rfl, _, rfl, c, es, rfl, .inl (SqL.of hE), d, l, ns, n, _, rfl, C3.F, by omega, by show (0 : Int) < (es.length : Int); omega, by show (es.length : Int) < 18446744073709551616; omega, fun q n4 H4 q0 q1 hn4 F4 b4 => ?_⟩
        have C4 := C3.draw b4 F4
        obtain ⟨vx, hvx, hat⟩ := at_in (xs := es) (i := q) q0 q1
        obtain ⟨x, rfl, hx⟩ := hEn vx hvx
        refine ⟨c, es, q, .str x, rfl, rfl, SqL.of (C3.F.lst b4 hE), hat, ?_⟩
        refine ⟨_, rfl, _, rfl, _, rfl, _, rfl, _, _, rfl, rfl, _, rfl, d, l, wd, a, i, bd, bs, ns, n4, r, z, b - 1, tm, rfl, hN1, hN10, by omega, hM, ht0, ht1, by omega, by omega, C4.zero, fun v5 t5 n5 r5 z5 H5 h5 p5 c5 y1 y2 hn5 C5' => ?_⟩
        have C5 := C5'.tail C4.b2
        have hk5 := cnt_pf p5
        refine ⟨_, rfl, _, rfl, _, rfl, _, rfl, _, rfl, _, rfl, (by show 1 ≤ sizeLine; decide), fun c1 hc1 => ?_⟩
        have sc1 := same_upd (o := .lst [.str x]) hc1
        refine ⟨bd, c1, bs.map V.str, [.str x], rfl, rfl, sc1 _ _ C5.B, upd_same, by rw [List.length_map, List.length_singleton]; omega, fun c2 hc2 => ?_⟩
        have sc2 := same_upd (o := .lst (bs.map V.str ++ [.str x])) hc2
        have C6 := (C5.same sc1).same sc2
        have C7 := C6.bind (b2 := c2) (bs2 := bs ++ [x]) (by rw [upd_same, List.map_append]; rfl) (by rw [List.length_append, List.length_singleton]; omega) (fun t ht => (List.mem_append.mp ht).elim (C6.bn t) (fun q => by rw [List.mem_singleton] at q; rw [q]; exact hx))
        refine ⟨_, rfl, _, _, rfl, rfl, _, rfl, d, l, wd, a, i, c2, bs ++ [x], ns, n5, r5, z5, b - 1, tm, rfl, hN1, hN10, by omega, hM, ht0, ht1, by omega, by rw [List.length_append, List.length_singleton]; omega, C7.zero, fun v8 t8 n8 r8 z8 H8 h8 p8 c8 y3 y4 hn8 C8 => ⟨(by show 4 ≤ sizeLine; decide), fun p hp => ?_⟩⟩
        have C9 := C6.go C8.b2 C8.F C8.W
        have hv5 := IsTh.kp (C8.b2.kp C6.F C6.W) (IsTh.kp (Kp.of (sc1.trans sc2)) h5)
        have sp := same_upd (o := .tup [.str "let", .str x, v5, v8]) hp
        have hk8 := cnt_pf p8
        refine k (.ref p) (nd "let" [.str x] [t5, t8]) n8 r8 z8 _ (.tup upd_same (.cons (.at (by decide +kernel)) (.cons (.at (nm_small hx)) (.cons (IsTh.kp (Kp.of sp) hv5) (.cons (IsTh.kp (Kp.of sp) h8) .nil))))) (pf_let hx p5 p8) ?_ (by omega) (by omega) (C9.same sp)
        rw [cnt_2 p5 p8]
        omega
      · refine ⟨_, rfl, _, rfl, _, rfl, _, rfl, _, _, rfl, rfl, _, rfl, d, l, wd, a, i, bd, bs, ns, n, r, z, b - 1, tm, rfl, hN1, hN10, by omega, hM, ht0, ht1, by omega, by omega, C2.zero, fun v4 t4 n4 r4 z4 H4 h4 p4 c4 y1 y2 hn4 C4 => ⟨(by show 2 ≤ sizeLine; decide), fun p hp => ?_⟩⟩
        have sp := same_upd (o := .tup [.str "say", v4]) hp
        have hk := cnt_pf p4
        refine k (.ref p) (nd "say" [] [t4]) n4 r4 z4 _ (.tup upd_same (.cons (.at (by decide +kernel)) (.cons (IsTh.kp (Kp.of sp) h4) .nil))) (pf_say p4) ?_ (by omega) (by omega) ((C4.tail C2.b2).same sp)
        rw [cnt_1 p4]
        omega
end
end K54

set_option Elab.async false
set_option linter.all false
set_option maxRecDepth 100000
set_option maxHeartbeats 4000000
namespace K54
open PySem L2
theorem pf_call {S : List Str} {n : Nat} {x : Str} {ks : List Th} (hS : x ∈ S) (hx : Nm x) (h5 : ks.length ≤ 6) (h : ∀ k ∈ ks, PfT S n k) : PfT S (n + 1) (nd "call" [.str x] ks) :=
  pf_node (Nat.le_refl _) (one_mem rfl) (by decide +kernel) ⟨fun z => z.elim (fun q => absurd q (by decide +kernel)) (fun q => absurd q (by decide +kernel)), fun _ => ⟨x, rfl, hS⟩, fun z => absurd z (by decide +kernel), one_mem (nm_lf hx), by decide +kernel, .call hS hx h5⟩ h5 h
theorem nd_fwbdtk : (["_law_feed_here", "_law_world_here", "_law_bound_here", "_law_below", "_law_times", "_law_k"] : List Str).Nodup := by decide +kernel
/-- the room behind j parts -/
def Rooms (N : Nat) (r : Int) (j : Nat) (r' : Int) : Prop := (j = 0 → r' = r) ∧ (1 ≤ j → -5 * (N : Int) - ((j : Int) - 1) ≤ r')
theorem Rooms.next {N j : Nat} {r r1 r2 : Int} (hN : 1 ≤ N) (h6 : 6 ≤ r) (h : Rooms N r j r1) (y1 : r1 ≤ 6 → r2 = r1 - 1) (y2 : 7 ≤ r1 → -5 * (N : Int) ≤ r2) : Rooms N r (j + 1) r2 := by
  obtain ⟨a, b⟩ := h
  refine ⟨fun z => absurd z (Nat.succ_ne_zero _), fun _ => ?_⟩
  by_cases hj : j = 0
  · have := a hj
    omega
  · have := b (by omega)
    omega
section
variable {S : List Str} {M : Nat} {P : Program} {w : World} {K : PySem.W.Frag} {mg : Str → Option Value} {base : Heap} {g : GenF}
theorem scCalled : FnScope ["_law_feed_here", "_law_world_here", "_law_bound_here", "_law_below", "_law_times", "_law_name_here", "_law_many", "_law_cost"] ["_law_feed_here", "_law_world_here", "_law_bound_here", "_law_below", "_law_times"] (defScope sCalled) := ⟨rfl, rfl, rfl, by decide +kernel, rfl, by decide +kernel, by decide +kernel⟩
theorem ok_called {f fE : Addr} {fd dE : FuncData} (F : Fun K "_law_called" "_law_called" sCalled f fd) (G : Gen K mg g) (FE : Fn K mg "_law_expr" sExpr ["_law_feed_here", "_law_world_here", "_law_bound_here", "_law_below", "_law_times"] fE dE) {N c : Nat}
    (GE : FnOk P w K mg base CX0 c fE dE ["_law_feed_here", "_law_world_here", "_law_bound_here", "_law_below", "_law_times"] (spExpr S M N)) (hc : 3 ≤ c) :
    FnOk P w K mg base CX0 (c + 1) f fd ["_law_feed_here", "_law_world_here", "_law_bound_here", "_law_below", "_law_times"] (spCalled S M N) := by
  have GD : FnOk P w K mg base CX0 1 g.fD g.dD ["_law_feed_here", "_law_many"] spDraw := G.gD
  have GL : FnOk P w K mg base CX0 3 g.fL g.dL ["_law_feed_here", "_law_world_here", "_law_bound_here"] (spLeaf S M) := G.gL
  refine F.ok scCalled (fun vs H Q E h => ?_) (fun cdv A outer s H vs Q E hr h => ?_)
  · obtain ⟨d, l, wd, a, i, bd, bs, ns, n, r, z, b, tm, rfl, _⟩ := h
    rfl
  · obtain ⟨d, l, wd, a, i, bd, bs, ns, n, r, z, b, tm, rfl, hN1, hN10, hb, hM, ht0, ht1, hn, hbl, hr6, C0, k⟩ := h
    have hsz : sizeLine = 16777216 := sizeLine_eq
    have htb := tB_le hN10
    have hu : (_ : Around).units + 1 < cLine := Nat.lt_of_le_of_lt (Nat.add_le_add_left (by omega) _) hr.units
    have hu0 := hr.units0
    have hr1 : Room 1 _ := hr.mono (by omega)
    have hr3 : Room 3 _ := hr.mono (by omega)
    refine' ⟨?tt, ?body, ?fin⟩
    case body =>
      refine' pss_cut ?s1 (pss_cut ?s2 (pss_cons ?s3 (pss_cons ?s4 (pss_cons ?s5 (pss_one ?s6)))))
      case s1 => exact ps_if (pt_cmpR (op_eq_nil hu0) (pe_dget hu (pv 1) pe_str (fun _ _ => rfl)) (pe_lst pa_nil) (nomark _)) (pss_one (ps_ret (pe_call GL hr3 (by rfl) G.L.m G.L.F.kp G.L.b .nil pass0 (pa_n (pv 0) (pa_n (pv 1) (pa_n (pv 2) pa_nil)))))) pss_nil
      case s2 => exact ps_asg (pe_ix ix_list (pe_dget hu (pv 1) pe_str (fun _ _ => rfl)) (pe_call GD hr1 (by rfl) G.U.mD G.U.D.kp G.U.bD .nil pass0 (pa_n (pv 0) (pa_c (pe_callB call_len_seq (by rfl) G.U.T.len PySem.boot_len (pa_cons (pe_dget hu (pv 1) pe_str (fun _ _ => rfl)) pa_nil)) pa_nil))) (fun _ _ => rfl)) (pg_tup rfl (pgs_cons (pg_name (i := 5) scCalled.nd rfl (Or.inl rfl)) (pgs_cons (pg_name (i := 6) scCalled.nd rfl (Or.inl rfl)) pgs_nil)))
      case s3 => exact ps_set (i := 7) scCalled.nd rfl (Or.inl rfl) (pe_op op_mul (pv 4) (pe_dget hu (pe_dget hu (pv 1) pe_str (fun _ _ => rfl)) (pv 5) (fun _ _ => rfl)))
      case s4 => exact ps_if (pt_cmpR op_lt (pe_dget hu (pv 1) pe_str (fun _ _ => rfl)) (pe_op op_add (pe_op op_mul pe_int (pv 4)) (pv 7)) (nomark _)) (pss_one (ps_ret (pe_call GL hr3 (by rfl) G.L.m G.L.F.kp G.L.b .nil pass0 (pa_n (pv 0) (pa_n (pv 1) (pa_n (pv 2) pa_nil)))))) pss_nil
      case s5 => exact ps_dput hu (pv 1) pe_str (pe_op op_sub (pe_dget hu (pv 1) pe_str (fun _ _ => rfl)) (pv 7)) (by rfl)
      case s6 =>
        refine' ps_ret (pe_callTy call_tuple_of (by rfl) G.X.T.tup (by decide +kernel) (pa_cons (pe_op op_cat (pe_lst (pa_k pe_str (pa_n (pv 5) pa_nil))) ?x) pa_nil))
        case x =>
          refine' pe_comp (N' := ["_law_feed_here", "_law_world_here", "_law_bound_here", "_law_below", "_law_times", "_law_k"]) (src := [some 0, some 1, some 2, some 3, some 4, none]) ?k1 ?k5 ?k6 ?k7
          case k1 => rfl
          case k5 => exact compScope_of (defScope sCalled) rfl ["_law_feed_here", "_law_world_here", "_law_bound_here", "_law_below", "_law_times", "_law_name_here", "_law_many", "_law_cost"] rfl (by decide +kernel)
          case k6 => exact pi_range1 (by rfl) G.U.T.range (pa_n (pv 6) pa_nil)
          case k7 => exact fun cl C ex s0 H0 => ⟨pg_name (i := 5) nd_fwbdtk rfl (Or.inl rfl), pts_nil, pe_call GE hr (by rfl) FE.m FE.F.kp FE.b .nil pass0 (pa_n (pv 0) (pa_n (pv 1) (pa_n (pv 2) (pa_cons (pe_op op_sub (pv 3) pe_int) (pa_n (pv 4) pa_nil)))))⟩
    case fin =>
      have leaf : ∀ H4 n4, n4 ≤ n + 1 → Ctx S M H H4 d l wd a i bd bs ns n4 r z → spLeaf S M [.ref d, .ref wd, .ref bd] H4 (fun v H' => Q v H') E := by
        intro H4 n4 h4 C4
        refine ⟨d, l, wd, a, i, bd, bs, ns, n4, r, z, rfl, by omega, C4.zero, fun v t n5 H5 hv hL hn5 C5 => ?_⟩
        exact k v t n5 r z H5 hv (hL.1.le (by omega)) (by have := hL.2; omega) (by omega) (by omega) (C5.tail C4.b2)
      refine ⟨fun σ' H' => σ' = [some (.ref d), some (.ref wd), some (.ref bd), some (.int b), some (.int tm), none, none, none] ∧ Ctx S M H H' d l wd a i bd bs ns n r z ∧ 0 < i.fv.length, ?_, ?_⟩
      · refine ⟨_, rfl, wd, .ref a.fn, rfl, wget_functions C0.W, Nat.zero_le _, fun q hq => ?_⟩
        have sq := same_upd (o := .lst []) hq
        have C1 := C0.same sq
        refine ⟨a.fn, q, i.fv, rfl, rfl, SqL.of C1.N.fn, SqL.of upd_same, _, rfl, ite2 (fun g => ⟨_, rfl, _, rfl, _, rfl, leaf _ n (by omega) C1⟩) (fun g => ⟨rfl, C1, ?_⟩)⟩
        cases e : i.fv with
        | nil => rw [e] at g; exact absurd rfl g
        | cons => exact Nat.succ_pos _
      rintro σ1 H1 ⟨rfl, C1, hs0⟩
      have hf2 := C1.N.f2
      refine ⟨fun σ' H' => ∃ (x : Str) (m : Int) (n' : Nat), σ' = [some (.ref d), some (.ref wd), some (.ref bd), some (.int b), some (.int tm), some (.str x), some (.int m), none] ∧ x ∈ S ∧ Nm x ∧ 0 ≤ m ∧ m ≤ 6 ∧ n' ≤ n + 1 ∧ Ctx S M H H' d l wd a i bd bs ns n' r z, ?_, ?_⟩
      · refine ⟨_, rfl, wd, .ref a.fn, rfl, wget_functions C1.W, _, rfl, _, rfl, wd, .ref a.fn, rfl, wget_functions C1.W, a.fn, i.fv, rfl, .inl (SqL.of C1.N.fn), d, l, ns, n, _, rfl, C1.F, by omega, by omega, by omega, fun j n2 H2 j0 j1 hn2 F2 b2 => ?_⟩
        have C2 := C1.draw b2 F2
        obtain ⟨vf, hvf, hat⟩ := at_in (xs := i.fv) (i := j) j0 j1
        obtain ⟨c, x, m, rfl, hcx, hxS, hxN, hm0, hm6⟩ := C2.N.fe vf hvf
        refine ⟨a.fn, i.fv, j, .ref c, rfl, rfl, SqL.of C2.N.fn, hat, ?_⟩
        exact ⟨c, _, rfl, SqT.of hcx, rfl, _, _, rfl, _, _, rfl, rfl, x, m, n2, rfl, hxS, hxN, hm0, hm6, hn2, C2⟩
      clear C1 hs0 hf2
      rintro σ2 H2 ⟨x, m, n2, rfl, hxS, hxN, hm0, hm6, hn2, C2⟩
      have hg : DGet H2 a.wo (.str x) (some (.int (i.ρ x))) := by
        have := DGet.k (k := Sum.inr x) C2.N.wo
        rw [C2.N.wk x hxS] at this
        exact this
      refine ⟨_, rfl, _, rfl, wd, .ref a.wo, rfl, wget_works C2.W, _, rfl, a.wo, _, rfl, hg, _, _, rfl, rfl, .inl ⟨by omega, by omega⟩, ?_⟩
      refine ⟨_, rfl, wd, .int z, rfl, wget_toil C2.W, _, rfl, _, _, rfl, rfl, .inl ⟨by decide, by decide⟩, _, rfl, _, _, rfl, rfl, _, _, rfl, rfl, _, rfl, ite2 (fun g => ⟨_, rfl, _, rfl, _, rfl, leaf _ n2 hn2 C2⟩) (fun g => ?_)⟩
      refine ⟨_, rfl, wd, .int z, rfl, wget_toil C2.W, _, rfl, _, _, rfl, rfl, _, rfl, wd, _, rfl, wset_toil C2.W, ?_⟩
      have C3 := C2.put (r2 := r) (z2 := z - tm * i.ρ x)
      refine ⟨_, rfl, (by show 2 ≤ sizeLine; decide), fun h hh => ?_⟩
      have sh := same_upd (o := .lst [.str "call", .str x]) hh
      have C4 := C3.same sh
      have hH : upd (upd H2 wd (.dK (worldKV a r (z - tm * i.ρ x)))) h (.lst [.str "call", .str x]) h = some (.lst [.str "call", .str x]) := upd_same
      generalize upd (upd H2 wd (.dK (worldKV a r (z - tm * i.ρ x)))) h (.lst [.str "call", .str x]) = H4 at C4 hH
      refine ⟨_, rfl, m, rfl, by omega, by omega, comp_range (lo := 0) (n := m.toNat) (fun j ys σc H' => ∃ (n' : Nat) (o : Option V) (r' z' : Int) (cs : List Th), σc = [some (.ref d), some (.ref wd), some (.ref bd), some (.int b), some (.int tm), o] ∧ Ctx S M H4 H' d l wd a i bd bs ns n' r' z' ∧ n' ≤ n2 + j * cD N ∧ Rooms N r j r' ∧ IsThs H' ys cs ∧ cs.length = j ∧ (∀ c ∈ cs, PfT S (M + N) c) ∧ (cnts cs : Int) ≤ r - r')
        ⟨n2, none, r, _, [], rfl, C4.zero, by omega, ⟨fun _ => rfl, fun q => absurd q (by decide)⟩, .nil, rfl, (fun c hc => by cases hc), by simp [cnts]⟩ ?_ ?_⟩
      · rintro j ys σc H' hj ⟨n', o, r', z', cs, rfl, C', hn', hR, hcs, hcl, hca, hcz⟩
        have hmul : j * cD N ≤ 5 * cD N := Nat.mul_le_mul_right _ (by omega)
        have hys := IsThs.len _ hcs
        refine ⟨by omega, ?_⟩
        refine ⟨_, rfl, _, rfl, _, rfl, _, rfl, _, _, rfl, rfl, _, rfl, d, l, wd, a, i, bd, bs, ns, n', r', z', b - 1, tm, rfl, hN1, hN10, by omega, hM, ht0, ht1, by omega, by omega, C'.zero, fun v t n5 r5 z5 H5 h5 p5 c5 y1 y2 hn5 C5 => ?_⟩
        refine nx hj ⟨n5, _, r5, z5, cs ++ [t], rfl, C5.tail C'.b2, by rw [Nat.succ_mul]; omega, hR.next hN1 hr6 y1 y2, IsThs.app _ (IsThs.kp (C5.b2.kp C'.F C'.W) hcs) (.cons h5 .nil), by rw [List.length_append, hcl]; rfl, fun c hc => ?_, ?_⟩
        · rcases List.mem_append.mp hc with y | y
          · exact hca c y
          · rw [List.mem_singleton] at y; subst y; exact p5
        · rw [cnts_snoc]
          omega
      · rintro ys σc H' ⟨n', o, r', z', cs, rfl, C', hn', hR, hcs, hcl, hca, hcz⟩ q hq
        have hys := IsThs.len _ hcs
        have sq := same_upd (o := .lst ys) hq
        have D' := sq _ _ (C'.b2.kp C4.F C4.W _ _ hH (fun _ z => by cases z))
        have hmul : m.toNat * cD N ≤ 6 * cD N := Nat.mul_le_mul_right _ (by omega)
        refine ⟨h, q, _, ys, rfl, rfl, D', upd_same, by show 2 + ys.length ≤ sizeLine; omega, fun r3 hr3 => ?_⟩
        have s3 := same_upd (o := .lst ([.str "call", .str x] ++ ys)) hr3
        refine ⟨r3, [.str "call", .str x] ++ ys, rfl, .inl ⟨SqL.of upd_same, fun p hp => ?_⟩⟩
        have sp := same_upd (o := .tup ([.str "call", .str x] ++ ys)) hp
        have sA := (sq.trans s3).trans sp
        refine k (.ref p) (nd "call" [.str x] cs) n' r' z' _ (.tup upd_same (.cons (.at (by decide +kernel)) (.cons (.at (nm_small hxN)) (IsThs.kp (Kp.of sA) hcs)))) (pf_call hxS hxN (by omega) hca) ?_ ?_ (by omega) ((C'.tail C4.b2).same sA)
        · rw [cnt_nd fun k hk => (hca k hk).isTup]
          omega
        · obtain ⟨e1, e2⟩ := hR
          by_cases hj : m.toNat = 0
          · have := e1 hj; omega
          · have := e2 (by omega); omega
end
end K54

set_option Elab.async false
set_option linter.all false
set_option maxRecDepth 100000
set_option maxHeartbeats 4000000
namespace K54
open PySem L2
def kinds14 : List Str := ["op", "op", "copy", "pick", "let", "set", "say", "do", "again", "call", "copy", "op", "leaf", "let"]
abbrev signs6 : Str := "+-*/<="
theorem signs_lt : ∀ c ∈ signs6.cps.toList, c < 200 := by decide +kernel
/-- a head and its own field -/
structure OwnOk (S : List Str) (wo : Str) (own : List V) (n : Nat) : Prop where
  e : HdE S wo own n
  n : wo ≠ "let"
  l : own.length ≤ 1
  p : ∀ v ∈ own, plT (.at v) = true
  s : ∀ v ∈ own, smallV v = true
  t : smallV (.str wo) = true
theorem own_do {S : List Str} {n : Nat} (h1 : 1 ≤ n) (h6 : n ≤ 6) : OwnOk S "do" [] n :=
  ⟨hd_any (by decide +kernel) (by decide +kernel) (by decide +kernel) (by decide +kernel) (fun v hv => by cases hv) (by decide +kernel) (.seq h1 h6), by decide +kernel, Nat.zero_le _, fun v hv => (by cases hv), fun v hv => (by cases hv), by decide +kernel⟩
theorem own_pick {S : List Str} : OwnOk S "pick" [] 3 :=
  ⟨hd_any (by decide +kernel) (by decide +kernel) (by decide +kernel) (by decide +kernel) (fun v hv => by cases hv) (by decide +kernel) .pick, by decide +kernel, Nat.zero_le _, fun v hv => (by cases hv), fun v hv => (by cases hv), by decide +kernel⟩
theorem own_op {S : List Str} {c : Nat} (hc : c ∈ signs6.cps.toList) : OwnOk S "op" [.str ⟨#[c]⟩] 2 := by
  have h := signs_lt c hc
  refine ⟨hd_any (by decide +kernel) (by decide +kernel) (by decide +kernel) (by decide +kernel) (one_mem ?_) (by decide +kernel) (.op hc), by decide +kernel, Nat.le_refl _, one_mem rfl, one_mem rfl, by decide +kernel⟩
  show (decide (1 ≤ 16) && [c].all fun c => decide (c < 16 ^ 8)) = true
  simp only [List.all_cons, List.all_nil, Bool.and_true, Bool.and_eq_true, decide_eq_true_eq]
  omega
theorem ths_own {H : Hp} : ∀ {own : List V}, (∀ v ∈ own, smallV v = true) → IsThs H own (own.map Th.at)
  | [], _ => .nil
  | v :: own, h => .cons (.at (h v (List.mem_cons_self ..))) (ths_own fun u hu => h u (List.mem_cons_of_mem _ hu))
section
variable {S : List Str} {M : Nat} {P : Program} {w : World} {K : PySem.W.Frag} {mg : Str → Option Value} {base : Heap} {g : GenF}
theorem scExpr : FnScope ["_law_feed_here", "_law_world_here", "_law_bound_here", "_law_below", "_law_times", "_law_kinds", "_law_kind", "_law_many", "_law_head"] ["_law_feed_here", "_law_world_here", "_law_bound_here", "_law_below", "_law_times"] (defScope sExpr) := ⟨rfl, rfl, rfl, by decide +kernel, rfl, by decide +kernel, by decide +kernel⟩
theorem ok_expr {f fB fC fY : Addr} {fd dB dC dY : FuncData} (G : Gen K mg g) (FE : Fn K mg "_law_expr" sExpr ["_law_feed_here", "_law_world_here", "_law_bound_here", "_law_below", "_law_times"] f fd) (FB : Fn K mg "_law_bound" sBound ["_law_feed_here", "_law_world_here", "_law_bound_here", "_law_below", "_law_times", "_law_kind"] fB dB)
    (FC : Fn K mg "_law_called" sCalled ["_law_feed_here", "_law_world_here", "_law_bound_here", "_law_below", "_law_times"] fC dC) (FY : Fn K mg "_law_copied" sCopied ["_law_feed_here", "_law_world_here", "_law_bound_here", "_law_below", "_law_times"] fY dY) :
    ∀ N, FnOk P w K mg base CX0 (2 * N + M + 4) f fd ["_law_feed_here", "_law_world_here", "_law_bound_here", "_law_below", "_law_times"] (spExpr S M N) := by
  have GD : FnOk P w K mg base CX0 1 g.fD g.dD ["_law_feed_here", "_law_many"] spDraw := G.gD
  have GL : FnOk P w K mg base CX0 3 g.fL g.dL ["_law_feed_here", "_law_world_here", "_law_bound_here"] (spLeaf S M) := G.gL
  have GY : FnOk P w K mg base CX0 (M + 4) fY dY ["_law_feed_here", "_law_world_here", "_law_bound_here", "_law_below", "_law_times"] (spCopied S M) := ok_copied FY.F G
  intro N
  induction N with
  | zero =>
    refine FE.F.ok scExpr (fun vs H Q E h => ?_) (fun cdv A outer s H vs Q E hr h => ?_)
    · obtain ⟨d, l, wd, a, i, bd, bs, ns, n, r, z, b, tm, rfl, _⟩ := h
      rfl
    · obtain ⟨d, l, wd, a, i, bd, bs, ns, n, r, z, b, tm, rfl, h, _⟩ := h
      exact absurd h (by decide)
  | succ N ih =>
    have GB : FnOk P w K mg base CX0 (2 * N + M + 4 + 1) fB dB ["_law_feed_here", "_law_world_here", "_law_bound_here", "_law_below", "_law_times", "_law_kind"] (spBound S M N) := ok_bound FB.F G FE ih (by omega)
    have GC : FnOk P w K mg base CX0 (2 * N + M + 4 + 1) fC dC ["_law_feed_here", "_law_world_here", "_law_bound_here", "_law_below", "_law_times"] (spCalled S M N) := ok_called FC.F G FE ih (by omega)
    rw [show 2 * (N + 1) + M + 4 = 2 * N + M + 4 + 1 + 1 by omega]
    refine FE.F.ok scExpr (fun vs H Q E h => ?_) (fun cdv A outer s H vs Q E hr h => ?_)
    · obtain ⟨d, l, wd, a, i, bd, bs, ns, n, r, z, b, tm, rfl, _⟩ := h
      rfl
    · obtain ⟨d, l, wd, a, i, bd, bs, ns, n, r, z, b, tm, rfl, hN1, hN10, hb, hM, ht0, ht1, hn, hbl, C0, k⟩ := h
      have hsz : sizeLine = 16777216 := sizeLine_eq
      have htb := tB_le hN10
      have hts := tB_succ (N := N) (by omega)
      have htp := tB_pos (N + 1)
      have hu : (_ : Around).units + 1 < cLine := Nat.lt_of_le_of_lt (Nat.add_le_add_left (by omega) _) hr.units
      have hu0 := hr.units0
      have hr1 : Room 1 _ := hr.mono (by omega)
      have hr3 : Room 3 _ := hr.mono (by omega)
      have hrY : Room (M + 4) _ := hr.mono (by omega)
      have hrE : Room (2 * N + M + 4) _ := hr.mono (by omega)
      have ec : cD (N + 1) = 40 + 6 * cD N := rfl
      refine' ⟨?tt, ?body, ?fin⟩
      case body =>
        refine' pss_cons ?s1 ?r1
        case s1 => exact ps_dput hu (pv 1) pe_str (pe_op op_sub (pe_dget hu (pv 1) pe_str (fun _ _ => rfl)) pe_int) (by rfl)
        case r1 =>
          refine' pss_cons ?s2 ?r2
          case s2 => exact ps_dput hu (pv 1) pe_str (pe_op op_sub (pe_dget hu (pv 1) pe_str (fun _ _ => rfl)) (pv 4)) (by rfl)
          case r2 =>
            refine' pss_cut ?s3 ?r3
            case s3 =>
              refine' ps_set9 (i := 5) ?ha ?hb ?hc ?hd ?he ?hf
              case ha => exact scExpr.nd
              case hb => exact rfl
              case hc => exact (Or.inl rfl)
              case he => exact rfl
              case hf => exact (.inr rfl)
              case hd =>
                refine' @pe_consts ((cxOf CX0 P w K mg base ["_law_feed_here", "_law_world_here", "_law_bound_here", "_law_below", "_law_times", "_law_kinds", "_law_kind", "_law_many", "_law_head"] "_law_expr" (defScope sExpr) f cdv A outer s H E).nox) _ (kinds14.map V.str) ?q
                case q => decide +kernel
            case r3 =>
              refine' pss_cut ?s4 ?r4
              case s4 => exact ps_set (i := 6) scExpr.nd rfl (Or.inl rfl) (pe_ix ix_list (pv 5) (pe_call GD hr1 (by rfl) G.U.mD G.U.D.kp G.U.bD .nil pass0 (pa_n (pv 0) (pa_k pe_int pa_nil))) (fun _ _ => rfl))
              case r4 =>
                refine' pss_cut ?s5 ?r5
                case s5 =>
                  refine' ps_if ?c (pss_one ?b) pss_nil
                  case c => exact (pw_or (pt_cmpR op_lt (pv 3) pe_int (nomark _)) (pw_or (pt_cmpR op_lt (pe_dget hu (pv 1) pe_str (fun _ _ => rfl)) pe_int (nomark _)) (pw_or (pt_cmpR op_lt (pe_dget hu (pv 1) pe_str (fun _ _ => rfl)) (pe_op op_mul pe_int (pv 4)) (nomark _)) (pw_or1 (pt_cmpR op_eq (pv 6) pe_str (nomark _)))))).pt
                  case b => exact ps_ret (pe_call GL hr3 (by rfl) G.L.m G.L.F.kp G.L.b .nil pass0 (pa_n (pv 0) (pa_n (pv 1) (pa_n (pv 2) pa_nil))))
                case r5 =>
                  refine' pss_cons ?s6 ?r6
                  case s6 => exact ps_if (pt_cmpR op_eq (pv 6) pe_str (nomark _)) (pss_one (ps_ret (pe_call GY hrY (by rfl) FY.m FY.F.kp FY.b .nil pass0 (pa_n (pv 0) (pa_n (pv 1) (pa_n (pv 2) (pa_n (pv 3) (pa_n (pv 4) pa_nil)))))))) pss_nil
                  case r6 =>
                    refine' pss_cons ?s7 ?r7
                    case s7 => exact ps_if (pt_cmpR op_eq (pv 6) pe_str (nomark _)) (pss_one (ps_ret (pe_call GC hr (by rfl) FC.m FC.F.kp FC.b .nil pass0 (pa_n (pv 0) (pa_n (pv 1) (pa_n (pv 2) (pa_n (pv 3) (pa_n (pv 4) pa_nil)))))))) pss_nil
                    case r7 =>
                      refine' pss_cut ?s8 ?r8
                      case s8 => exact ps_if (pt_cmpR op_in_seq (pv 6) (pe_tup (pa_k pe_str (pa_k pe_str (pa_k pe_str pa_nil)))) (by with_unfolding_all rfl)) (pss_one (ps_ret (pe_call GB hr (by rfl) FB.m FB.F.kp FB.b .nil pass0 (pa_n (pv 0) (pa_n (pv 1) (pa_n (pv 2) (pa_n (pv 3) (pa_n (pv 4) (pa_n (pv 6) pa_nil))))))))) pss_nil
                      case r8 =>
                        refine' pss_cons ?s9 ?r9
                        case s9 =>
                          refine' ps_if ?c (pss_cons ?e1 (pss_cut ?e2 (pss_one ?e3))) pss_nil
                          case c => exact pt_cmpR op_eq (pv 6) pe_str (nomark _)
                          case e1 => exact ps_set (i := 7) scExpr.nd rfl (Or.inl rfl) (pe_ix ix_list (pe_lst (pa_k pe_int (pa_k pe_int (pa_k pe_int (pa_k pe_int (pa_k pe_int (pa_k pe_int pa_nil))))))) (pe_call GD hr1 (by rfl) G.U.mD G.U.D.kp G.U.bD .nil pass0 (pa_n (pv 0) (pa_k pe_int pa_nil))) (fun _ _ => rfl))
                          case e2 => exact ps_if (pt_cmpR op_lt (pe_dget hu (pv 1) pe_str (fun _ _ => rfl)) (pe_op op_mul (pe_op op_mul pe_int (pv 4)) (pv 7)) (nomark _)) (pss_one (ps_set (i := 7) scExpr.nd rfl (Or.inl rfl) pe_int)) pss_nil
                          case e3 => exact ps_ret (pe_tup (pa_k pe_str (pa_n (pv 7) (pa_c (pe_call ih hrE (by rfl) FE.m FE.F.kp FE.b .nil pass0 (pa_n (pv 0) (pa_n (pv 1) (pa_n (pv 2) (pa_cons (pe_op op_sub (pv 3) pe_int) (pa_cons (pe_op op_mul (pv 4) (pv 7)) pa_nil)))))) pa_nil))))
                        case r9 =>
                          refine' pss_cons ?s10 ?r10
                          case s10 => exact ps_set (i := 8) scExpr.nd rfl (Or.inl rfl) (pe_lst (pa_k pe_str pa_nil))
                          case r10 =>
                            refine' pss_cut ?s11 ?r11
                            case s11 => exact ps_set (i := 7) scExpr.nd rfl (Or.inl rfl) (pe_ix ix_list (pe_lst (pa_k pe_int (pa_k pe_int (pa_k pe_int (pa_k pe_int (pa_k pe_int (pa_k pe_int pa_nil))))))) (pe_call GD hr1 (by rfl) G.U.mD G.U.D.kp G.U.bD .nil pass0 (pa_n (pv 0) (pa_k pe_int pa_nil))) (fun _ _ => rfl))
                            case r11 =>
                              refine' pss_cut ?s12 ?r12
                              case s12 => exact ps_if (pt_cmpR op_eq (pv 6) pe_str (nomark _)) (pss_cons (ps_set (i := 8) scExpr.nd rfl (Or.inl rfl) (pe_lst (pa_k pe_str pa_nil))) (pss_one (ps_set (i := 7) scExpr.nd rfl (Or.inl rfl) pe_int))) pss_nil
                              case r12 =>
                                refine' pss_cut ?s13 ?r13
                                case s13 => exact ps_if (pt_cmpR op_eq (pv 6) pe_str (nomark _)) (pss_cons (ps_set (i := 8) scExpr.nd rfl (Or.inl rfl) (pe_lst (pa_k pe_str (pa_cons (pe_ix ix_str pe_str (pe_call GD hr1 (by rfl) G.U.mD G.U.D.kp G.U.bD .nil pass0 (pa_n (pv 0) (pa_k pe_int pa_nil))) (fun _ _ => rfl)) pa_nil)))) (pss_one (ps_set (i := 7) scExpr.nd rfl (Or.inl rfl) pe_int))) pss_nil
                                case r13 =>
                                  refine' pss_one ?s14
                                  case s14 =>
                                    refine' ps_ret (pe_callTy call_tuple_of (by rfl) G.X.T.tup (by decide +kernel) (pa_cons (pe_op op_cat (pv 8) ?x) pa_nil))
                                    case x =>
                                      refine' pe_comp (N' := ["_law_feed_here", "_law_world_here", "_law_bound_here", "_law_below", "_law_times", "_law_k"]) (src := [some 0, some 1, some 2, some 3, some 4, none]) ?k1 ?k5 ?k6 ?k7
                                      case k1 => rfl
                                      case k5 => exact compScope_of (defScope sExpr) rfl ["_law_feed_here", "_law_world_here", "_law_bound_here", "_law_below", "_law_times", "_law_kinds", "_law_kind", "_law_many", "_law_head"] rfl (by decide +kernel)
                                      case k6 => exact pi_range1 (by rfl) G.U.T.range (pa_n (pv 7) pa_nil)
                                      case k7 => exact fun cl C ex s0 H0 => ⟨pg_name (i := 5) nd_fwbdtk rfl (Or.inl rfl), pts_nil, pe_call ih hrE (by rfl) FE.m FE.F.kp FE.b .nil pass0 (pa_n (pv 0) (pa_n (pv 1) (pa_n (pv 2) (pa_cons (pe_op op_sub (pv 3) pe_int) (pa_n (pv 4) pa_nil)))))⟩
      case fin =>
        refine ⟨_, rfl, wd, .int r, rfl, wget_room C0.W, _, _, rfl, rfl, _, rfl, wd, _, rfl, wset_room C0.W, ?_⟩
        have C1 := C0.put (r2 := r - 1) (z2 := z)
        refine ⟨_, rfl, wd, .int z, rfl, wget_toil C1.W, _, rfl, _, _, rfl, rfl, _, rfl, wd, _, rfl, wset_toil C1.W, ?_⟩
        have C2 := C1.put (r2 := r - 1) (z2 := z - tm)
        revert C2
        generalize z - tm = z2
        intro C2
        have leaf : ∀ H4 n4, n4 ≤ n + 1 → Ctx S M H H4 d l wd a i bd bs ns n4 (r - 1) z2 → spLeaf S M [.ref d, .ref wd, .ref bd] H4 (fun v H' => Q v H') E := by
          intro H4 n4 h4 C4
          refine ⟨d, l, wd, a, i, bd, bs, ns, n4, r - 1, z2, rfl, by omega, C4.zero, fun v t n5 H5 hv hL hn5 C5 => ?_⟩
          exact k v t n5 (r - 1) z2 H5 hv (hL.1.le (by omega)) (by have := hL.2; omega) (fun _ => rfl) (by omega) (by omega) (C5.tail C4.b2)
        refine ⟨fun σ' H' => ∃ ka, σ' = [some (.ref d), some (.ref wd), some (.ref bd), some (.int b), some (.int tm), some (.ref ka), none, none, none] ∧ H' ka = some (.lst (kinds14.map V.str)) ∧ Ctx S M H H' d l wd a i bd bs ns n (r - 1) z2, ?_, ?_⟩
        · refine ⟨small_len (by decide +kernel), fun ka hka => ⟨ka, rfl, upd_same, C2.same (same_upd hka)⟩⟩
        clear C0 C1 C2
        rintro σ3 H3 ⟨ka, rfl, K3, C3⟩
        refine ⟨fun σ' H' => ∃ kd n', σ' = [some (.ref d), some (.ref wd), some (.ref bd), some (.int b), some (.int tm), some (.ref ka), some (.str kd), none, none] ∧ n' ≤ n + 1 ∧ Ctx S M H H' d l wd a i bd bs ns n' (r - 1) z2, ?_, ?_⟩
        · refine ⟨_, rfl, _, rfl, d, l, ns, n, _, rfl, C3.F, by omega, by decide, by decide, fun q n4 H4 q0 q1 hn4 F4 b4 => ?_⟩
          obtain ⟨v, hv, hat⟩ := at_in (xs := kinds14.map V.str) (i := q) q0 (Int.lt_of_lt_of_le q1 (by decide +kernel))
          obtain ⟨kd, _, rfl⟩ := List.mem_map.mp hv
          exact ⟨ka, kinds14.map V.str, q, .str kd, rfl, rfl, SqL.of (C3.F.lst b4 K3), hat, kd, n4, rfl, hn4, C3.draw b4 F4⟩
        clear K3 C3
        rintro σ4 H4 ⟨kd, n4, rfl, hn4, C4⟩
        refine ⟨fun σ' H' => σ' = [some (.ref d), some (.ref wd), some (.ref bd), some (.int b), some (.int tm), some (.ref ka), some (.str kd), none, none] ∧ H' = H4 ∧ 1 ≤ N ∧ 7 ≤ r, ?_, ?_⟩
        · refine ⟨_, rfl, _, _, rfl, rfl, _, rfl, ite2 (fun g => iteT ⟨_, rfl, _, rfl, _, rfl, leaf _ n4 hn4 C4⟩) (fun g1 => ?_)⟩
          refine ⟨_, rfl, wd, .int (r - 1), rfl, wget_room C4.W, _, _, rfl, rfl, _, rfl, ite2 (fun g => iteT ⟨_, rfl, _, rfl, _, rfl, leaf _ n4 hn4 C4⟩) (fun g2 => ?_)⟩
          refine ⟨_, rfl, wd, .int z2, rfl, wget_toil C4.W, _, rfl, _, _, rfl, rfl, .inl ⟨by decide, by decide⟩, _, _, rfl, rfl, _, rfl, ite2 (fun g => iteT ⟨_, rfl, _, rfl, _, rfl, leaf _ n4 hn4 C4⟩) (fun g3 => ?_)⟩
          rw [decide_eq_true_iff] at g1 g2
          refine ⟨_, rfl, rfl, _, rfl, ite2 (fun g => ⟨_, rfl, _, rfl, _, rfl, leaf _ n4 hn4 C4⟩) (fun g4 => ⟨rfl, rfl, by omega, by omega⟩)⟩
        rintro σ5 H5 ⟨rfl, rfl, hN, hr7⟩
        refine ⟨_, rfl, rfl, _, rfl, ite2 (fun g => ?_) (fun g => ?_)⟩
        · refine ⟨_, rfl, _, rfl, _, rfl, _, rfl, _, rfl, d, l, wd, a, i, bd, bs, ns, n4, r - 1, z2, b, tm, rfl, by omega, hM, ht0, by omega, by omega, C4.zero, fun v t n5 r5 z5 H5 h5 p5 c5 y1 hn5 C5 => ?_⟩
          exact k v t n5 r5 z5 H5 h5 (p5.le (by omega)) (by omega) (by omega) (by omega) (by omega) (C5.tail C4.b2)
        refine ⟨_, rfl, rfl, _, rfl, ite2 (fun g => ?_) (fun g => ?_)⟩
        · refine ⟨_, rfl, _, rfl, _, rfl, _, rfl, _, rfl, d, l, wd, a, i, bd, bs, ns, n4, r - 1, z2, b, tm, rfl, hN, by omega, by omega, hM, ht0, by omega, by omega, by omega, by omega, C4.zero, fun v t n5 r5 z5 H5 h5 p5 c5 y1 hn5 C5 => ?_⟩
          exact k v t n5 r5 z5 H5 h5 p5 (by omega) (by omega) (by omega) (by omega) (C5.tail C4.b2)
        refine ⟨fun σ' H' => σ' = [some (.ref d), some (.ref wd), some (.ref bd), some (.int b), some (.int tm), some (.ref ka), some (.str kd), none, none] ∧ Ctx S M H H' d l wd a i bd bs ns n4 (r - 1) z2, ?_, ?_⟩
        · refine ⟨_, rfl, (by show 3 ≤ sizeLine; decide), fun c hc => ?_⟩
          have sc := same_upd (o := .tup [.str "let", .str "set", .str "say"]) hc
          have C5 := C4.same sc
          refine ⟨c, [.str "let", .str "set", .str "say"], rfl, .inr (SqT.of upd_same), rfl, by decide +kernel, _, rfl, ite2 (fun g => ?_) (fun g => ⟨rfl, C5⟩)⟩
          refine ⟨_, rfl, _, rfl, _, rfl, _, rfl, _, rfl, _, rfl, d, l, wd, a, i, bd, bs, ns, n4, r - 1, z2, b, tm, kd, rfl, hN, by omega, by omega, hM, ht0, by omega, by omega, by omega, by omega, C5.zero, fun v t n6 r6 z6 H6 h6 p6 c6 y1 hn6 C6 => ?_⟩
          exact k v t n6 r6 z6 H6 h6 p6 (by omega) (by omega) (by omega) (by omega) (C6.tail C5.b2)
        clear C4
        rintro σ8 H8 ⟨rfl, C8⟩
        refine ⟨_, rfl, rfl, _, rfl, ite2 (fun g => ?_) (fun g => ?_)⟩
        · refine ⟨(by show 6 ≤ sizeLine; decide), fun c hc => ?_⟩
          have sc := same_upd (o := .lst [.int 2, .int 3, .int 0, .int 1, .int 5, .int 2]) hc
          have C9 := C8.same sc
          refine ⟨_, rfl, d, l, ns, n4, _, rfl, C9.F, by omega, by decide, by decide, fun q n10 H10 q0 q1 hn10 F10 b10 => ?_⟩
          have C10 := C9.draw b10 F10
          obtain ⟨v, hv, hat⟩ := at_in (xs := [V.int 2, .int 3, .int 0, .int 1, .int 5, .int 2]) (i := q) q0 (Int.lt_of_lt_of_le q1 (by decide))
          obtain ⟨mn, rfl, hm0, hm5⟩ : ∃ mn : Int, v = .int mn ∧ 0 ≤ mn ∧ mn ≤ 5 := by
            simp only [List.mem_cons, List.not_mem_nil, or_false] at hv
            rcases hv with rfl | rfl | rfl | rfl | rfl | rfl <;> exact ⟨_, rfl, by decide, by decide⟩
          refine ⟨c, _, q, .int mn, rfl, rfl, SqL.of (C9.F.lst b10 upd_same), hat, ?_⟩
          refine ⟨fun σ' H' => ∃ mn : Int, σ' = [some (.ref d), some (.ref wd), some (.ref bd), some (.int b), some (.int tm), some (.ref ka), some (.str kd), some (.int mn), none] ∧ H' = H10 ∧ 0 ≤ mn ∧ mn ≤ 5, ?_, ?_⟩
          · refine ⟨_, rfl, wd, .int z2, rfl, wget_toil C10.W, _, rfl, _, _, rfl, rfl, .inl ⟨by decide, by decide⟩, _, rfl, _, _, rfl, rfl, .inr ⟨by omega, by omega⟩, _, _, rfl, rfl, _, rfl, ite2 (fun g => ⟨1, rfl, rfl, by decide, by decide⟩) (fun g => ⟨mn, rfl, rfl, hm0, hm5⟩)⟩
          clear hat hv hm0 hm5
          rintro σ11 H11 ⟨mn, rfl, rfl, hm0, hm5⟩
          have hp0 : 0 ≤ tm * mn := Int.mul_nonneg ht0 hm0
          have hp1 : tm * mn ≤ tm * 5 := Int.mul_le_mul_of_nonneg_left hm5 ht0
          refine ⟨_, rfl, _, rfl, _, rfl, _, rfl, _, rfl, _, _, rfl, rfl, _, rfl, _, rfl, _, _, rfl, rfl, .inr ⟨by omega, by omega⟩, d, l, wd, a, i, bd, bs, ns, n10, r - 1, z2, b - 1, tm * mn, rfl, hN, by omega, by omega, hM, hp0, by omega, by omega, by omega, C10.zero, fun v t n12 r12 z12 H12 h12 p12 c12 y1 y2 hn12 C12 => ⟨(by show 3 ≤ sizeLine; decide), fun p hp => ?_⟩⟩
          have sp := same_upd (o := .tup [.str "again", .int mn, v]) hp
          have hk := cnt_pf p12
          refine k (.ref p) (nd "again" [.int mn] [t]) n12 r12 z12 _ (.tup upd_same (.cons (.at (by decide +kernel)) (.cons (.at rfl) (.cons (IsTh.kp (Kp.of sp) h12) .nil)))) (pf_again hm0 hm5 p12) ?_ (by omega) (by omega) (by omega) ((C12.tail C10.b2).same sp)
          rw [cnt_1 p12]
          omega
        · refine ⟨(by show 1 ≤ sizeLine; decide), fun h0 hh0 => ?_⟩
          have sh := same_upd (o := .lst [.str "do"]) hh0
          have C9 := C8.same sh
          let Mh : St → Hp → Prop := fun σ' H' => ∃ (h : Addr) (wo : Str) (own : List V) (mn : Int) (n' : Nat), σ' = [some (.ref d), some (.ref wd), some (.ref bd), some (.int b), some (.int tm), some (.ref ka), some (.str kd), some (.int mn), some (.ref h)] ∧ H' h = some (.lst (.str wo :: own)) ∧ OwnOk S wo own mn.toNat ∧ 1 ≤ mn ∧ mn ≤ 6 ∧ n' ≤ n + 2 ∧ Ctx S M H H' d l wd a i bd bs ns n' (r - 1) z2
          refine ⟨Mh, ?_, ?_⟩
          · refine ⟨(by show 6 ≤ sizeLine; decide), fun c hc => ?_⟩
            have sc := same_upd (o := .lst [.int 2, .int 3, .int 1, .int 2, .int 4, .int 6]) hc
            have C10 := C9.same sc
            refine ⟨_, rfl, d, l, ns, n4, _, rfl, C10.F, by omega, by decide, by decide, fun q n11 H11 q0 q1 hn11 F11 b11 => ?_⟩
            obtain ⟨v, hv, hat⟩ := at_in (xs := [V.int 2, .int 3, .int 1, .int 2, .int 4, .int 6]) (i := q) q0 (Int.lt_of_lt_of_le q1 (by decide))
            obtain ⟨mn, rfl, hm0, hm5⟩ : ∃ mn : Int, v = .int mn ∧ 1 ≤ mn ∧ mn ≤ 6 := by
              simp only [List.mem_cons, List.not_mem_nil, or_false] at hv
              rcases hv with rfl | rfl | rfl | rfl | rfl | rfl <;> exact ⟨_, rfl, by decide, by decide⟩
            exact ⟨c, _, q, .int mn, rfl, rfl, SqL.of (C10.F.lst b11 upd_same), hat, h0, "do", [], mn, n11, rfl, C10.F.lst b11 (sc _ _ upd_same), own_do (by omega) (by omega), hm0, hm5, by omega, C10.draw b11 F11⟩
          clear C8 C9 sh hh0
          rintro σ11 H11 ⟨h, wo, own, mn, n11, rfl, hh, hO, hm1, hm6, hn11, C11⟩
          refine ⟨Mh, ?_, ?_⟩
          · refine ⟨_, rfl, rfl, _, rfl, ite2 (fun g => ?_) (fun g => ⟨h, wo, own, mn, n11, rfl, hh, hO, hm1, hm6, hn11, C11⟩)⟩
            refine ⟨(by show 1 ≤ sizeLine; decide), fun h2 hh2 => ?_⟩
            exact ⟨h2, "pick", [], 3, n11, rfl, upd_same, own_pick, by decide, by decide, hn11, C11.same (same_upd hh2)⟩
          clear hh hO hm1 hm6 hn11 C11
          rintro σ12 H12 ⟨h, wo, own, mn, n12, rfl, hh, hO, hm1, hm6, hn12, C12⟩
          refine ⟨fun σ' H' => ∃ (h : Addr) (wo : Str) (own : List V) (mn : Int) (n' : Nat), σ' = [some (.ref d), some (.ref wd), some (.ref bd), some (.int b), some (.int tm), some (.ref ka), some (.str kd), some (.int mn), some (.ref h)] ∧ H' h = some (.lst (.str wo :: own)) ∧ OwnOk S wo own mn.toNat ∧ 1 ≤ mn ∧ mn ≤ 6 ∧ n' ≤ n + 3 ∧ Ctx S M H H' d l wd a i bd bs ns n' (r - 1) z2, ?_, ?_⟩
          · refine ⟨_, rfl, rfl, _, rfl, ite2 (fun g => ?_) (fun g => ⟨h, wo, own, mn, n12, rfl, hh, hO, hm1, hm6, by omega, C12⟩)⟩
            refine ⟨_, rfl, d, l, ns, n12, _, rfl, C12.F, by omega, by decide, by decide, fun q n13 H13 q0 q1 hn13 F13 b13 => ?_⟩
            obtain ⟨c, hc, hat⟩ := at_in (xs := signs6.cps.toList) (i := q) q0 (Int.lt_of_lt_of_le q1 (by decide +kernel))
            have C13 := C12.draw b13 F13
            refine ⟨signs6, q, c, rfl, rfl, (by decide +kernel), hat, (by show 2 ≤ sizeLine; decide), fun h2 hh2 => ?_⟩
            exact ⟨h2, "op", [.str ⟨#[c]⟩], 2, n13, rfl, upd_same, own_op hc, by decide, by decide, by omega, C13.same (same_upd hh2)⟩
          clear hh hO hm1 hm6 hn12 C12
          rintro σ14 H14 ⟨h, wo, own, mn, n14, rfl, hh, hO, hm1, hm6, hn14, C14⟩
          have hol := hO.l
          refine ⟨_, rfl, _, rfl, mn, rfl, by omega, by omega, comp_range (lo := 0) (n := mn.toNat) (fun j ys σc H' => ∃ (n' : Nat) (o : Option V) (r' z' : Int) (cs : List Th), σc = [some (.ref d), some (.ref wd), some (.ref bd), some (.int b), some (.int tm), o] ∧ Ctx S M H14 H' d l wd a i bd bs ns n' r' z' ∧ n' ≤ n14 + j * cD N ∧ Rooms N (r - 1) j r' ∧ IsThs H' ys cs ∧ cs.length = j ∧ (∀ c ∈ cs, PfT S (M + N) c) ∧ (cnts cs : Int) ≤ r - 1 - r')
            ⟨n14, none, r - 1, z2, [], rfl, C14.zero, by omega, ⟨fun _ => rfl, fun q => absurd q (by decide)⟩, .nil, rfl, (fun c hc => by cases hc), by simp [cnts]⟩ ?_ ?_⟩
          · rintro j ys σc H' hj ⟨n', o, r', z', cs, rfl, C', hn', hR, hcs, hcl, hca, hcz⟩
            have hmul : j * cD N ≤ 5 * cD N := Nat.mul_le_mul_right _ (by omega)
            have hys := IsThs.len _ hcs
            refine ⟨by omega, ?_⟩
            refine ⟨_, rfl, _, rfl, _, rfl, _, rfl, _, _, rfl, rfl, _, rfl, d, l, wd, a, i, bd, bs, ns, n', r', z', b - 1, tm, rfl, hN, by omega, by omega, hM, ht0, by omega, by omega, by omega, C'.zero, fun v t n5 r5 z5 H5 h5 p5 c5 y1 y2 hn5 C5 => ?_⟩
            refine nx hj ⟨n5, _, r5, z5, cs ++ [t], rfl, C5.tail C'.b2, by rw [Nat.succ_mul]; omega, hR.next hN (by omega) y1 y2, IsThs.app _ (IsThs.kp (C5.b2.kp C'.F C'.W) hcs) (.cons h5 .nil), by rw [List.length_append, hcl]; rfl, fun c hc => ?_, ?_⟩
            · rcases List.mem_append.mp hc with y | y
              · exact hca c y
              · rw [List.mem_singleton] at y; subst y; exact p5
            · rw [cnts_snoc]
              omega
          · rintro ys σc H' ⟨n', o, r', z', cs, rfl, C', hn', hR, hcs, hcl, hca, hcz⟩ q hq
            have hys := IsThs.len _ hcs
            have sq := same_upd (o := .lst ys) hq
            have D' := sq _ _ (C'.b2.kp C14.F C14.W _ _ hh (fun _ z => by cases z))
            have hmul : mn.toNat * cD N ≤ 6 * cD N := Nat.mul_le_mul_right _ (by omega)
            refine ⟨h, q, _, ys, rfl, rfl, D', upd_same, by rw [List.length_cons]; omega, fun r3 hr3 => ?_⟩
            have s3 := same_upd (o := .lst (.str wo :: own ++ ys)) hr3
            refine ⟨r3, .str wo :: own ++ ys, rfl, .inl ⟨SqL.of upd_same, fun p hp => ?_⟩⟩
            have sp := same_upd (o := .tup (.str wo :: own ++ ys)) hp
            have sA := (sq.trans s3).trans sp
            refine k (.ref p) (nd wo own cs) n' r' z' _ (.tup upd_same (.cons (.at hO.t) (IsThs.app _ (ths_own hO.s) (IsThs.kp (Kp.of sA) hcs)))) (pf_node hO.l hO.p hO.n (by rw [hcl]; exact hO.e) (by omega) hca) ?_ (by omega) ?_ (by omega) ((C'.tail C14.b2).same sA)
            · rw [cnt_nd fun k hk => (hca k hk).isTup]
              omega
            · intro _
              have := hR.2 (by omega)
              omega
end
end K54

set_option Elab.async false
set_option linter.all false
set_option maxRecDepth 100000
set_option maxHeartbeats 4000000
namespace L2
open PySem PySem.Spec PyProof.Rows
section
variable {X : Cx}
/-- dict(d): a copy -/
theorem call_dict_of : CallR X (.type "dict") (fun xs H Q => ∃ (p : Addr) (kvs : List (Key × V)), xs = [.ref p] ∧ H p = some (.dK kvs) ∧ ∀ a, H a = none → Q (.ref a) (upd H a (.dK kvs))) := by
  intro pins s σ H xs us Q I r h
  obtain ⟨p, kvs, rfl, hp, q⟩ := h
  obtain ⟨u, rfl, rx⟩ := vals1 r
  cases rx
  exact d_copyOf I (Rd.of hp) fun a s' ha I' => ⟨.ref a, _, I', rfl, q a ha⟩
end
end L2

set_option Elab.async false
set_option linter.all false
set_option maxRecDepth 100000
set_option maxHeartbeats 4000000
namespace K54
open PySem L2
/-- where the functions stand that draw an expression -/
structure ExpF where
  g : GenF
  fE : Addr
  fB : Addr
  fC : Addr
  fY : Addr
  dE : FuncData
  dB : FuncData
  dC : FuncData
  dY : FuncData
structure Exp (K : PySem.W.Frag) (mg : Str → Option Value) (x : ExpF) : Prop where
  G : Gen K mg x.g
  E : Fn K mg "_law_expr" sExpr ["_law_feed_here", "_law_world_here", "_law_bound_here", "_law_below", "_law_times"] x.fE x.dE
  B : Fn K mg "_law_bound" sBound ["_law_feed_here", "_law_world_here", "_law_bound_here", "_law_below", "_law_times", "_law_kind"] x.fB x.dB
  C : Fn K mg "_law_called" sCalled ["_law_feed_here", "_law_world_here", "_law_bound_here", "_law_below", "_law_times"] x.fC x.dC
  Y : Fn K mg "_law_copied" sCopied ["_law_feed_here", "_law_world_here", "_law_bound_here", "_law_below", "_law_times"] x.fY x.dY
  dict : mg "dict" = none
theorem cD4 : cD 4 = 10360 := by decide +kernel
theorem cD7 : cD 7 = 2239480 := by decide +kernel
/-- an empty bag of seeds -/
def WI.bare (i : WI) : WI := { i with sv := [], ss := [] }
def spSeeds (S : List Str) : Sp := fun vs H Q _ => ∃ (d l wd : Addr) (a : WA) (i : WI) (ns : List Int) (n : Nat) (r z m : Int), vs = [.ref d, .ref wd, .int m] ∧ 0 ≤ m ∧ m ≤ 10 ∧ n ≤ 500000000000 ∧ Feed H d l ns n ∧ H wd = some (.dK (worldKV a r z)) ∧ Wf S 0 H d wd a i ∧
  ∀ (sd : Addr) (sv : List V) (ss : List Th) (n' : Nat) H', H sd = none → H' sd = some (.lst sv) → IsThs H' sv ss → (∀ t ∈ ss, PfT S 4 t) → sv.length = m.toNat → n' ≤ n + 10360 * m.toNat → Feed H' d l ns n' → But d H H' → Q (.ref sd) H'
section
variable {S : List Str} {P : Program} {w : World} {K : PySem.W.Frag} {mg : Str → Option Value} {base : Heap} {x : ExpF}
theorem Exp.gE {M : Nat} (G : Exp K mg x) (N : Nat) : FnOk P w K mg base CX0 (2 * N + M + 4) x.fE x.dE ["_law_feed_here", "_law_world_here", "_law_bound_here", "_law_below", "_law_times"] (spExpr S M N) := ok_expr G.G G.E G.B G.C G.Y N
theorem scSeeds : FnScope ["_law_feed_here", "_law_world_here", "_law_many", "_law_found", "_law_k", "_law_small"] ["_law_feed_here", "_law_world_here", "_law_many"] (defScope sSeeds) := ⟨rfl, rfl, rfl, by decide +kernel, rfl, by decide +kernel, by decide +kernel⟩
theorem ok_seeds {f : Addr} {fd : FuncData} (F : Fun K "_law_seeds" "_law_seeds" sSeeds f fd) (G : Exp K mg x) :
    FnOk P w K mg base CX0 13 f fd ["_law_feed_here", "_law_world_here", "_law_many"] (spSeeds S) := by
  have GE : FnOk P w K mg base CX0 12 x.fE x.dE ["_law_feed_here", "_law_world_here", "_law_bound_here", "_law_below", "_law_times"] (spExpr S 0 4) := G.gE (M := 0) 4
  refine F.ok scSeeds (fun vs H Q E h => ?_) (fun cdv A outer s H vs Q E hr h => ?_)
  · obtain ⟨d, l, wd, a, i, ns, n, r, z, m, rfl, _⟩ := h
    rfl
  · obtain ⟨d, l, wd, a, i, ns, n, r, z, m, rfl, hm0, hm1, hn, F0, W0, N0, k⟩ := h
    have hsz : sizeLine = 16777216 := sizeLine_eq
    have hu : (_ : Around).units + 1 < cLine := Nat.lt_of_le_of_lt (Nat.add_le_add_left (by decide) _) hr.units
    refine' ⟨?tt, ?body, ?fin⟩
    case body =>
      refine' pss_cons ?s1 (pss_cons ?s2 (pss_one ?s3))
      case s1 => exact ps_set (i := 3) scSeeds.nd rfl (Or.inl rfl) (pe_lst pa_nil)
      case s2 =>
        refine' ps_for PassesOwn.never rfl (pi_range1 (by rfl) G.G.U.T.range (pa_n (pv 2) pa_nil)) (pg_name (i := 4) scSeeds.nd rfl (Or.inl rfl)) (pss_cons ?b1 (pss_cons ?b2 (pss_cons ?b3 (pss_cons ?b4 (pss_one ?b5)))))
        case b1 => exact ps_set (i := 5) scSeeds.nd rfl (Or.inl rfl) (pe_callTy call_dict_of (by rfl) G.dict (by decide +kernel) (pa_n (pv 1) pa_nil))
        case b2 => exact ps_dput hu (pv 5) pe_str (pe_lst pa_nil) (by rfl)
        case b3 => exact ps_dput hu (pv 5) pe_str pe_int (by rfl)
        case b4 => exact ps_dput hu (pv 5) pe_str pe_int (by rfl)
        case b5 => exact ps_expr (pe_bm PySem.F.plainAttrs_list PySem.F.slot_list_append PySem.F.type_list_append mt_append (pv 3) (pa_c (pe_call GE hr (by rfl) G.E.m G.E.F.kp G.E.b .nil pass0 (pa_n (pv 0) (pa_n (pv 5) (pa_cons (pe_lst pa_nil) (pa_k pe_int (pa_k pe_int pa_nil)))))) pa_nil))
      case s3 => exact ps_ret (pv 3)
    case fin =>
      refine ⟨Nat.zero_le _, fun sd hsd => ?_⟩
      have hsd_l : sd ≠ l := fun e => by
        have h0 : H l = some _ := F0.ls
        rw [← e, hsd] at h0
        cases h0
      refine ⟨_, rfl, m, rfl, by omega, by omega, for_range (n := m.toNat) (fun j σ H' => ∃ (sv : List V) (ss : List Th) (n' : Nat) (o4 o5 : Option V), σ = [some (.ref d), some (.ref wd), some (.int m), some (.ref sd), o4, o5] ∧ H' sd = some (.lst sv) ∧ IsThs H' sv ss ∧ (∀ t ∈ ss, PfT S 4 t) ∧ sv.length = j ∧ n' ≤ n + 10360 * j ∧ Feed H' d l ns n' ∧ But d H H')
        ⟨[], [], n, none, none, rfl, upd_same, .nil, (fun t ht => by cases ht), rfl, Nat.le_refl _, F0.same (same_upd hsd), But.of (same_upd hsd)⟩ ?_ ?_⟩
      · rintro j σ H1 hj ⟨sv, ss, n1, o4, o5, rfl, L1, T1, hp1, hl1, hn1, F1, B1⟩
        have W1 := B1 _ _ W0 (world_ne F0 W0)
        have N1 : Wf S 0 H1 d wd a i := N0.go (B1.kp F0) (But2.of B1)
        refine ⟨_, rfl, wd, _, rfl, W1, fun sm hsm => ?_⟩
        have s2 := same_upd (o := .dK (worldKV a r z)) hsm
        have hno : ∀ {b : Addr} {o : HO}, H1 b = some o → b ≠ sm := fun {b o} e q => by rw [q, hsm] at e; cases e
        refine ⟨Nat.zero_le _, fun q hq => ?_⟩
        have s3 := same_upd (o := .lst []) hq
        have W3 := s3 _ _ (upd_same (a := sm) (o := .dK (worldKV a r z)) (H := H1))
        refine ⟨_, rfl, sm, _, rfl, wset_seeds W3, ?_⟩
        refine ⟨_, rfl, sm, _, rfl, wset_room upd_same, ?_⟩
        refine ⟨_, rfl, sm, _, rfl, wset_toil upd_same, ?_⟩
        have hqs : q ≠ sm := fun e => by rw [e, upd_same] at hq; cases hq
        have hq1 : H1 q = none := same_none s2 hq
        obtain ⟨H4, hH4⟩ : ∃ H4, H4 = upd (upd (upd (upd (upd H1 sm (.dK (worldKV a r z))) q (.lst [])) sm (.dK (worldKV { a with sd := q } r z))) sm (.dK (worldKV { a with sd := q } 7 z))) sm (.dK (worldKV { a with sd := q } 7 60)) := ⟨_, rfl⟩
        rw [← hH4]
        have s4 : Same H1 H4 := fun b o e => by
          have h1 := hno e
          have h2 : b ≠ q := fun z => by rw [z, hq1] at e; cases e
          rw [hH4, upd_ne h1, upd_ne h1, upd_ne h1, upd_ne h2, upd_ne h1]
          exact e
        have W4 : H4 sm = some (.dK (worldKV { a with sd := q } 7 60)) := by rw [hH4]; exact upd_same
        have Q4 : H4 q = some (.lst []) := by rw [hH4, upd_ne hqs, upd_ne hqs, upd_ne hqs]; exact upd_same
        have hsm0 : H1 sm = none := hsm
        clear hH4 W3 s3 s2 hq hsm
        refine ⟨_, rfl, .inl ⟨rfl, _, SqL.of (s4 _ _ L1)⟩, _, rfl, _, rfl, Nat.zero_le _, fun c hc => ?_⟩
        have s5 := same_upd (o := .lst []) hc
        have s15 := s4.trans s5
        have B5 : upd H4 c (.lst []) c = some (.lst (([] : List Str).map V.str)) := upd_same
        have W5 := s5 _ _ W4
        have Q5 := s5 _ _ Q4
        generalize upd H4 c (.lst []) = H5 at s5 s15 B5 W5 Q5
        have k15 := Kp.of s15
        have N5 : Wf S 0 H5 d sm { a with sd := q } i.bare := ⟨s15 _ _ N1.nm, s15 _ _ N1.lt, s15 _ _ N1.fn, fun v hv => let ⟨c, x, m, h1, h2, h3⟩ := N1.fe v hv; ⟨c, x, m, h1, s15 _ _ h2, h3⟩, s15 _ _ N1.wo, N1.wk, N1.o1, hno N1.wo, Q5, .nil, (fun t ht => by cases ht), N1.n1, N1.n2, N1.l2, N1.f2, Nat.zero_le _, N1.an, N1.bn⟩
        have C5 : Ctx S 0 H5 H5 d l sm { a with sd := q } i.bare c [] ns n1 7 60 := ⟨F1.same s15, W5, N5, B5, Nat.zero_le _, (fun t ht => by cases ht), But2.refl _ _ _⟩
        have e4 := cD4
        refine ⟨d, l, sm, _, i.bare, c, [], ns, n1, 7, 60, 4, 1, rfl, by decide, by decide, by decide, by decide, by decide, ?_, by omega, by decide, C5, fun v t n6 r6 z6 H6 h6 p6 c6 y1 y2 hn6 C6 => ?_⟩
        · have := tB_succ (N := 4) (by decide)
          have := tB_pos (4 + 1)
          omega
        have hsd_d : sd ≠ d := ne_of (s15 _ _ L1) (C5.F.dc.choose_spec) (by intro z; cases z)
        have L6 := C6.b2 _ _ (s15 _ _ L1) hsd_d (hno L1)
        have T6 := IsThs.kp (C6.b2.kp C5.F C5.W) (IsThs.kp k15 T1)
        refine ⟨sd, _, _, rfl, rfl, L6, by omega, sv ++ [v], ss ++ [t], n6, _, _, rfl, upd_same, ?_, ?_, by rw [List.length_append, hl1]; rfl, by omega, ?_, ?_⟩
        · refine IsThs.app _ (ths_but L6 But.upd T6 (plTs_all fun y hy => (hp1 y hy).pl)) (.cons (th_but L6 But.upd h6 p6.pl) .nil)
        · intro y hy
          rcases List.mem_append.mp hy with q | q
          · exact hp1 y q
          · rw [List.mem_singleton] at q; rw [q]; exact p6
        · obtain ⟨⟨y, hd⟩, hl, hs⟩ := C6.F
          exact ⟨⟨y, by rw [upd_ne hsd_d.symm]; exact hd⟩, by rw [upd_ne hsd_l.symm]; exact hl, hs⟩
        · intro b o e hb
          have e1 := B1 b o e hb
          rw [upd_ne (ne_of_none e hsd)]
          exact C6.b2 b o (s15 _ _ e1) hb (hno e1)
      · rintro σ H1 ⟨sv, ss, n1, o4, o5, rfl, L1, T1, hp1, hl1, hn1, F1, B1⟩
        exact ⟨_, rfl, k sd sv ss n1 H1 hsd L1 T1 hp1 hl1 hn1 F1 B1⟩
end
end K54

set_option Elab.async false
set_option linter.all false
set_option maxRecDepth 100000
set_option maxHeartbeats 4000000
namespace K54
open PySem L2
theorem FnOk.ex {P : Program} {w : World} {K : PySem.W.Frag} {mg : Str → Option Value} {base : Heap} {CX : CXT} {k : Nat} {f : Addr} {fd : FuncData} {ps : List Str} {ι : Type} {sp : ι → Sp} (h : ∀ i, FnOk P w K mg base CX k f fd ps (sp i)) :
    FnOk P w K mg base CX k f fd ps (fun vs H Q E => ∃ i, sp i vs H Q E) :=
  ⟨fun vs H Q E ⟨i, q⟩ => (h i).len vs H Q E q, fun A outer s H args us vs Q E hr he hb hv ⟨i, q⟩ => (h i).run A outer s H args us vs Q E hr he hb hv q⟩
/-- a function: its name, its params, its body -/
structure Fd where
  x : Str
  ps : List Str
  t : Th
def Fd.th (f : Fd) : Th := .tup [.at (.str f.x), .tup (f.ps.map fun p => Th.at (.str p)), f.t]
def nmS (fs : List Fd) : List Str := fs.map (·.x)
theorem nmS_snoc (fs : List Fd) (f : Fd) : nmS (fs ++ [f]) = nmS fs ++ [f.x] := by unfold nmS; rw [List.map_append]; rfl
structure FdOk (S : List Str) (f : Fd) : Prop where
  b : PfT S 4 f.t
  n : Nm f.x
  d : f.x ∉ S
  l : f.ps.length ≤ 6
  p : ∀ p ∈ f.ps, Nm p
  c : cnt f.t ≤ 29
def FOk (fs : List Fd) : Prop := ∀ j f, fs[j]? = some f → FdOk (nmS (fs.take j)) f
theorem FOk.nil : FOk [] := fun j f h => by rw [List.getElem?_nil] at h; cases h
theorem FOk.snoc {fs : List Fd} {f : Fd} (h : FOk fs) (g : FdOk (nmS fs) f) : FOk (fs ++ [f]) := by
  intro j u hu
  by_cases hj : j < fs.length
  · rw [List.getElem?_append_left hj] at hu
    rw [List.take_append_of_le_length (by omega)]
    exact h j u hu
  · rw [List.getElem?_append_right (by omega)] at hu
    have h1 : j = fs.length := by
      rcases Nat.lt_or_ge (j - fs.length) 1 with y | y
      · omega
      · rw [List.getElem?_eq_none (by simpa using y)] at hu; cases hu
    subst h1
    rw [Nat.sub_self] at hu
    cases hu
    rw [List.take_append_of_le_length (Nat.le_refl _), List.take_length]
    exact g
/-- what the functions' bodies cost -/
def rhoF (fs : List Fd) : Str → Int := fs.foldl (fun ρ f => fun y => if y = f.x then wk ρ f.t else ρ y) (fun _ => 0)
theorem rhoF_snoc (fs : List Fd) (f : Fd) : rhoF (fs ++ [f]) = fun y => if y = f.x then wk (rhoF fs) f.t else rhoF fs y := by
  unfold rhoF
  rw [List.foldl_append]
  rfl
theorem Works.snoc {fs : List Fd} {f : Fd} {kvs : List (Key × V)} (h : Works (nmS fs) (rhoF fs) kvs) : Works (nmS (fs ++ [f])) (rhoF (fs ++ [f])) (putK kvs (Sum.inr f.x) (.int (wk (rhoF fs) f.t))) := by
  intro y hy
  rw [rhoF_snoc]
  rw [nmS_snoc] at hy
  by_cases e : y = f.x
  · subst e
    rw [valV_put, if_pos rfl]
    simp
  · rw [valV_put, if_neg (by intro q; injection q with q; exact e q)]
    rcases List.mem_append.mp hy with z | z
    · simp only [if_neg e]
      exact h y z
    · rw [List.mem_singleton] at z
      exact absurd z e
theorem putK_len (kvs : List (Key × V)) (k : Key) (v : V) : (putK kvs k v).length ≤ kvs.length + 1 := by
  unfold putK
  split
  · rw [List.length_map]; exact Nat.le_succ _
  · rw [List.length_append]; exact Nat.le_refl _
theorem cut_to0 {xs : List V} {z : Int} (h0 : 0 ≤ z) : cutV xs none (some z) = xs.take z.toNat := by
  by_cases h : z.toNat ≤ xs.length
  · exact cut_to h0 h
  · have e : HT.sIx xs.length xs.length (some z) = xs.length := by
      show (if z < 0 then (z + (xs.length : Int)).toNat else min z.toNat xs.length) = _
      rw [if_neg (by omega)]
      omega
    unfold cutV
    rw [e]
    show (xs.drop 0).take (xs.length - 0) = _
    rw [List.drop_zero, Nat.sub_zero, List.take_length, List.take_of_length_le (by omega)]
theorem Fd.pl {S : List Str} {f : Fd} (h : FdOk S f) : plT f.th = true := by
  unfold Fd.th
  rw [plT]
  refine plTs_all fun y hy => ?_
  simp only [List.mem_cons, List.not_mem_nil, or_false] at hy
  rcases hy with rfl | rfl | rfl
  · rfl
  · rw [plT]
    refine plTs_all fun y hy => ?_
    obtain ⟨q, _, rfl⟩ := List.mem_map.mp hy
    rfl
  · exact h.b.pl
/-- what the loop over the functions keeps -/
structure Lp (H H' : Hp) (d l nm lt fa ka wo : Addr) (ns : List Int) (n : Nat) (T1 T2 : List Str) (fv kv : List V) (kvs : List (Key × V)) (fA fB fC : List Fd) : Prop where
  F : Feed H' d l ns n
  pB : But d H H'
  pNm : H' nm = some (.lst (T1.map V.str))
  pLt : H' lt = some (.lst (T2.map V.str))
  pFa : H' fa = some (.lst fv)
  ft : IsThs H' fv (fA.map Fd.th)
  fo : FOk fA
  pKa : H' ka = some (.lst kv)
  kl : kv.length = fB.length
  ke : ∀ v ∈ kv, ∃ (c : Addr) (x : Str) (m : Int), v = .ref c ∧ H' c = some (.tup [.str x, .int m]) ∧ x ∈ nmS fB ∧ Nm x ∧ 0 ≤ m ∧ m ≤ 6
  pWo : H' wo = some (.dK kvs)
  wk : Works (nmS fC) (rhoF fC) kvs
  wl : kvs.length ≤ fC.length
  o1 : wo ≠ d
  fk : fa ≠ ka
section
variable {H H1 H2 : Hp} {d l nm lt fa ka wo : Addr} {ns : List Int} {n n2 : Nat} {T1 T2 : List Str} {fv kv : List V} {kvs : List (Key × V)} {fA fB fC : List Fd}
theorem Lp.go (C : Lp H H1 d l nm lt fa ka wo ns n T1 T2 fv kv kvs fA fB fC) (b : But d H1 H2) (F2 : Feed H2 d l ns n2) : Lp H H2 d l nm lt fa ka wo ns n2 T1 T2 fv kv kvs fA fB fC :=
  have k := b.kp C.F
  ⟨F2, C.pB.trans b, k _ _ C.pNm (fun _ z => by cases z), k _ _ C.pLt (fun _ z => by cases z), k _ _ C.pFa (fun _ z => by cases z), IsThs.kp k C.ft, C.fo, k _ _ C.pKa (fun _ z => by cases z), C.kl, fun v hv => let ⟨c, x, m, h1, h2, h3⟩ := C.ke v hv; ⟨c, x, m, h1, k _ _ h2 (fun _ z => by cases z), h3⟩, b _ _ C.pWo C.o1, C.wk, C.wl, C.o1, C.fk⟩
theorem Lp.same (C : Lp H H1 d l nm lt fa ka wo ns n T1 T2 fv kv kvs fA fB fC) (s : Same H1 H2) : Lp H H2 d l nm lt fa ka wo ns n T1 T2 fv kv kvs fA fB fC := C.go (But.of s) (C.F.same s)
theorem Lp.app (C : Lp H H1 d l nm lt fa ka wo ns n T1 T2 fv kv kvs fA fB fC) {v : V} {f : Fd} (hv : IsTh H1 v f.th) (g : FdOk (nmS fA) f) (h0 : H fa = none) (hl : fa ≠ l) (hn : fa ≠ nm) (ht : fa ≠ lt) :
    Lp H (upd H1 fa (.lst (fv ++ [v]))) d l nm lt fa ka wo ns n T1 T2 (fv ++ [v]) kv kvs (fA ++ [f]) fB fC := by
  obtain ⟨⟨y, hd⟩, hls, hs⟩ := C.F
  have hfd : fa ≠ d := ne_of C.pFa hd (by intro z; cases z)
  refine ⟨⟨⟨y, by rw [upd_ne hfd.symm]; exact hd⟩, by rw [upd_ne hl.symm]; exact hls, hs⟩, fun b o e hb => ?_, by rw [upd_ne hn.symm]; exact C.pNm, by rw [upd_ne ht.symm]; exact C.pLt, upd_same, ?_, C.fo.snoc g, by rw [upd_ne C.fk.symm]; exact C.pKa, C.kl, fun v hv => ?_, ?_, C.wk, C.wl, C.o1, C.fk⟩
  · rw [upd_ne (ne_of_none e h0)]
    exact C.pB b o e hb
  · rw [List.map_append]
    refine IsThs.app _ (ths_but C.pFa But.upd C.ft (plTs_all fun y hy => ?_)) (.cons (th_but C.pFa But.upd hv (Fd.pl g)) .nil)
    obtain ⟨u, hu, rfl⟩ := List.mem_map.mp hy
    obtain ⟨j, hj⟩ := List.getElem?_of_mem hu
    exact Fd.pl (C.fo j u hj)
  · obtain ⟨c, x, m, h1, h2, h3⟩ := C.ke v hv
    exact ⟨c, x, m, h1, by rw [upd_ne (ne_of h2 C.pFa (by intro z; cases z))]; exact h2, h3⟩
  · rw [upd_ne (ne_of C.pWo C.pFa (by intro z; cases z))]
    exact C.pWo
end
theorem fn_head {H : Hp} {v : V} {f : Fd} (h : IsTh H v f.th) : ∃ c vs, v = .ref c ∧ H c = some (.tup (.str f.x :: vs)) := by
  unfold Fd.th at h
  obtain ⟨a, vs, rfl, ha, hvs⟩ := th_tup h
  cases hvs with
  | cons d1 d2 =>
    obtain ⟨rfl, _⟩ := th_at d1
    exact ⟨a, _, rfl, ha⟩
theorem nmS_step {fs : List Fd} {i : Nat} {f : Fd} (h : fs[i]? = some f) : (nmS (fs.take i)).map V.str ++ [.str f.x] = (nmS (fs.take (i + 1))).map V.str := by
  unfold nmS
  rw [List.take_add_one, h]
  simp
theorem FOk.nm {fs : List Fd} (h : FOk fs) : ∀ t ∈ nmS fs, Nm t := by
  intro t ht
  obtain ⟨f, hf, rfl⟩ := List.mem_map.mp ht
  obtain ⟨j, hj⟩ := List.getElem?_of_mem hf
  exact (h j f hj).n
theorem ths_strs {H : Hp} : ∀ {ps : List Str}, (∀ p ∈ ps, Nm p) → IsThs H (ps.map V.str) (ps.map fun p => Th.at (.str p))
  | [], _ => .nil
  | p :: ps, h => .cons (.at (nm_small (h p (List.mem_cons_self ..)))) (ths_strs fun q hq => h q (List.mem_cons_of_mem _ hq))
/-- a drawn program as a thing -/
def prT (fs : List Fd) (m : Th) : Th := .tup [.tup (fs.map Fd.th), m]
def spProgram : Sp := fun vs H Q _ => ∃ (d l : Addr) (ns : List Int) (n : Nat) (r : Int), vs = [.ref d, .int r] ∧ Feed H d l ns n ∧ n ≤ 400000000000 ∧ 0 ≤ r ∧ r ≤ 1000 ∧
  ∀ (v : V) (fs : List Fd) (m : Th) (n' : Nat) H', IsTh H' v (prT fs m) → FOk fs → fs.length ≤ 3 → PfT (nmS fs) 11 m → (cnt m : Int) ≤ r + 36 → n' ≤ n + 2500000 → Feed H' d l ns n' → But d H H' → Q v H'
def spExprA (M N : Nat) : Sp := fun vs H Q E => ∃ S, spExpr S M N vs H Q E
def spWorkA (N : Nat) : Sp := fun vs H Q E => ∃ S, spLawWork S N vs H Q E
def spSeedsA : Sp := fun vs H Q E => ∃ S, spSeeds S vs H Q E
theorem nd_one : (["_law_one"] : List Str).Nodup := by decide +kernel
structure PrF where
  x : ExpF
  fM : Addr
  fA : Addr
  fO : Addr
  fZ : Addr
  dM : FuncData
  dA : FuncData
  dO : FuncData
  dZ : FuncData
structure Pr (K : PySem.W.Frag) (mg : Str → Option Value) (p : PrF) : Prop where
  E : Exp K mg p.x
  M : Fn K mg "_law_names" sNames ["_law_feed_here", "_law_many"] p.fM p.dM
  A : Fn K mg "_law_name" sLawName ["_law_feed_here", "_law_taken"] p.fA p.dA
  O : Fn K mg "_law_world" sWorld ["_law_names_here", "_law_lets", "_law_functions", "_law_works", "_law_room", "_law_toil"] p.fO p.dO
  Z : Fn K mg "_law_seeds" sSeeds ["_law_feed_here", "_law_world_here", "_law_many"] p.fZ p.dZ
section
variable {P : Program} {w : World} {K : PySem.W.Frag} {mg : Str → Option Value} {base : Heap} {p : PrF}
theorem scProgram : FnScope ["_law_feed_here", "_law_room", "_law_names_here", "_law_lets", "_law_functions", "_law_known", "_law_works", "_law_k", "_law_name_here", "_law_pool", "_law_at", "_law_params", "_law_world_here", "_law_body"] ["_law_feed_here", "_law_room"] (defScope sProgram) := ⟨rfl, rfl, rfl, by decide +kernel, rfl, by decide +kernel, by decide +kernel⟩
theorem ok_program {f : Addr} {fd : FuncData} (F : Fun K "_law_program" "_law_program" sProgram f fd) (G : Pr K mg p) :
    FnOk P w K mg base CX0 23 f fd ["_law_feed_here", "_law_room"] spProgram := by
  have GD : FnOk P w K mg base CX0 1 p.x.g.fD p.x.g.dD ["_law_feed_here", "_law_many"] spDraw := G.E.G.gD
  have GM : FnOk P w K mg base CX0 3 p.fM p.dM ["_law_feed_here", "_law_many"] spNames := ok_names G.M.F G.E.G.U G.A.F G.A.b G.A.m
  have GA : FnOk P w K mg base CX0 2 p.fA p.dA ["_law_feed_here", "_law_taken"] spLawName := ok_lawname G.A.F G.E.G.U
  have GO : FnOk P w K mg base CX0 1 p.fO p.dO ["_law_names_here", "_law_lets", "_law_functions", "_law_works", "_law_room", "_law_toil"] spWorld := ok_world G.O.F
  have GZ : FnOk P w K mg base CX0 13 p.fZ p.dZ ["_law_feed_here", "_law_world_here", "_law_many"] spSeedsA := FnOk.ex fun S => ok_seeds G.Z.F G.E
  have GE4 : FnOk P w K mg base CX0 12 p.x.fE p.x.dE ["_law_feed_here", "_law_world_here", "_law_bound_here", "_law_below", "_law_times"] (spExprA 0 4) := FnOk.ex fun S => G.E.gE (M := 0) 4
  have GE7 : FnOk P w K mg base CX0 22 p.x.fE p.x.dE ["_law_feed_here", "_law_world_here", "_law_bound_here", "_law_below", "_law_times"] (spExprA 4 7) := FnOk.ex fun S => G.E.gE (M := 4) 7
  have GK : FnOk P w K mg base CX0 6 p.x.g.fK p.x.g.dK ["_law_e", "_law_works"] (spWorkA 4) := FnOk.ex fun S => G.E.G.gK 4
  refine F.ok scProgram (fun vs H Q E h => ?_) (fun cdv A outer s H vs Q E hr h => ?_)
  · obtain ⟨d, l, ns, n, r, rfl, _⟩ := h
    rfl
  · obtain ⟨d, l, ns, n, r, rfl, F0, hn, hr0, hr1000, k⟩ := h
    have hsz : sizeLine = 16777216 := sizeLine_eq
    have hu : (_ : Around).units + 1 < cLine := Nat.lt_of_le_of_lt (Nat.add_le_add_left (by decide) _) hr.units
    have hu0 := hr.units0
    have hr1 : Room 1 _ := hr.mono (by decide)
    have hr2 : Room 2 _ := hr.mono (by decide)
    have hr3 : Room 3 _ := hr.mono (by decide)
    have hr6 : Room 6 _ := hr.mono (by decide)
    have hr12 : Room 12 _ := hr.mono (by decide)
    have hr13 : Room 13 _ := hr.mono (by decide)
    have T := G.E.G.U.T
    have XT := G.E.G.X.T
    refine' ⟨?tt, ?body, ?fin⟩
    case body =>
      refine' pss_cut ?s1 ?r1
      case s1 => exact ps_set (i := 2) scProgram.nd rfl (Or.inl rfl) (pe_call GM hr3 (by rfl) G.M.m G.M.F.kp G.M.b .nil pass0 (pa_n (pv 0) (pa_cons (pe_op op_add pe_int (pe_call GD hr1 (by rfl) G.E.G.U.mD G.E.G.U.D.kp G.E.G.U.bD .nil pass0 (pa_n (pv 0) (pa_k pe_int pa_nil)))) pa_nil)))
      case r1 =>
        refine' pss_cut ?s2 ?r2
        case s2 => exact ps_set (i := 3) scProgram.nd rfl (Or.inl rfl) (pe_lst (pa_c (pe_call GA hr2 (by rfl) G.A.m G.A.F.kp G.A.b .nil pass0 (pa_n (pv 0) (pa_n (pv 2) pa_nil))) (pa_cons (pe_ix ix_list (pv 2) pe_int (fun _ _ => rfl)) pa_nil)))
        case r2 =>
          refine' pss_cons ?s3 ?r3
          case s3 => exact ps_set (i := 4) scProgram.nd rfl (Or.inl rfl) (pe_lst pa_nil)
          case r3 =>
            refine' pss_cons ?s4 ?r4
            case s4 => exact ps_set (i := 5) scProgram.nd rfl (Or.inl rfl) (pe_lst pa_nil)
            case r4 =>
              refine' pss_cons ?s5 ?r5
              case s5 => exact ps_set (i := 6) scProgram.nd rfl (Or.inl rfl) pe_dnewK
              case r5 =>
                refine' pss_cons ?s6 ?r6
                case s6 =>
                  refine' ps_for PassesOwn.never rfl (pi_range1 (by rfl) T.range (pa_cons (pe_ix ix_list (pe_lst (pa_k pe_int (pa_k pe_int (pa_k pe_int (pa_k pe_int pa_nil))))) (pe_call GD hr1 (by rfl) G.E.G.U.mD G.E.G.U.D.kp G.E.G.U.bD .nil pass0 (pa_n (pv 0) (pa_k pe_int pa_nil))) (fun _ _ => rfl)) pa_nil)) (pg_name (i := 7) scProgram.nd rfl (Or.inl rfl)) ?b
                  case b =>
                    refine' pss_cut ?b1 ?c1
                    case b1 =>
                      refine' ps_set (i := 8) scProgram.nd rfl (Or.inl rfl) (pe_call GA hr2 (by rfl) G.A.m G.A.F.kp G.A.b .nil pass0 (pa_n (pv 0) (pa_cons (pe_comp (N' := ["_law_one"]) (src := [none]) ?k1 ?k5 ?k6 ?k7) pa_nil)))
                      case k1 => rfl
                      case k5 => exact compScope_of (defScope sProgram) rfl ["_law_feed_here", "_law_room", "_law_names_here", "_law_lets", "_law_functions", "_law_known", "_law_works", "_law_k", "_law_name_here", "_law_pool", "_law_at", "_law_params", "_law_world_here", "_law_body"] rfl (by decide +kernel)
                      case k6 => exact pi_list (pv 4)
                      case k7 => exact fun cl C ex s0 H0 => ⟨pg_name (i := 0) nd_one rfl (Or.inl rfl), pts_nil, pe_ix (ix_tupK (K := K) rfl) (pv 0) pe_int (fun _ _ => rfl)⟩
                    case c1 =>
                      refine' pss_cut ?b2 ?c2
                      case b2 => exact ps_set (i := 9) scProgram.nd rfl (Or.inl rfl) (pe_op op_cat (pv 2) (pe_slice sl_list (pv 3) po_none (po_some pe_int)))
                      case c2 =>
                        refine' pss_cut ?b3 ?c3
                        case b3 =>
                          refine' ps_if (pw_and ?c (pw_and1 (pt_cmpR op_notIn_seq (pe_ix ix_list (pv 9) (pv 7) (fun _ _ => rfl)) (pe_comp (N' := ["_law_one"]) (src := [none]) ?k1 ?k5 ?k6 ?k7) (by with_unfolding_all rfl)))).pt (pss_one ?e) pss_nil
                          case c => exact pt_cmpR op_eq (pe_call GD hr1 (by rfl) G.E.G.U.mD G.E.G.U.D.kp G.E.G.U.bD .nil pass0 (pa_n (pv 0) (pa_k pe_int pa_nil))) pe_int (nomark _)
                          case k1 => rfl
                          case k5 => exact compScope_of (defScope sProgram) rfl ["_law_feed_here", "_law_room", "_law_names_here", "_law_lets", "_law_functions", "_law_known", "_law_works", "_law_k", "_law_name_here", "_law_pool", "_law_at", "_law_params", "_law_world_here", "_law_body"] rfl (by decide +kernel)
                          case k6 => exact pi_list (pv 4)
                          case k7 => exact fun cl C ex s0 H0 => ⟨pg_name (i := 0) nd_one rfl (Or.inl rfl), pts_nil, pe_ix (ix_tupK (K := K) rfl) (pv 0) pe_int (fun _ _ => rfl)⟩
                          case e => exact ps_set (i := 8) scProgram.nd rfl (Or.inl rfl) (pe_ix ix_list (pv 9) (pv 7) (fun _ _ => rfl))
                        case c3 =>
                          refine' pss_cons ?b4 ?c4
                          case b4 => exact ps_set (i := 10) scProgram.nd rfl (Or.inl rfl) (pe_call GD hr1 (by rfl) G.E.G.U.mD G.E.G.U.D.kp G.E.G.U.bD .nil pass0 (pa_n (pv 0) (pa_c (pe_callB call_len_seq (by rfl) T.len PySem.boot_len (pa_n (pv 9) pa_nil)) pa_nil)))
                          case c4 =>
                            refine' pss_cut ?b5 ?c5
                            case b5 => exact ps_set (i := 11) scProgram.nd rfl (Or.inl rfl) (pe_slice sl_list (pe_op op_cat (pe_slice sl_list (pv 9) (po_some (pv 10)) po_none) (pe_slice sl_list (pv 9) po_none (po_some (pv 10)))) po_none (po_some (pe_ix ix_list (pe_lst (pa_k pe_int (pa_k pe_int (pa_k pe_int (pa_k pe_int (pa_k pe_int (pa_k pe_int (pa_k pe_int (pa_k pe_int pa_nil))))))))) (pe_call GD hr1 (by rfl) G.E.G.U.mD G.E.G.U.D.kp G.E.G.U.bD .nil pass0 (pa_n (pv 0) (pa_k pe_int pa_nil))) (fun _ _ => rfl))))
                            case c5 =>
                              refine' pss_cons ?b6 ?c6
                              case b6 => exact ps_set (i := 12) scProgram.nd rfl (Or.inl rfl) (pe_call GO hr1 (by rfl) G.O.m G.O.F.kp G.O.b .nil pass0 (pa_n (pv 2) (pa_n (pv 3) (pa_n (pv 5) (pa_n (pv 6) (pa_k pe_int (pa_k pe_int pa_nil)))))))
                              case c6 =>
                                refine' pss_cut ?b7 ?c7
                                case b7 => exact ps_set (i := 13) scProgram.nd rfl (Or.inl rfl) (pe_call GE4 hr12 (by rfl) G.E.E.m G.E.E.F.kp G.E.E.b .nil pass0 (pa_n (pv 0) (pa_n (pv 12) (pa_n (pv 11) (pa_k pe_int (pa_k pe_int pa_nil))))))
                                case c7 =>
                                  refine' pss_cut ?b8 ?c8
                                  case b8 => exact ps_expr (pe_bm PySem.F.plainAttrs_list PySem.F.slot_list_append PySem.F.type_list_append mt_append (pv 4) (pa_cons (pe_tup (pa_n (pv 8) (pa_c (pe_callTy call_tuple_of (by rfl) XT.tup (by decide +kernel) (pa_n (pv 11) pa_nil)) (pa_n (pv 13) pa_nil)))) pa_nil))
                                  case c8 =>
                                    refine' pss_cut ?b9 ?c9
                                    case b9 => exact ps_set (i := 5) scProgram.nd rfl (Or.inl rfl) (pe_op op_cat (pv 5) (pe_lst (pa_cons (pe_tup (pa_n (pv 8) (pa_c (pe_callB call_len_seq (by rfl) T.len PySem.boot_len (pa_n (pv 11) pa_nil)) pa_nil))) pa_nil)))
                                    case c9 =>
                                      refine' pss_cons ?b10 (pss_one ?b11)
                                      case b10 => exact ps_set (i := 6) scProgram.nd rfl (Or.inl rfl) (pe_callTy call_dict_of (by rfl) G.E.dict (by decide +kernel) (pa_n (pv 6) pa_nil))
                                      case b11 => exact ps_dput hu (pv 6) (pv 8) (pe_call GK hr6 (by rfl) G.E.G.Y.m G.E.G.Y.F.kp G.E.G.Y.b .nil pass0 (pa_n (pv 13) (pa_n (pv 6) pa_nil))) (by rfl)
                case r6 =>
                  refine' pss_cons ?s7 ?r7
                  case s7 => exact ps_set (i := 12) scProgram.nd rfl (Or.inl rfl) (pe_call GO hr1 (by rfl) G.O.m G.O.F.kp G.O.b .nil pass0 (pa_n (pv 2) (pa_n (pv 3) (pa_n (pv 5) (pa_n (pv 6) (pa_n (pv 1) (pa_k pe_int pa_nil)))))))
                  case r7 =>
                    refine' pss_cons ?s8 (pss_one ?s9)
                    case s8 => exact ps_dput hu (pv 12) pe_str (pe_call GZ hr13 (by rfl) G.Z.m G.Z.F.kp G.Z.b .nil pass0 (pa_n (pv 0) (pa_n (pv 12) (pa_cons (pe_op op_add pe_int (pe_call GD hr1 (by rfl) G.E.G.U.mD G.E.G.U.D.kp G.E.G.U.bD .nil pass0 (pa_n (pv 0) (pa_k pe_int pa_nil)))) pa_nil)))) (by rfl)
                    case s9 => exact ps_ret (pe_tup (pa_c (pe_callTy call_tuple_of (by rfl) XT.tup (by decide +kernel) (pa_n (pv 4) pa_nil)) (pa_c (pe_call GE7 hr (by rfl) G.E.E.m G.E.E.F.kp G.E.E.b .nil pass0 (pa_n (pv 0) (pa_n (pv 12) (pa_cons (pe_lst pa_nil) (pa_k pe_int (pa_k pe_int pa_nil)))))) pa_nil)))
    case fin =>
      refine ⟨fun σ' H' => ∃ (nm : Addr) (T1 : List Str) (n' : Nat), σ' = [some (.ref d), some (.int r), some (.ref nm), none, none, none, none, none, none, none, none, none, none, none] ∧ H' nm = some (.lst (T1.map V.str)) ∧ 2 ≤ T1.length ∧ T1.length ≤ 5 ∧ (∀ t ∈ T1, Nm t) ∧ n' ≤ n + 41 ∧ Feed H' d l ns n' ∧ But d H H', ?_, ?_⟩
      · refine ⟨_, rfl, _, rfl, d, l, ns, n, _, rfl, F0, by omega, by decide, by decide, fun q n1 H1 q0 q1 hn1 F1 b1 => ?_⟩
        refine ⟨_, _, rfl, rfl, d, l, ns, n1, _, rfl, F1, by omega, by omega, by omega, fun nm ts n2 H2 hnm0 hnm hl ha hn2 F2 b2 => ?_⟩
        exact ⟨nm, ts, n2, rfl, hnm, by omega, by omega, ha, by omega, F2, b1.trans b2⟩
      rintro σ1 H1 ⟨nm, T1, n1, rfl, hnm1, hT2, hT5, hTn, hn1, F1, B1⟩
      refine ⟨fun σ' H' => ∃ (lt : Addr) (T2 : List Str) (n' : Nat), σ' = [some (.ref d), some (.int r), some (.ref nm), some (.ref lt), none, none, none, none, none, none, none, none, none, none] ∧ H' lt = some (.lst (T2.map V.str)) ∧ T2.length = 2 ∧ (∀ t ∈ T2, Nm t) ∧ H' nm = some (.lst (T1.map V.str)) ∧ n' ≤ n + 49 ∧ Feed H' d l ns n' ∧ But d H H', ?_, ?_⟩
      · refine ⟨_, rfl, _, rfl, d, l, nm, ns, n1, T1, rfl, F1, by omega, hnm1, by omega, hTn, fun y n2 H2 hy _ _ hn2 F2 b2 => ?_⟩
        have hnm2 := F1.lst b2 hnm1
        obtain ⟨x0, hx0⟩ : ∃ x, T1[0]? = some x := ⟨_, List.getElem?_eq_getElem (by omega)⟩
        refine ⟨_, rfl, nm, _, _, .str x0, rfl, rfl, SqL.of hnm2, atI_nat (j := 0) (by rw [List.getElem?_map, hx0]; rfl), (by show 2 ≤ sizeLine; decide), fun lt hlt => ?_⟩
        have sl := same_upd (o := .lst [.str y, .str x0]) hlt
        refine ⟨lt, [y, x0], n2, rfl, upd_same, rfl, two_mem hy (hTn x0 (List.mem_of_getElem? hx0)), sl _ _ hnm2, by omega, F2.same sl, (B1.trans b2).trans (But.of sl)⟩
      clear hnm1 F1 B1 hn1
      rintro σ2 H2 ⟨lt, T2, n2, rfl, hlt2, hTl, hT2n, hnm2, hn2, F2, B2⟩
      refine ⟨Nat.zero_le _, fun fa hfa => ?_⟩
      have sf := same_upd (o := .lst []) hfa
      have nof : ∀ {b : Addr} {o : HO}, H2 b = some o → fa ≠ b := fun {b o} e q => by rw [← q, hfa] at e; cases e
      have hfn := nof hnm2
      have hft := nof hlt2
      have hfL := nof F2.ls
      have hf0 : H fa = none := by
        cases e : H fa with
        | none => rfl
        | some o =>
          exfalso
          have hfd : fa ≠ d := nof F2.dc.choose_spec
          rw [B2 fa o e hfd] at hfa
          cases hfa
      refine ⟨Nat.zero_le _, fun ka hka => ?_⟩
      have sk := same_upd (o := .lst []) hka
      have hfk : fa ≠ ka := fun q => by rw [← q, upd_same] at hka; cases hka
      intro wo hwo
      have sw := same_upd (o := .dK []) hwo
      have s5 := (sf.trans sk).trans sw
      have hwd : wo ≠ d := fun q => by rw [q, (sf.trans sk) _ _ F2.dc.choose_spec] at hwo; cases hwo
      have C5 : Lp H (upd (upd (upd H2 fa (.lst [])) ka (.lst [])) wo (.dK [])) d l nm lt fa ka wo ns n2 T1 T2 [] [] [] [] [] [] :=
        ⟨F2.same s5, B2.trans (But.of s5), s5 _ _ hnm2, s5 _ _ hlt2, (sk.trans sw) _ _ upd_same, .nil, FOk.nil, sw _ _ upd_same, rfl, (fun v hv => by cases hv), upd_same, (fun y hy => by cases hy), Nat.le_refl _, hwd, hfk⟩
      generalize upd (upd (upd H2 fa (.lst [])) ka (.lst [])) wo (.dK []) = H5 at C5
      refine ⟨(by show 4 ≤ sizeLine; decide), fun c hc => ?_⟩
      have sc := same_upd (o := .lst [.int 1, .int 0, .int 2, .int 3]) hc
      have C6 := C5.same sc
      refine ⟨_, rfl, d, l, ns, n2, _, rfl, C6.F, by omega, by decide, by decide, fun q n7 H7 q0 q1 hn7 F7 b7 => ?_⟩
      have C7 := C6.go b7 F7
      obtain ⟨v, hv, hat⟩ := at_in (xs := [V.int 1, .int 0, .int 2, .int 3]) (i := q) q0 (Int.lt_of_lt_of_le q1 (by decide))
      obtain ⟨mn, rfl, hm0, hm3⟩ : ∃ mn : Int, v = .int mn ∧ 0 ≤ mn ∧ mn ≤ 3 := by
        simp only [List.mem_cons, List.not_mem_nil, or_false] at hv
        rcases hv with rfl | rfl | rfl | rfl <;> exact ⟨_, rfl, by decide, by decide⟩
      refine ⟨c, _, q, .int mn, rfl, rfl, SqL.of (C6.F.lst b7 upd_same), hat, mn, rfl, by omega, by omega, for_range (n := mn.toNat) (fun j σ H' => ∃ (fs : List Fd) (fv kv : List V) (ka wo : Addr) (kvs : List (Key × V)) (n' : Nat) (o7 o8 o9 o10 o11 o12 o13 : Option V), σ = [some (.ref d), some (.int r), some (.ref nm), some (.ref lt), some (.ref fa), some (.ref ka), some (.ref wo), o7, o8, o9, o10, o11, o12, o13] ∧ fs.length = j ∧ n' ≤ n + 50 + 10400 * j ∧ Lp H H' d l nm lt fa ka wo ns n' T1 T2 fv kv kvs fs fs fs)
        ⟨[], [], [], ka, wo, [], n7, none, none, none, none, none, none, none, rfl, rfl, by omega, C7⟩ ?_ ?_⟩
      · rintro j σ H1 hj ⟨fs, fv, kv, ka, wo, kvs, n1, o7, o8, o9, o10, o11, o12, o13, rfl, hfl, hn1, C1⟩
        have hvl := IsThs.len _ C1.ft
        rw [List.length_map] at hvl
        have comp0 : ∀ {H' : Hp}, Lp H H' d l nm lt fa ka wo ns n1 T1 T2 fv kv kvs fs fs fs → True := fun _ => trivial
        refine ⟨fun σ' H' => ∃ (x : Str) (n' : Nat), σ' = [some (.ref d), some (.int r), some (.ref nm), some (.ref lt), some (.ref fa), some (.ref ka), some (.ref wo), some (.int (0 + (j : Int))), some (.str x), o9, o10, o11, o12, o13] ∧ Nm x ∧ x ∉ nmS fs ∧ n' ≤ n1 + 8 ∧ Lp H H' d l nm lt fa ka wo ns n' T1 T2 fv kv kvs fs fs fs, ?_, ?_⟩
        · refine ⟨_, rfl, _, rfl, fa, rfl, ⟨_, SqL.of C1.pFa⟩, comp_list (K := K) (a := fa) (xs := fv) (fun i ys σc H' => ∃ (o : Option V), σc = [o] ∧ H' = H1 ∧ ys = (nmS (fs.take i)).map V.str)
            ⟨none, rfl, rfl, rfl⟩ (fun i ys σc H' ⟨_, _, e, _⟩ => by rw [e]; exact SqL.of C1.pFa) ?_ ?_⟩
          · rintro i y ys σc H' hy hi ⟨o, rfl, rfl, rfl⟩
            obtain ⟨t, ht, hyt⟩ := ths_get _ C1.ft hy
            rw [List.getElem?_map] at ht
            obtain ⟨f, hf, rfl⟩ := Option.map_eq_some_iff.mp ht
            obtain ⟨cf, vs, rfl, hcf⟩ := fn_head hyt
            refine ⟨by rw [List.length_map]; unfold nmS; rw [List.length_map, List.length_take]; omega, ?_⟩
            exact ⟨_, rfl, cf, _, _, _, rfl, rfl, SqT.of hcf, at_head _ _, nx hi ⟨_, rfl, rfl, nmS_step hf⟩⟩
          · rintro ys σc H' ⟨o, rfl, rfl, rfl⟩ q hq
            rw [List.take_of_length_le (Nat.le_of_eq hvl.symm)]
            have sq := same_upd (o := .lst ((nmS fs).map V.str)) hq
            have C2 := C1.same sq
            refine ⟨d, l, q, ns, n1, nmS fs, rfl, C2.F, by omega, upd_same, by unfold nmS; rw [List.length_map]; omega, C1.fo.nm, fun x n2 H2 hx hnx _ hn2 F2 b2 => ?_⟩
            exact ⟨x, n2, rfl, hx, hnx, hn2, C2.go b2 F2⟩
        clear C1
        rintro σ2 H2 ⟨x, n2, rfl, hx, hxn, hn2, C2⟩
        refine ⟨fun σ' H' => ∃ (pl : Addr) (Tp : List Str), σ' = [some (.ref d), some (.int r), some (.ref nm), some (.ref lt), some (.ref fa), some (.ref ka), some (.ref wo), some (.int (0 + (j : Int))), some (.str x), some (.ref pl), o10, o11, o12, o13] ∧ H' pl = some (.lst (Tp.map V.str)) ∧ 3 ≤ Tp.length ∧ Tp.length ≤ 6 ∧ (∀ t ∈ Tp, Nm t) ∧ Lp H H' d l nm lt fa ka wo ns n2 T1 T2 fv kv kvs fs fs fs, ?_, ?_⟩
        · refine ⟨_, rfl, _, rfl, 1, rfl, lt, _, rfl, SqL.of C2.pLt, fun p1 hp1 => ?_⟩
          rw [cut_to0 (by decide)]
          have s1 := same_upd (o := .lst ((T2.map V.str).take (Int.toNat 1))) hp1
          have C3 := C2.same s1
          refine ⟨nm, p1, _, _, rfl, rfl, C3.pNm, upd_same, by rw [List.length_take, List.length_map, List.length_map]; omega, fun p2 hp2 => ?_⟩
          have s2 := same_upd (o := .lst (T1.map V.str ++ (T2.map V.str).take (Int.toNat 1))) hp2
          refine ⟨p2, T1 ++ T2.take 1, rfl, ?_, ?_, ?_, ?_, C3.same s2⟩
          · rw [upd_same, List.map_append, List.map_take]; rfl
          · rw [List.length_append, List.length_take]; omega
          · rw [List.length_append, List.length_take]; omega
          · intro t ht
            rcases List.mem_append.mp ht with y | y
            · exact hTn t y
            · exact hT2n t (List.mem_of_mem_take y)
        clear C2
        rintro σ3 H3 ⟨pl, Tp, rfl, hpl, hp3, hp6, hpn, C3⟩
        refine ⟨fun σ' H' => ∃ (x : Str) (n' : Nat), σ' = [some (.ref d), some (.int r), some (.ref nm), some (.ref lt), some (.ref fa), some (.ref ka), some (.ref wo), some (.int (0 + (j : Int))), some (.str x), some (.ref pl), o10, o11, o12, o13] ∧ Nm x ∧ x ∉ nmS fs ∧ n' ≤ n1 + 9 ∧ H' pl = some (.lst (Tp.map V.str)) ∧ Lp H H' d l nm lt fa ka wo ns n' T1 T2 fv kv kvs fs fs fs, ?_, ?_⟩
        · refine ⟨_, rfl, d, l, ns, n2, _, rfl, C3.F, by omega, by decide, by decide, fun q n4 H4 q0 q1 hn4 F4 b4 => ?_⟩
          have C4 := C3.go b4 F4
          have hpl4 := C3.F.lst b4 hpl
          obtain ⟨y, hy⟩ : ∃ y, Tp[j]? = some y := ⟨_, List.getElem?_eq_getElem (by omega)⟩
          refine ⟨rfl, _, rfl, ite2 (fun g => ?_) (fun g => iteF ⟨x, n4, rfl, hx, hxn, by omega, hpl4, C4⟩)⟩
          refine ⟨_, rfl, _, rfl, pl, _, _, .str y, rfl, rfl, SqL.of hpl4, atI_nat' (by rw [List.getElem?_map, hy]; rfl), ?_⟩
          refine ⟨_, rfl, fa, rfl, ⟨_, SqL.of C4.pFa⟩, comp_list (K := K) (a := fa) (xs := fv) (fun i ys σc H' => ∃ (o : Option V), σc = [o] ∧ H' = H4 ∧ ys = (nmS (fs.take i)).map V.str)
            ⟨none, rfl, rfl, rfl⟩ (fun i ys σc H' ⟨_, _, e, _⟩ => by rw [e]; exact SqL.of C4.pFa) ?_ ?_⟩
          · rintro i y ys σc H' hy hi ⟨o, rfl, rfl, rfl⟩
            obtain ⟨t, ht, hyt⟩ := ths_get _ C4.ft hy
            rw [List.getElem?_map] at ht
            obtain ⟨f, hf, rfl⟩ := Option.map_eq_some_iff.mp ht
            obtain ⟨cf, vs, rfl, hcf⟩ := fn_head hyt
            refine ⟨by rw [List.length_map]; unfold nmS; rw [List.length_map, List.length_take]; omega, ?_⟩
            exact ⟨_, rfl, cf, _, _, _, rfl, rfl, SqT.of hcf, at_head _ _, nx hi ⟨_, rfl, rfl, nmS_step hf⟩⟩
          · rintro ys σc H' ⟨o, rfl, rfl, rfl⟩ q hq
            rw [List.take_of_length_le (Nat.le_of_eq hvl.symm)]
            have sq := same_upd (o := .lst ((nmS fs).map V.str)) hq
            have C5 := C4.same sq
            have hpl5 := sq _ _ hpl4
            refine ⟨q, _, rfl, .inl (SqL.of upd_same), rfl, strs_flat _, _, rfl, ite2 (fun g2 => ?_) (fun g2 => ⟨x, n4, rfl, hx, hxn, by omega, hpl5, C5⟩)⟩
            refine ⟨_, rfl, _, rfl, pl, _, _, .str y, rfl, rfl, SqL.of hpl5, atI_nat' (by rw [List.getElem?_map, hy]; rfl), y, n4, rfl, hpn y (List.mem_of_getElem? hy), fun hm => ?_, by omega, hpl5, C5⟩
            rw [(inV_strs y (nmS fs)).mpr hm] at g2
            exact absurd g2 (by decide)
        clear C3 hpl hx hxn
        rintro σ4 H4 ⟨x, n4, rfl, hx, hxn, hn4, hpl4, C4⟩
        have hl1 : ((Tp.map V.str).length : Int) = (Tp.length : Int) := by rw [List.length_map]
        refine ⟨_, rfl, _, rfl, pl, _, rfl, .inl (SqL.of hpl4), d, l, ns, n4, _, rfl, C4.F, by omega, by omega, by omega, fun at5 n5 H5 a0 a1 hn5 F5 b5 => ?_⟩
        have C5 := C4.go b5 F5
        have hpl5 := C4.F.lst b5 hpl4
        refine ⟨fun σ' H' => ∃ (pa : Addr) (ps : List Str) (n' : Nat), σ' = [some (.ref d), some (.int r), some (.ref nm), some (.ref lt), some (.ref fa), some (.ref ka), some (.ref wo), some (.int (0 + (j : Int))), some (.str x), some (.ref pl), some (.int at5), some (.ref pa), o12, o13] ∧ H' pa = some (.lst (ps.map V.str)) ∧ ps.length ≤ 6 ∧ (∀ t ∈ ps, Nm t) ∧ pa ≠ fa ∧ n' ≤ n1 + 11 ∧ Lp H H' d l nm lt fa ka wo ns n' T1 T2 fv kv kvs fs fs fs, ?_, ?_⟩
        · refine ⟨_, rfl, _, rfl, at5, rfl, pl, _, rfl, SqL.of hpl5, fun p1 hp1 => ?_⟩
          rw [cut_behind a0 (by omega)]
          have s1 := same_upd (o := .lst ((Tp.map V.str).drop at5.toNat)) hp1
          refine ⟨_, rfl, _, rfl, at5, rfl, pl, _, rfl, SqL.of (s1 _ _ hpl5), fun p2 hp2 => ?_⟩
          rw [cut_to a0 (by omega)]
          have s2 := same_upd (o := .lst ((Tp.map V.str).take at5.toNat)) hp2
          refine ⟨p1, p2, _, _, rfl, rfl, s2 _ _ upd_same, upd_same, by rw [List.length_drop, List.length_take, List.length_map]; omega, fun p3 hp3 => ?_⟩
          have s3 := same_upd (o := .lst ((Tp.map V.str).drop at5.toNat ++ (Tp.map V.str).take at5.toNat)) hp3
          have s13 := (s1.trans s2).trans s3
          refine ⟨(by show 8 ≤ sizeLine; decide), fun c8 hc8 => ?_⟩
          have s4 := same_upd (o := .lst [.int 1, .int 2, .int 0, .int 3, .int 1, .int 2, .int 2, .int 6]) hc8
          have C6 := (C5.same s13).same s4
          refine ⟨_, rfl, d, l, ns, n5, _, rfl, C6.F, by omega, by decide, by decide, fun q n7 H7 q0 q1 hn7 F7 b7 => ?_⟩
          have C7 := C6.go b7 F7
          obtain ⟨v, hv, hat⟩ := at_in (xs := [V.int 1, .int 2, .int 0, .int 3, .int 1, .int 2, .int 2, .int 6]) (i := q) q0 (Int.lt_of_lt_of_le q1 (by decide))
          obtain ⟨mm, rfl, hm0, hm6⟩ : ∃ mm : Int, v = .int mm ∧ 0 ≤ mm ∧ mm ≤ 6 := by
            simp only [List.mem_cons, List.not_mem_nil, or_false] at hv
            rcases hv with rfl | rfl | rfl | rfl | rfl | rfl | rfl | rfl <;> exact ⟨_, rfl, by decide, by decide⟩
          refine ⟨c8, _, q, .int mm, rfl, rfl, SqL.of (C6.F.lst b7 upd_same), hat, mm, rfl, p3, _, rfl, SqL.of (C6.F.lst b7 (s4 _ _ upd_same)), fun pa hpa => ?_⟩
          rw [cut_to0 hm0]
          have s8 := same_upd (o := .lst (((Tp.map V.str).drop at5.toNat ++ (Tp.map V.str).take at5.toNat).take mm.toNat)) hpa
          refine ⟨pa, (Tp.drop at5.toNat ++ Tp.take at5.toNat).take mm.toNat, n7, rfl, ?_, ?_, ?_, ?_, by omega, C7.same s8⟩
          · rw [upd_same, List.map_take, List.map_append, List.map_drop, List.map_take]
          · rw [List.length_take]; omega
          · intro t ht
            rcases List.mem_append.mp (List.mem_of_mem_take ht) with y | y
            · exact hpn t (List.mem_of_mem_drop y)
            · exact hpn t (List.mem_of_mem_take y)
          · intro e
            rw [e, C7.pFa] at hpa
            cases hpa
        clear C4 C5 hpl4 hpl5 F5 b5
        rintro σ5 H5 ⟨pa, ps, n5', rfl, hpa, hpl6, hpsn, hpf, hn5', C5⟩
        refine ⟨_, rfl, _, rfl, _, rfl, _, rfl, nm, lt, ka, wo, 9, 120, rfl, fun wd sd H6 s6 hwd hsd W6 Q6 => ?_⟩
        have C6 := C5.same s6
        have now : ∀ {b : Addr} {o : HO}, H5 b = some o → b ≠ wd := fun {b o} e q => by rw [q, hwd] at e; cases e
        refine ⟨fun σ' H' => ∃ (v : V) (t : Th) (n' : Nat), σ' = [some (.ref d), some (.int r), some (.ref nm), some (.ref lt), some (.ref fa), some (.ref ka), some (.ref wo), some (.int (0 + (j : Int))), some (.str x), some (.ref pl), some (.int at5), some (.ref pa), some (.ref wd), some v] ∧ H' pa = some (.lst (ps.map V.str)) ∧ IsTh H' v t ∧ PfT (nmS fs) 4 t ∧ cnt t ≤ 29 ∧ n' ≤ n1 + 10371 ∧ Lp H H' d l nm lt fa ka wo ns n' T1 T2 fv kv kvs fs fs fs, ?_, ?_⟩
        · have N6 : Wf (nmS fs) 0 H6 d wd ⟨nm, lt, ka, wo, sd⟩ ⟨T1, T2, kv, [], [], rhoF fs, kvs⟩ := ⟨C6.pNm, C6.pLt, C6.pKa, C6.ke, C6.pWo, C6.wk, C6.o1, now C5.pWo, Q6, .nil, (fun t ht => by cases ht), by show 1 ≤ T1.length; omega, by show T1.length ≤ 10; omega, by show T2.length ≤ 10; omega, by show kv.length ≤ 10; rw [C6.kl]; omega, Nat.zero_le _, hTn, hT2n⟩
          have X6 : Ctx (nmS fs) 0 H6 H6 d l wd ⟨nm, lt, ka, wo, sd⟩ ⟨T1, T2, kv, [], [], rhoF fs, kvs⟩ pa ps ns n5' 9 120 := ⟨C6.F, W6, N6, s6 _ _ hpa, by omega, hpsn, But2.refl _ _ _⟩
          have e4 := cD4
          refine ⟨_, rfl, _, rfl, _, rfl, nmS fs, d, l, wd, _, _, pa, ps, ns, n5', 9, 120, 4, 1, rfl, by decide, by decide, by decide, by decide, by decide, ?_, by omega, by omega, X6, fun v t n7 r7 z7 H7 h7 p7 c7 y1 y2 hn7 C7 => ?_⟩
          · have := tB_succ (N := 4) (by decide)
            have := tB_pos (4 + 1)
            omega
          have b57 : But d H5 H7 := fun b o e hb => C7.b2 b o (s6 _ _ e) hb (now e)
          exact ⟨v, t, n7, rfl, b57 _ _ hpa (ne_of hpa C5.F.dc.choose_spec (by intro z; cases z)), h7, p7, by omega, by omega, C5.go b57 C7.F⟩
        clear C5 C6 s6 W6 Q6 hpa
        rintro σ7 H7 ⟨v, t, n7, rfl, hpa, hv, pf, hcnt, hn7, C7⟩
        have g : FdOk (nmS fs) ⟨x, ps, t⟩ := ⟨pf, hx, hxn, hpl6, hpsn, hcnt⟩
        refine ⟨fun σ' H' => ∃ (cv : V), σ' = [some (.ref d), some (.int r), some (.ref nm), some (.ref lt), some (.ref fa), some (.ref ka), some (.ref wo), some (.int (0 + (j : Int))), some (.str x), some (.ref pl), some (.int at5), some (.ref pa), some (.ref wd), some v] ∧ H' pa = some (.lst (ps.map V.str)) ∧ IsTh H' v t ∧ Lp H H' d l nm lt fa ka wo ns n7 T1 T2 (fv ++ [cv]) kv kvs (fs ++ [⟨x, ps, t⟩]) fs fs, ?_, ?_⟩
        · refine ⟨_, rfl, .inl ⟨rfl, _, SqL.of C7.pFa⟩, _, rfl, _, rfl, pa, _, rfl, .inl ⟨SqL.of hpa, fun tp htp => ?_⟩⟩
          have s1 := same_upd (o := .tup (ps.map V.str)) htp
          refine ⟨_, rfl, (by show 3 ≤ sizeLine; decide), fun c hc => ?_⟩
          have s2 := same_upd (o := .tup [.str x, .ref tp, v]) hc
          have s12 := s1.trans s2
          have C8 := C7.same s12
          have hth : IsTh (upd (upd H7 tp (.tup (ps.map V.str))) c (.tup [.str x, .ref tp, v])) (.ref c) (Fd.th ⟨x, ps, t⟩) :=
            .tup upd_same (.cons (.at (nm_small hx)) (.cons (.tup (s2 _ _ upd_same) (ths_strs hpsn)) (.cons (IsTh.kp (Kp.of s12) hv) .nil)))
          refine ⟨fa, fv, .ref c, rfl, rfl, C8.pFa, by omega, .ref c, rfl, ?_, ?_, C8.app hth g hf0 hfL hfn hft⟩
          · rw [upd_ne hpf]
            exact s12 _ _ hpa
          · exact th_but C8.pFa But.upd (IsTh.kp (Kp.of s12) hv) pf.pl
        clear C7 hpa hv
        rintro σ8 H8 ⟨cv, rfl, hpa, hv, C8⟩
        refine ⟨fun σ' H' => ∃ (ka : Addr) (kv : List V), σ' = [some (.ref d), some (.int r), some (.ref nm), some (.ref lt), some (.ref fa), some (.ref ka), some (.ref wo), some (.int (0 + (j : Int))), some (.str x), some (.ref pl), some (.int at5), some (.ref pa), some (.ref wd), some v] ∧ IsTh H' v t ∧ Lp H H' d l nm lt fa ka wo ns n7 T1 T2 (fv ++ [cv]) kv kvs (fs ++ [⟨x, ps, t⟩]) (fs ++ [⟨x, ps, t⟩]) fs, ?_, ?_⟩
        · refine ⟨_, rfl, _, rfl, _, rfl, pa, _, rfl, .inl (SqL.of hpa), (by show 2 ≤ sizeLine; decide), fun c1 hc1 => ?_⟩
          have hpl : ((ps.map V.str).length : Int) = (ps.length : Int) := by rw [List.length_map]
          have s1 := same_upd (o := .tup [.str x, .int ((ps.map V.str).length : Nat)]) hc1
          refine ⟨(by show 1 ≤ sizeLine; decide), fun c2 hc2 => ?_⟩
          have s2 := same_upd (o := .lst [.ref c1]) hc2
          have C9 := (C8.same s1).same s2
          have hkl := C8.kl
          refine ⟨ka, c2, kv, [.ref c1], rfl, rfl, C9.pKa, upd_same, by rw [List.length_singleton]; omega, fun c3 hc3 => ?_⟩
          have s3 := same_upd (o := .lst (kv ++ [.ref c1])) hc3
          have C10 := C9.same s3
          refine ⟨c3, kv ++ [.ref c1], rfl, IsTh.kp (Kp.of ((s1.trans s2).trans s3)) hv, C10.F, C10.pB, C10.pNm, C10.pLt, C10.pFa, C10.ft, C10.fo, upd_same, by rw [List.length_append, List.length_append, hkl]; rfl, fun u hu => ?_, C10.pWo, C10.wk, C10.wl, C10.o1, fun e => by rw [← e, C9.pFa] at hc3; cases hc3⟩
          rcases List.mem_append.mp hu with y | y
          · obtain ⟨c, x', m, h1, h2, h3, h4⟩ := C10.ke u y
            exact ⟨c, x', m, h1, h2, by rw [nmS_snoc]; exact List.mem_append_left _ h3, h4⟩
          · rw [List.mem_singleton] at y
            exact ⟨c1, x, _, y, s3 _ _ (s2 _ _ upd_same), by rw [nmS_snoc]; exact List.mem_append_right _ (List.mem_singleton.mpr rfl), hx, by omega, by omega⟩
        clear C8 hpa hv
        rintro σ9 H9 ⟨ka9, kv9, rfl, hv, C9⟩
        have hwl := C9.wl
        refine ⟨_, rfl, wo, kvs, rfl, C9.pWo, fun w2 hw2 => ?_⟩
        have s1 := same_upd (o := .dK kvs) hw2
        have C10 := C9.same s1
        have hW10 : upd H9 w2 (.dK kvs) w2 = some (.dK kvs) := upd_same
        have hv10 := IsTh.kp (Kp.of s1) hv
        refine ⟨_, rfl, _, rfl, nmS fs, v, w2, t, rhoF fs, kvs, rfl, hv10, pf, hW10, C10.wk, fun H11 s11 => ?_⟩
        have C11 := C10.same s11
        have hW11 := s11 _ _ hW10
        refine ⟨_, rfl, _, rfl, w2, _, rfl, DPut.k (k := Sum.inr x) hW11 (by omega), ?_⟩
        have hw2d : w2 ≠ d := fun e => by rw [e, C9.F.dc.choose_spec] at hw2; cases hw2
        have hw2H : H w2 = none := by
          cases e : H w2 with
          | none => rfl
          | some o => rw [C9.pB w2 o e hw2d] at hw2; cases hw2
        have kp : Kp H11 (upd H11 w2 (.dK (putK kvs (Sum.inr x) (.int (K54.wk (rhoF fs) t))))) := fun b o e hk => by
          rw [upd_ne (fun q => by rw [q, hW11] at e; cases e; exact hk _ rfl)]
          exact e
        refine ⟨fs ++ [⟨x, ps, t⟩], fv ++ [cv], kv9, ka9, w2, putK kvs (Sum.inr x) (.int (K54.wk (rhoF fs) t)), n7, _, _, _, _, _, _, _, rfl, by rw [List.length_append, hfl]; rfl, by omega, ?_, ?_, kp _ _ C11.pNm (fun _ z => by cases z), kp _ _ C11.pLt (fun _ z => by cases z), kp _ _ C11.pFa (fun _ z => by cases z), IsThs.kp kp C11.ft, C11.fo, kp _ _ C11.pKa (fun _ z => by cases z), C11.kl, fun u hu => ?_, upd_same, ?_, ?_, hw2d, C11.fk⟩
        · obtain ⟨⟨y, hd⟩, hls, hs⟩ := C11.F
          exact ⟨⟨y, by rw [upd_ne hw2d.symm]; exact hd⟩, kp _ _ hls (fun _ z => by cases z), hs⟩
        · intro b o e hb
          rw [upd_ne (ne_of_none e hw2H)]
          exact C11.pB b o e hb
        · obtain ⟨c, x', m, h1, h2, h3⟩ := C11.ke u hu
          exact ⟨c, x', m, h1, kp _ _ h2 (fun _ z => by cases z), h3⟩
        · exact Works.snoc (f := ⟨x, ps, t⟩) C11.wk
        · have := putK_len kvs (Sum.inr x) (.int (K54.wk (rhoF fs) t))
          rw [List.length_append, List.length_singleton]
          omega
      · rintro σ1 H1 ⟨fs, fv, kv, ka, wo, kvs, n1, o7, o8, o9, o10, o11, o12, o13, rfl, hfl, hn1, C1⟩
        refine ⟨_, rfl, _, rfl, _, rfl, _, rfl, _, rfl, nm, lt, ka, wo, r, 1400, rfl, fun wd sd H2 s2 hwd hsd W2 Q2 => ?_⟩
        have C2 := C1.same s2
        have now : ∀ {b : Addr} {o : HO}, H1 b = some o → b ≠ wd := fun {b o} e q => by rw [q, hwd] at e; cases e
        have hdw : wd ≠ d := (now C1.F.dc.choose_spec).symm
        have N2 : Wf (nmS fs) 0 H2 d wd ⟨nm, lt, ka, wo, sd⟩ ⟨T1, T2, kv, [], [], rhoF fs, kvs⟩ := ⟨C2.pNm, C2.pLt, C2.pKa, C2.ke, C2.pWo, C2.wk, C2.o1, now C1.pWo, Q2, .nil, (fun t ht => by cases ht), by show 1 ≤ T1.length; omega, by show T1.length ≤ 10; omega, by show T2.length ≤ 10; omega, by show kv.length ≤ 10; rw [C2.kl]; omega, Nat.zero_le _, hTn, hT2n⟩
        refine ⟨_, rfl, _, rfl, _, rfl, d, l, ns, n1, _, rfl, C2.F, by omega, by decide, by decide, fun q n3 H3 q0 q1 hn3 F3 b3 => ?_⟩
        have C3 := C2.go b3 F3
        have W3 := b3 wd _ W2 hdw
        have N3 := N2.go (b3.kp C2.F) (But2.of b3)
        refine ⟨_, _, rfl, rfl, nmS fs, d, l, wd, _, _, ns, n3, r, 1400, _, rfl, by omega, by omega, by omega, C3.F, W3, N3, fun sd' sv ss n4 H4 hs0 hs hss hsp hsl hn4 F4 b4 => ?_⟩
        have C4 := C3.go b4 F4
        have W4 := b4 wd _ W3 hdw
        refine ⟨_, rfl, wd, _, rfl, wset_seeds W4, ?_⟩
        have k5 : Kp H4 (upd H4 wd (.dK (worldKV { (⟨nm, lt, ka, wo, sd⟩ : WA) with sd := sd' } r 1400))) := (But2.upd (d := d)).kp F4 W4
        have F5 := F4.world (a2 := { (⟨nm, lt, ka, wo, sd⟩ : WA) with sd := sd' }) (r2 := r) (z2 := 1400) W4
        have W5 : upd H4 wd (.dK (worldKV { (⟨nm, lt, ka, wo, sd⟩ : WA) with sd := sd' } r 1400)) wd = some (.dK (worldKV ⟨nm, lt, ka, wo, sd'⟩ r 1400)) := upd_same
        have b5 : ∀ b o, H4 b = some o → b ≠ wd → upd H4 wd (.dK (worldKV { (⟨nm, lt, ka, wo, sd⟩ : WA) with sd := sd' } r 1400)) b = some o := fun b o e hb => by rw [upd_ne hb]; exact e
        generalize upd H4 wd (.dK (worldKV { (⟨nm, lt, ka, wo, sd⟩ : WA) with sd := sd' } r 1400)) = H5 at k5 F5 W5 b5
        have N5 : Wf (nmS fs) 4 H5 d wd ⟨nm, lt, ka, wo, sd'⟩ ⟨T1, T2, kv, sv, ss, rhoF fs, kvs⟩ := ⟨k5 _ _ C4.pNm (fun _ z => by cases z), k5 _ _ C4.pLt (fun _ z => by cases z), k5 _ _ C4.pKa (fun _ z => by cases z), fun u hu => let ⟨c, x, m, h1, h2, h3⟩ := C4.ke u hu; ⟨c, x, m, h1, k5 _ _ h2 (fun _ z => by cases z), h3⟩, b5 _ _ C4.pWo (now C1.pWo), C4.wk, C4.o1, now C1.pWo, k5 _ _ hs (fun _ z => by cases z), IsThs.kp k5 hss, hsp, by show 1 ≤ T1.length; omega, by show T1.length ≤ 10; omega, by show T2.length ≤ 10; omega, by show kv.length ≤ 10; rw [C2.kl]; omega, by show sv.length ≤ 10; omega, hTn, hT2n⟩
        have hfa5 := k5 _ _ C4.pFa (fun _ z => by cases z)
        have hft5 := IsThs.kp k5 C4.ft
        refine ⟨_, rfl, fa, fv, rfl, .inl ⟨SqL.of hfa5, fun tp htp => ?_⟩⟩
        have s6 := same_upd (o := .tup fv) htp
        refine ⟨_, rfl, _, rfl, Nat.zero_le _, fun c hc => ?_⟩
        have s7 := same_upd (o := .lst []) hc
        have s57 := s6.trans s7
        have htp7 := s7 _ _ (upd_same (a := tp) (o := .tup fv) (H := H5))
        have B7 : upd (upd H5 tp (.tup fv)) c (.lst []) c = some (.lst (([] : List Str).map V.str)) := upd_same
        generalize upd (upd H5 tp (.tup fv)) c (.lst []) = H7 at s7 s57 htp7 B7
        have X7 : Ctx (nmS fs) 4 H7 H7 d l wd ⟨nm, lt, ka, wo, sd'⟩ ⟨T1, T2, kv, sv, ss, rhoF fs, kvs⟩ c [] ns n4 r 1400 := ⟨F5.same s57, s57 _ _ W5, N5.go (Kp.of s57) (But2.same s57), B7, Nat.zero_le _, (fun t ht => by cases ht), But2.refl _ _ _⟩
        have e7 := cD7
        refine ⟨nmS fs, d, l, wd, _, _, c, [], ns, n4, r, 1400, 7, 1, rfl, by decide, by decide, by decide, by decide, by decide, ?_, by omega, by decide, X7, fun v t n8 r8 z8 H8 h8 p8 c8 y1 y2 hn8 C8 => ⟨(by show 2 ≤ sizeLine; decide), fun pp hpp => ?_⟩⟩
        · have := tB_succ (N := 7) (by decide)
          have := tB_pos (7 + 1)
          omega
        have k8 := C8.b2.kp X7.F X7.W
        have s9 := same_upd (o := .tup [.ref tp, v]) hpp
        refine k (.ref pp) fs t n8 _ (.tup upd_same (.cons (.tup (s9 _ _ (k8 _ _ htp7 (fun _ z => by cases z))) (IsThs.kp (Kp.of s9) (IsThs.kp k8 (IsThs.kp (Kp.of s57) hft5)))) (.cons (IsTh.kp (Kp.of s9) h8) .nil))) C1.fo (by omega) p8 (by omega) (by omega) (C8.F.same s9) (fun b o e hb => ?_)
        have hbw := now (C1.pB b o e hb)
        exact s9 _ _ (C8.b2 b o (s57 _ _ (b5 _ _ (C4.pB b o e hb) hbw)) hb hbw)
end
end K54

set_option Elab.async false
set_option linter.all false
set_option maxRecDepth 100000
set_option maxHeartbeats 4000000
namespace L2
open PySem PySem.Spec PyProof.Rows
/-! ### del xs[a:] -/
section
variable {prog : Program} {w : World} {A : Around} {E : Value → Shared → Prop} {s : Shared}
end
section
variable {X : Cx}
end
end L2

set_option Elab.async false
set_option linter.all false
set_option maxRecDepth 100000
set_option maxHeartbeats 4000000
namespace HT
open PySem PySem.Spec PyProof.Rows
section
variable {prog : Program} {w : World} {A : Around} {E : Value → Shared → Prop} {s : Shared}
theorem adjust_rev (n : Nat) : Builtin.Slice.sliceAdjust none none (-1) (n : Int) = ((n : Int) - 1, -1) := by
  unfold Builtin.Slice.sliceAdjust
  simp
theorem places_rev (n : Nat) : Builtin.Slice.slicePlaces ((n : Int) - 1) (-1) (-1) = n := by
  unfold Builtin.Slice.slicePlaces
  simp
  split <;> omega
theorem sliceApplied_rev {sl : Addr} {t : Tok} {n : Nat} {Q : Int × Int × Nat → Shared → Prop} (hs : s.heap.IsSliceOf sl .none .none (.int (-1) t))
    (h : Q ((n : Int) - 1, -1, n) s) : wpAny (model prog w) A (Builtin.Slice.sliceApplied (.ref sl) (pure (n : Int))) Q E s := by
  obtain ⟨os, hos, hcs, hds⟩ := id hs
  unfold Builtin.Slice.sliceApplied Builtin.Slice.sliceFields
  refine wpAny_bind (wpAny_bind (wpAny_field hos hds (x := .none) rfl (wpAny_bind (wpAny_field hos hds (x := .none) rfl (wpAny_bind (wpAny_field hos hds (x := .int (-1) t) rfl (wpAny_pure ?_)))))))
  refine wpAny_bind (slicePart_int ?_)
  show wpAny _ _ (if ((-1 : Int) == 0) = true then _ else _) _ _ s
  rw [if_neg (by decide)]
  refine wpAny_bind (slicePart_none (wpAny_bind (slicePart_none (wpAny_bind (wpAny_pure ?_)))))
  show wpAny _ _ (match Builtin.Slice.sliceAdjust none none (-1) (n : Int) with | (lo, hi) => pure (lo, (-1 : Int), Builtin.Slice.slicePlaces lo hi (-1))) _ _ s
  rw [adjust_rev n]
  show wpAny _ _ (pure ((n : Int) - 1, (-1 : Int), Builtin.Slice.slicePlaces ((n : Int) - 1) (-1) (-1))) _ _ s
  rw [places_rev]
  exact wpAny_pure h
theorem pick_rev (xs : Array Value) : ((List.range xs.size).filterMap fun (m : Nat) => xs[((xs.size : Int) - 1 + (m : Int) * (-1)).toNat]?).toArray = xs.toList.reverse.toArray := by
  have e : (fun (m : Nat) => xs[((xs.size : Int) - 1 + (m : Int) * (-1)).toNat]?) = (fun k : Nat => xs[k]?) ∘ fun m => xs.size - 1 - m := by
    funext m
    show _ = xs[xs.size - 1 - m]?
    by_cases hm : m < xs.size
    · have h1 : ((xs.size : Int) - 1 + (m : Int) * (-1)).toNat = xs.size - 1 - m := by omega
      rw [h1]
    · have h1 : ((xs.size : Int) - 1 + (m : Int) * (-1)).toNat = 0 := by omega
      have h2 : xs.size - 1 - m = 0 := by omega
      rw [h1, h2]
  rw [e, ← List.filterMap_map, PySem.W.krv_range, List.filterMap_reverse, PySem.W.krv_all]
theorem getItem_tuple_rev {t sl : Addr} {items : Array Value} {tk : Tok} {Q : Value → Shared → Prop} (ht : IsTup s.heap t items) (hs : s.heap.IsSliceOf sl .none .none (.int (-1) tk))
    (h : Q (.ref s.heap.objs.size) { s with heap := s.heap.push { cls := .type "tuple", data := .seq items.toList.reverse.toArray } })
    (hsz : items.size ≤ sizeLine) : wpAny (model prog w) A (getItem (.ref t) (.ref sl)) Q E s := by
  have htake : sizeOk (.seq items.toList.reverse.toArray) := by
    show (items.toList.reverse).toArray.size ≤ sizeLine
    rw [List.size_toArray, List.length_reverse, Array.length_toList]
    omega
  obtain ⟨os, hos, hcs, hds⟩ := id hs
  have hTs : s.TypeIs (.ref sl) "slice" := ⟨os, hos, hcs⟩
  unfold getItem
  try with_reducible refine wpAny_holding ?_
  first | refine wpAny_bind (wpAny_pure ?_) | skip
  refine wpAny_bind (wpAny_sequenceKey ht.typeIs (by decide) ?_)
  refine wpAny_bind (wpAny_callSpecial?_slot (name := Str.ofString "__getitem__") ht.typeIs PyProof.Rows.slot_tuple_getitem
    (wpAny_call_entry PyProof.Rows.slot_tuple_getitem ht.typeIs entry_tuple_getitem ?_ (args_tuple_getitem _ _)))
  show wpAny _ _ (Builtin.Tuple.tupleItemsOf (.ref t) >>= _) _ _ s
  refine wpAny_bind (tupleItemsOf_ ht ?_)
  refine wpAny_bind (wpAny_typeOf hTs ?_)
  rw [if_pos (by decide)]
  refine wpAny_bind (sliceApplied_rev hs ?_)
  have hno : ¬ ((((items.size : Int) - 1) == 0 && (-1 : Int) == 1 && items.size == items.size) = true) := by
    intro q
    rw [Bool.and_eq_true, Bool.and_eq_true] at q
    exact absurd q.1.2 (by decide)
  show wpAny _ _ (if (((items.size : Int) - 1) == 0 && (-1 : Int) == 1 && items.size == items.size) = true then _ else _) _ _ s
  rw [if_neg hno, pick_rev]
  first
    | exact wpAny_bind (m := Builtin.Tuple.tupleExact _) (wpAny_newObj_type (wpAny_pure ⟨_, rfl, wpAny_pure h⟩) htake)
    | exact wpAny_bind (m := Builtin.Tuple.tupleExact _) (wpAny_newObj_type (wpAny_bind (wpAny_pure (wpAny_pure ⟨_, rfl, wpAny_pure h⟩))) htake)
    | exact wpAny_bind (wpAny_bind (m := Builtin.Tuple.tupleExact _) (wpAny_newObj_type (wpAny_pure (wpAny_pure ⟨_, rfl, wpAny_pure h⟩)) htake))
    | exact wpAny_bind (wpAny_bind (m := Builtin.Tuple.tupleExact _) (wpAny_newObj_type (wpAny_pure ⟨_, rfl, wpAny_pure h⟩) htake))
end
end HT
namespace L2
open PySem PySem.Spec PyProof.Rows
section
variable {X : Cx}
/-- t[::-1] of a tuple: a new one -/
theorem pe_revT {e st : Expr} {te ts : TE} {pos p2 : Pos} (he : PE X e te) (hst : PE X st ts) : PE X (.Subscript e (.Slice none none (some st) p2) pos)
    (fun σ H Q => te σ H fun x H1 => ts σ H1 fun y H2 => y = .int (-1) ∧ ∃ a xs, x = .ref a ∧ SqT X.K H2 a xs ∧ ∀ p, H2 p = none → Q (.ref p) (upd H2 p (.tup xs.reverse))) := by
  intro pins s σ H Q I h
  refine Subscript_ (thn (he pins s σ H _ I h) fun v s1 ⟨x, H1, I1, r1, q1⟩ => ?_)
  refine wpAny_Slice ?_
  rw [evalPart_none]
  refine wpAny_pure (wpAny_pure ?_)
  rw [evalPart_some]
  refine thn (hst pins s1 σ H1 _ I1 q1) fun vs s3 ⟨y, H3, I3, ry, ey, a, xs, ex, hx, q⟩ => ?_
  subst ey ex
  cases r1
  obtain ⟨t, rfl⟩ := ry
  have I4 : Inv X pins σ H3 { s3 with heap := s3.heap.push { cls := .type "slice", data := .fields #[.none, .none, .int (-1) t] } } := I3.kept (t' := s3.toks) fun b ob q => Heap.get?_push_of_some _ q
  obtain ⟨its, r, ht, hz⟩ := I4.tuple hx
  have hlen := r.length
  refine tail_any (ops := [.ref a, .ref s3.heap.objs.size]) ht.typeIs PyProof.Rows.slot_tuple_getitem.lookup (HT.getItem_tuple_rev ht (Heap.IsSliceOf.new ..) ?_ (by rw [List.size_toArray] <;> omega)) (by with_unfolding_all rfl)
  refine ⟨.ref _, _, I4.laid (t' := s3.toks) (o := .tup xs.reverse) (fun b ob q => Heap.get?_push_of_some _ q) (Nat.le_refl _) ?_, rfl, q _ (I4.hok.fresh (Nat.le_refl _))⟩
  refine ⟨by rw [List.length_reverse]; exact hz, its.reverse, r.reverse, ?_⟩
  rw [show (its.toArray.toList.reverse).toArray = its.reverse.toArray by simp]
  exact IsTup.new _ _
/-- str(x) of a text or a number -/
def strOf : V → Str
  | .str x => x
  | .int i => toString i
  | _ => ""
def strOk : V → Bool
  | .str _ => true
  | .int i => decide (i.natAbs < 10 ^ 12)
  | _ => false
theorem call_strA : CallR X (.type "str") (fun xs H Q => ∃ v, xs = [v] ∧ strOk v = true ∧ Q (.str (strOf v)) H) := by
  intro pins s σ H xs us Q I r h
  obtain ⟨v, rfl, hz, q⟩ := h
  obtain ⟨u, rfl, rv⟩ := vals1 r
  cases v with
  | str x =>
    obtain ⟨t, rfl⟩ := rv
    exact PySem.P.str_of_str ⟨.str x, H, I, ⟨_, rfl⟩, q⟩
  | int i =>
    obtain ⟨t, rfl⟩ := rv
    have h' : i.natAbs < 10 ^ 12 := of_decide_eq_true hz
    refine PySem.P.str_of_int ?_ ⟨.str _, H, I.tok _, ⟨_, rfl⟩, q⟩
    by_cases h0 : i.natAbs = 0
    · rw [h0]; decide
    · have h1 : i.natAbs < 2 ^ 40 := Nat.lt_of_lt_of_le h' (by decide)
      have := (Nat.log2_lt h0).mpr h1
      omega
  | _ => cases hz
/-- sep.join(l), l a list or a tuple of texts -/
def rJoin (K : PySem.W.Frag) : V → List V → Hp → VK → Prop := fun x vs H Q => ∃ (sep : Str) (p : Addr) (ss : List Str), x = .str sep ∧ vs = [.ref p] ∧ (SqL K H p (ss.map V.str) ∨ SqT K H p (ss.map V.str)) ∧
  (ss.map (·.length)).sum + ss.length * sep.length ≤ 16777216 ∧ Q (.str (Txt.join sep ss)) H
theorem mt_join {K : PySem.W.Frag} (hK : X.K = K) : MtR X "str.join" (rJoin K) := by
  subst hK
  intro pins s σ H x vs v us Q I rx rv h
  obtain ⟨sep, p, ss, rfl, rfl, hq, hl, q⟩ := h
  obtain ⟨t, rfl⟩ := rx
  obtain ⟨u, rfl, ru⟩ := rv.one
  cases ru
  rcases hq with hq | hq
  · obtain ⟨its, r, pl, hz⟩ := I.list hq
    exact join_list pl.isList (strs_of r) hl fun t' k => ⟨.str _, H, I.tok _, ⟨_, rfl⟩, q⟩
  · obtain ⟨its, r, pl, hz⟩ := I.tuple hq
    exact join_tuple pl (strs_of r) hl fun t' k => ⟨.str _, H, I.tok _, ⟨_, rfl⟩, q⟩
end
end L2

set_option Elab.async false
set_option linter.all false
set_option maxRecDepth 100000
set_option maxHeartbeats 4000000
namespace K54
open PySem L2
/-- the parts of a node, a new tuple of them -/
def spParts : Sp := fun vs H Q _ => ∃ (H0 : Hp) (v : V) (ts : List Th), vs = [v] ∧ Same H0 H ∧ IsTh H0 v (.tup ts) ∧ ts.length ≤ 1000000 ∧
  ∀ (p : Addr) (ws : List V) H', Same H H' → H' p = some (.tup ws) → IsThs H0 ws (kidsL ts) → Q (.ref p) H'
def spHead : Sp := fun vs H Q _ => ∃ (H0 : Hp) (v : V) (ts : List Th), vs = [v] ∧ Same H0 H ∧ IsTh H0 v (.tup ts) ∧ ts.length ≤ 1000000 ∧
  ∀ (p : Addr) (ws : List V) H', Same H H' → H' p = some (.tup ws) → IsThs H0 ws (leadL ts) → Q (.ref p) H'
section
variable {P : Program} {w : World} {K : PySem.W.Frag} {mg : Str → Option Value} {base : Heap}
theorem scParts : FnScope ["e"] ["e"] (defScope sParts) := ⟨rfl, rfl, rfl, by decide +kernel, rfl, by decide +kernel, by decide +kernel⟩
theorem ok_parts {f : Addr} {fd : FuncData} (F : Fun K "parts" "parts" sParts f fd) (T : TxtT mg) (KI : Kits K) : FnOk P w K mg base CX0 1 f fd ["e"] spParts := by
  refine F.ok scParts (fun vs H Q E h => ?_) (fun cdv A outer s H vs Q E hr h => ?_)
  · obtain ⟨H0, v, ts, rfl, _⟩ := h
    rfl
  · obtain ⟨H0, v, ts, rfl, s0, hv, hz, k⟩ := h
    refine ⟨_, pss_one (ps_ret (pe_callTy call_tuple_of (by rfl) T.tup (by decide +kernel) (pa_cons (pe_comp (N' := ["part"]) (src := [none]) rfl (compScope_of (defScope sParts) rfl ["e"] rfl (by decide +kernel)) (pi_tup (pv 0))
      (fun cl C ex s0' H0' => ⟨pg_name (i := 0) (nd1 _) rfl (Or.inl rfl), pts_one (pt_val (pe_callB (id := "isinstance") (call_isinstK (K := K) rfl) (by rfl) T.isi (by decide +kernel) (pa_n (pv 0) (pa_n (pe_bltn (v := .ty "tuple") (by rfl) T.tup (by decide +kernel) rfl) pa_nil)))), pv 0⟩)) pa_nil))), ?_⟩
    obtain ⟨a, xs, rfl, ha0, hts⟩ := th_tup hv
    have ha := s0 _ _ ha0
    have hl := IsThs.len _ hts
    refine ⟨_, rfl, a, rfl, ⟨_, SqT.of ha⟩, comp_tup (K := K) (a := a) (xs := xs) (fun i ys σc H' => ∃ o, σc = [o] ∧ IsThs H0 ys ((ts.take i).filter isTup) ∧ ys.length ≤ i ∧ H' = H) ⟨none, rfl, by rw [List.take_zero]; exact .nil, Nat.le_refl _, rfl⟩ (fun i ys σc H' ⟨_, _, _, _, e⟩ => by rw [e]; exact SqT.of ha) ?_ ?_⟩
    · rintro i x ys σc H' hx hi ⟨o, rfl, hys, hyl, rfl⟩
      obtain ⟨t, ht, h1⟩ := ths_get _ hts hx
      have hnext : (ts.take (i + 1)).filter isTup = (ts.take i).filter isTup ++ (if isTup t = true then [t] else []) := take_nextR _ ht
      refine ⟨by have : sizeLine = 16777216 := sizeLine_eq; omega, ?_⟩
      refine ⟨_, rfl, _, _, _, _, rfl, th_ty (IsTh.kp (Kp.of s0) h1), KI.tup h1, _, rfl, ite2 (fun g => ?_) (fun g => ?_)⟩
      · refine ⟨_, rfl, nx hi ⟨_, rfl, ?_, by rw [List.length_append]; show ys.length + 1 ≤ i + 1; omega, rfl⟩⟩
        rw [hnext, if_pos g]
        exact IsThs.app _ hys (.cons h1 .nil)
      · refine nx hi ⟨_, rfl, ?_, by omega, rfl⟩
        rw [hnext, if_neg g, List.append_nil]
        exact hys
    · rintro ys σc H' ⟨o, rfl, hys, hyl, rfl⟩ l hl'
      refine ⟨l, _, rfl, .inl ⟨SqL.of upd_same, fun p hp => ?_⟩⟩
      rw [List.take_of_length_le (by omega)] at hys
      have s2 := (same_upd (o := .lst ys) hl').trans (same_upd (o := .tup ys) hp)
      exact k p ys _ s2 upd_same hys
theorem scHead : FnScope ["node"] ["node"] (defScope sHead) := ⟨rfl, rfl, rfl, by decide +kernel, rfl, by decide +kernel, by decide +kernel⟩
theorem ok_head {f : Addr} {fd : FuncData} (F : Fun K "head" "head" sHead f fd) (T : TxtT mg) (KI : Kits K) : FnOk P w K mg base CX0 1 f fd ["node"] spHead := by
  refine F.ok scHead (fun vs H Q E h => ?_) (fun cdv A outer s H vs Q E hr h => ?_)
  · obtain ⟨H0, v, ts, rfl, _⟩ := h
    rfl
  · obtain ⟨H0, v, ts, rfl, s0, hv, hz, k⟩ := h
    refine ⟨_, pss_one (ps_ret (pe_callTy call_tuple_of (by rfl) T.tup (by decide +kernel) (pa_cons (pe_comp (N' := ["field"]) (src := [none]) rfl (compScope_of (defScope sHead) rfl ["node"] rfl (by decide +kernel)) (pi_tup (pv 0))
      (fun cl C ex s0 H0 => ⟨pg_name (i := 0) (nd1 _) rfl (Or.inl rfl), pts_one (pt_not (pt_val (pe_callB (id := "isinstance") (call_isinstK (K := K) rfl) (by rfl) T.isi (by decide +kernel) (pa_n (pv 0) (pa_n (pe_bltn (v := .ty "tuple") (by rfl) T.tup (by decide +kernel) rfl) pa_nil))))), pv 0⟩)) pa_nil))), ?_⟩
    obtain ⟨a, xs, rfl, ha0, hts⟩ := th_tup hv
    have ha := s0 _ _ ha0
    have hl := IsThs.len _ hts
    refine ⟨_, rfl, a, rfl, ⟨_, SqT.of ha⟩, comp_tup (K := K) (a := a) (xs := xs) (fun i ys σc H' => ∃ o, σc = [o] ∧ IsThs H0 ys ((ts.take i).filter notTup) ∧ ys.length ≤ i ∧ H' = H) ⟨none, rfl, by rw [List.take_zero]; exact .nil, Nat.le_refl _, rfl⟩ (fun i ys σc H' ⟨_, _, _, _, e⟩ => by rw [e]; exact SqT.of ha) ?_ ?_⟩
    · rintro i x ys σc H' hx hi ⟨o, rfl, hys, hyl, rfl⟩
      obtain ⟨t, ht, h1⟩ := ths_get _ hts hx
      have hnext : (ts.take (i + 1)).filter notTup = (ts.take i).filter notTup ++ (if notTup t = true then [t] else []) := take_nextR _ ht
      refine ⟨by have : sizeLine = 16777216 := sizeLine_eq; omega, ?_⟩
      refine ⟨_, rfl, _, _, _, _, rfl, th_ty (IsTh.kp (Kp.of s0) h1), KI.tup h1, _, rfl, ite2 (fun g => ?_) (fun g => ?_)⟩
      · refine ⟨_, rfl, nx hi ⟨_, rfl, ?_, by rw [List.length_append]; show ys.length + 1 ≤ i + 1; omega, rfl⟩⟩
        rw [hnext, if_pos (show notTup t = true from g)]
        exact IsThs.app _ hys (.cons h1 .nil)
      · refine nx hi ⟨_, rfl, ?_, by omega, rfl⟩
        rw [hnext, if_neg (show ¬ notTup t = true from g), List.append_nil]
        exact hys
    · rintro ys σc H' ⟨o, rfl, hys, hyl, rfl⟩ l hl'
      refine ⟨l, _, rfl, .inl ⟨SqL.of upd_same, fun p hp => ?_⟩⟩
      rw [List.take_of_length_le (by omega)] at hys
      have s2 := (same_upd (o := .lst ys) hl').trans (same_upd (o := .tup ys) hp)
      exact k p ys _ s2 upd_same hys
end
end K54

set_option Elab.async false
set_option linter.all false
set_option maxRecDepth 100000
set_option maxHeartbeats 4000000
namespace K54
open PySem L2
/-! ### the words of an expression -/
def fdS : List Th → List Str
  | .at v :: ts => strOf v :: fdS ts
  | _ :: ts => fdS ts
  | [] => []
/-- ahead of the parts, and behind them -/
def ahW (w : Str) (fs : List Str) : List Str := if w = "num" ∨ w = "name" then fs else if w = "take" then w :: fs else if w = "op" then "(" :: fs else "(" :: w :: fs
def bhW (w : Str) : List Str := if w = "num" ∨ w = "name" then [] else if w = "take" then [] else [")"]
mutual
def wd : Th → List Str
  | .tup xs => ahW (wOf xs) (fdS (xs.drop 1)) ++ wds xs ++ bhW (wOf xs)
  | .at _ => []
  | .lst _ => []
def wds : List Th → List Str
  | [] => []
  | x :: xs => wd x ++ wds xs
end
theorem wds_app : ∀ a b : List Th, wds (a ++ b) = wds a ++ wds b := by
  intro a
  induction a with
  | nil => intro b; rw [wds]; rfl
  | cons x a ih => intro b; rw [List.cons_append, wds, wds, ih, List.append_assoc]
theorem wds_ats : ∀ hd : List V, wds (hd.map Th.at) = [] := by
  intro hd
  induction hd with
  | nil => rw [List.map_nil, wds]
  | cons x a ih => rw [List.map_cons, wds, ih, wd]; rfl
theorem fdS_tups : ∀ {ks : List Th}, (∀ k ∈ ks, L2.isTup k = true) → fdS ks = [] := by
  intro ks
  induction ks with
  | nil => intro _; rfl
  | cons k ks ih =>
    intro h
    have hk := h k (List.mem_cons_self ..)
    have hi := ih fun y hy => h y (List.mem_cons_of_mem _ hy)
    cases k with
    | tup xs => exact hi
    | «at» v => cases hk
    | lst xs => exact hi
theorem fdS_nd : ∀ (hd : List V) {ks : List Th}, (∀ k ∈ ks, L2.isTup k = true) → fdS (hd.map Th.at ++ ks) = hd.map strOf := by
  intro hd ks h
  induction hd with
  | nil =>
    rw [List.map_nil, List.nil_append, List.map_nil]
    exact fdS_tups h
  | cons v hd ih => rw [List.map_cons, List.cons_append, fdS, ih, List.map_cons]
theorem wd_nd {w : Str} {hd : List V} {ks : List Th} (h : ∀ k ∈ ks, L2.isTup k = true) : wd (nd w hd ks) = ahW w (hd.map strOf) ++ wds ks ++ bhW w := by
  have e : wds (.at (.str w) :: (hd.map Th.at ++ ks)) = wds ks := by
    rw [wds, wd, wds_app, wds_ats]
    rfl
  unfold nd
  rw [wd, e]
  show ahW w (fdS (hd.map Th.at ++ ks)) ++ _ ++ _ = _
  rw [fdS_nd hd h]
  rfl
/-- what may be shown of a node's own field -/
theorem Sh.strOk {S : List Str} {w : Str} {hd : List V} {n : Nat} (h : Sh S w hd n) : ∀ v ∈ hd, L2.strOk v = true := by
  intro v hv
  cases h with
  | num a b => rw [List.mem_singleton] at hv; rw [hv]; exact decide_eq_true (by omega)
  | again a b => rw [List.mem_singleton] at hv; rw [hv]; exact decide_eq_true (by omega)
  | name a => rw [List.mem_singleton] at hv; rw [hv]; rfl
  | op a => rw [List.mem_singleton] at hv; rw [hv]; rfl
  | lt a => rw [List.mem_singleton] at hv; rw [hv]; rfl
  | set a => rw [List.mem_singleton] at hv; rw [hv]; rfl
  | call a b c => rw [List.mem_singleton] at hv; rw [hv]; rfl
  | _ => cases hv
theorem Sh.len {S : List Str} {w : Str} {hd : List V} {n : Nat} (h : Sh S w hd n) : ∀ v ∈ hd, (strOf v).length ≤ 16 := by
  intro v hv
  have num : ∀ i : Int, i.natAbs < 10 ^ 12 → (strOf (.int i)).length ≤ 16 := fun i hi => by
    have := PyData.shown_int_le hi
    have e : (strOf (.int i)).length = (PyData.shown (.int i)).length := rfl
    omega
  have nm : ∀ x : Str, Nm x → (strOf (.str x)).length ≤ 16 := fun x hx => by
    show x.length ≤ 16
    have := hx.1.2
    omega
  cases h with
  | num a b => rw [List.mem_singleton] at hv; rw [hv]; exact num _ (by omega)
  | again a b => rw [List.mem_singleton] at hv; rw [hv]; exact num _ (by omega)
  | name a => rw [List.mem_singleton] at hv; rw [hv]; exact nm _ a
  | op a => rw [List.mem_singleton] at hv; rw [hv]; show 1 ≤ 16; decide
  | lt a => rw [List.mem_singleton] at hv; rw [hv]; exact nm _ a
  | set a => rw [List.mem_singleton] at hv; rw [hv]; exact nm _ a
  | call a b c => rw [List.mem_singleton] at hv; rw [hv]; exact nm _ b
  | _ => cases hv
theorem Sh.word {S : List Str} {w : Str} {hd : List V} {n : Nat} (h : Sh S w hd n) : w.length ≤ 16 := by
  cases h <;> decide +kernel
/-- a word, told -/
theorem ah_mem {w : Str} {fs : List Str} {x : Str} (h : x ∈ ahW w fs) : x = "(" ∨ x = w ∨ x ∈ fs := by
  unfold ahW at h
  split at h
  · exact .inr (.inr h)
  · split at h
    · rcases List.mem_cons.mp h with q | q
      · exact .inr (.inl q)
      · exact .inr (.inr q)
    · split at h
      · rcases List.mem_cons.mp h with q | q
        · exact .inl q
        · exact .inr (.inr q)
      · rcases List.mem_cons.mp h with q | q
        · exact .inl q
        · rcases List.mem_cons.mp q with q | q
          · exact .inr (.inl q)
          · exact .inr (.inr q)
theorem bh_mem {w x : Str} (h : x ∈ bhW w) : x = ")" := by
  unfold bhW at h
  split at h
  · cases h
  · split at h
    · cases h
    · rwa [List.mem_singleton] at h
theorem ah_len (w : Str) (fs : List Str) : (ahW w fs).length ≤ fs.length + 2 := by
  unfold ahW
  split
  · omega
  · split
    · rw [List.length_cons]; omega
    · split
      · rw [List.length_cons]; omega
      · rw [List.length_cons, List.length_cons]; omega
theorem bh_len (w : Str) : (bhW w).length ≤ 1 := by
  unfold bhW
  split
  · exact Nat.zero_le _
  · split
    · exact Nat.zero_le _
    · exact Nat.le_refl _
theorem wd_len {S : List Str} : ∀ (n : Nat) {t : Th}, PfT S n t → (wd t).length ≤ 4 * cnt t ∧ ∀ x ∈ wd t, x.length ≤ 16 := by
  intro n
  induction n with
  | zero => intro t h; exact h.elim
  | succ n ih =>
    intro t h
    obtain ⟨w, hd, ks, rfl, h1, h2, h3, h4, h5, h6⟩ := h
    have nk : ∀ k ∈ ks, L2.isTup k = true := fun k hk => (h6 k hk).isTup
    have hks : ∀ l : List Th, (∀ k ∈ l, k ∈ ks) → (wds l).length ≤ 4 * cnts l ∧ ∀ x ∈ wds l, x.length ≤ 16 := by
      intro l
      induction l with
      | nil => intro _; rw [wds]; exact ⟨Nat.zero_le _, fun x hx => by cases hx⟩
      | cons k l il =>
        intro hl
        obtain ⟨a1, a2⟩ := ih (h6 k (hl k (List.mem_cons_self ..)))
        obtain ⟨b1, b2⟩ := il fun y hy => hl y (List.mem_cons_of_mem _ hy)
        rw [wds, cnts, List.length_append]
        refine ⟨by omega, fun x hx => ?_⟩
        rcases List.mem_append.mp hx with q | q
        · exact a2 x q
        · exact b2 x q
    obtain ⟨c1, c2⟩ := hks ks fun k hk => hk
    rw [wd_nd nk, cnt_nd nk, List.length_append, List.length_append]
    have e1 := ah_len w (hd.map strOf)
    have e2 := bh_len w
    rw [List.length_map] at e1
    refine ⟨by omega, fun x hx => ?_⟩
    rcases List.mem_append.mp hx with q | q
    · rcases List.mem_append.mp q with q | q
      · rcases ah_mem q with rfl | rfl | q
        · decide +kernel
        · exact h4.sh.word
        · obtain ⟨v, hv, rfl⟩ := List.mem_map.mp q
          exact h4.sh.len v hv
      · exact c2 x q
    · rw [bh_mem q]
      decide +kernel
theorem wd_ne {S : List Str} {n : Nat} {t : Th} (h : PfT S n t) : wd t ≠ [] := by
  cases n with
  | zero => exact h.elim
  | succ n =>
    obtain ⟨w, hd, ks, rfl, h1, h2, h3, h4, h5, h6⟩ := h
    rw [wd_nd fun k hk => (h6 k hk).isTup]
    intro e
    have e1 := (List.append_eq_nil_iff.mp (List.append_eq_nil_iff.mp e).1).1
    have sh := h4.sh
    generalize ks.length = m at sh
    unfold ahW at e1
    cases sh with
    | num a b => rw [if_pos (.inl rfl)] at e1; cases e1
    | name a => rw [if_pos (.inr rfl)] at e1; cases e1
    | _ => (rw [if_neg (by decide +kernel)] at e1; (repeat' split at e1) <;> cases e1)
theorem sum_le {c : Nat} : ∀ ss : List Str, (∀ x ∈ ss, x.length ≤ c) → (ss.map (·.length)).sum ≤ c * ss.length := by
  intro ss
  induction ss with
  | nil => intro _; exact Nat.zero_le _
  | cons x ss ih =>
    intro h
    have h1 := h x (List.mem_cons_self ..)
    have h2 := ih fun y hy => h y (List.mem_cons_of_mem _ hy)
    rw [List.map_cons, List.sum_cons, List.length_cons, Nat.mul_add]
    omega
theorem join_ok {ss : List Str} {c : Nat} (h : ∀ x ∈ ss, x.length ≤ c) (hc : c ≤ 1000000) (hl : (c + 1) * ss.length ≤ 16777216) : (ss.map (·.length)).sum + ss.length * (" " : Str).length ≤ 16777216 := by
  have h1 := sum_le ss h
  have h2 : (" " : Str).length = 1 := by decide +kernel
  rw [h2]
  rw [Nat.add_mul] at hl
  omega
/-! ### joined texts -/
theorem glue_acc (g : Str) : ∀ (l : List Str) (a b : Array Nat), l.foldl (fun acc p => acc ++ g.cps ++ p.cps) (a ++ b) = a ++ l.foldl (fun acc p => acc ++ g.cps ++ p.cps) b := by
  intro l
  induction l with
  | nil => intro a b; rfl
  | cons x l ih => intro a b; rw [List.foldl_cons, List.foldl_cons, Array.append_assoc, Array.append_assoc, ih, Array.append_assoc]
theorem join_in (g : Str) {xs ys : List Str} (hx : xs ≠ []) (hy : ys ≠ []) : Txt.join g (xs ++ [Txt.join g ys]) = Txt.join g (xs ++ ys) := by
  cases xs with
  | nil => exact absurd rfl hx
  | cons x xs =>
    cases ys with
    | nil => exact absurd rfl hy
    | cons y ys =>
      unfold Txt.join Builtin.Str.glued
      simp only [List.cons_append, List.drop_succ_cons, List.drop_zero, List.headD_cons, List.foldl_append, List.foldl_cons, List.foldl_nil]
      rw [glue_acc]
/-- an expression's text -/
def txt (t : Th) : Str := Txt.join " " (wd t)
end K54

set_option Elab.async false
set_option linter.all false
set_option maxRecDepth 100000
set_option maxHeartbeats 4000000
namespace K54
open PySem L2
def spNodeWords (S : List Str) : Sp := fun vs H Q _ => ∃ (H0 : Hp) (v : V) (w0 : Str) (hd : List V) (ks : List Th), vs = [v] ∧ Same H0 H ∧ IsTh H0 v (nd w0 hd ks) ∧ (∀ k ∈ ks, L2.isTup k = true) ∧ Sh S w0 hd ks.length ∧ ks.length ≤ 6 ∧ hd.length ≤ 1 ∧
  ∀ (p a b : Addr) H', Same H H' → H a = none → H b = none → H' p = some (.tup [.ref a, .ref b]) → H' a = some (.lst ((ahW w0 (hd.map strOf)).map V.str)) → H' b = some (.lst ((bhW w0).map V.str)) → Q (.ref p) H'
theorem inV_leaf (x : Str) : inV (.str x) [.str "num", .str "name"] = true ↔ x = "num" ∨ x = "name" := by
  have e : [V.str "num", .str "name"] = (["num", "name"] : List Str).map V.str := rfl
  rw [e, inV_strs]
  simp
section
variable {S : List Str} {P : Program} {w : World} {K : PySem.W.Frag} {mg : Str → Option Value} {base : Heap}
theorem scNodeWords : FnScope ["node", "word", "fields"] ["node"] (defScope sNodeWords) := ⟨rfl, rfl, rfl, by decide +kernel, rfl, by decide +kernel, by decide +kernel⟩
theorem ok_nodewords {f fH : Addr} {fd dH : FuncData} (F : Fun K "node_words" "node_words" sNodeWords f fd) (T : TxtT mg) (KI : Kits K) (hstr : mg "str" = none)
    (FH : Fn K mg "head" sHead ["node"] fH dH) : FnOk P w K mg base CX0 2 f fd ["node"] (spNodeWords S) := by
  have GH : FnOk P w K mg base CX0 1 fH dH ["node"] spHead := ok_head FH.F T KI
  refine F.ok scNodeWords (fun vs H Q E h => ?_) (fun cdv A outer s H vs Q E hr h => ?_)
  · obtain ⟨H0, v, w0, hd, ks, rfl, _⟩ := h
    rfl
  · obtain ⟨H0, v, w0, hd, ks, rfl, s0, hv, nk, sh, hk6, hh1, k⟩ := h
    have hsz : sizeLine = 16777216 := sizeLine_eq
    have hr1 : Room 1 _ := hr.mono (by decide)
    refine' ⟨?tt, ?body, ?fin⟩
    case body =>
      refine' pss_cons ?s1 ?r1
      case s1 => exact ps_set (i := 1) scNodeWords.nd rfl (Or.inl rfl) (pe_ix ix_tup (pv 0) pe_int (fun _ _ => rfl))
      case r1 =>
        refine' pss_cut ?s2 ?r2
        case s2 =>
          refine' ps_setComp (i := 2) (N' := ["field"]) (src := [none]) ?k1 ?k2 ?k3 ?k4 ?k5 ?k6 ?k7
          case k1 => rfl
          case k2 => exact scNodeWords.nd
          case k3 => rfl
          case k4 => exact Or.inl rfl
          case k5 => exact compScope_of (defScope sNodeWords) rfl ["node", "word", "fields"] rfl (by decide +kernel)
          case k6 => exact pi_tup (pe_call GH hr1 (by rfl) FH.m FH.F.kp FH.b .nil pass0 (pa_n (pv 0) pa_nil))
          case k7 => exact fun cl C ex s0 H0 => ⟨pg_name (i := 0) (nd1 _) rfl (Or.inl rfl), pts_nil, pe_callTy call_strA (by rfl) hstr (by decide +kernel) (pa_n (pv 0) pa_nil)⟩
        case r2 =>
          refine' pss_cons ?s3 ?r3
          case s3 => exact ps_if (pt_cmpR op_in_seq (pv 1) (pe_tup (pa_k pe_str (pa_k pe_str pa_nil))) (by with_unfolding_all rfl)) (pss_one (ps_ret (pe_tup (pa_cons (pe_slice sl_list (pv 2) (po_some pe_int) po_none) (pa_l (pe_lst pa_nil) pa_nil))))) pss_nil
          case r3 =>
            refine' pss_cons ?s4 ?r4
            case s4 => exact ps_if (pt_cmpR op_eq (pv 1) pe_str (nomark _)) (pss_one (ps_ret (pe_tup (pa_n (pv 2) (pa_l (pe_lst pa_nil) pa_nil))))) pss_nil
            case r4 =>
              refine' pss_cons ?s5 (pss_one ?s6)
              case s5 => exact ps_if (pt_cmpR op_eq (pv 1) pe_str (nomark _)) (pss_one (ps_ret (pe_tup (pa_cons (pe_op op_cat (pe_lst (pa_k pe_str pa_nil)) (pe_slice sl_list (pv 2) (po_some pe_int) po_none)) (pa_l (pe_lst (pa_k pe_str pa_nil)) pa_nil))))) pss_nil
              case s6 => exact ps_ret (pe_tup (pa_cons (pe_op op_cat (pe_lst (pa_k pe_str pa_nil)) (pv 2)) (pa_l (pe_lst (pa_k pe_str pa_nil)) pa_nil)))
    case fin =>
      have hv' := hv
      unfold nd at hv'
      obtain ⟨a, vs, rfl, ha0, hvs⟩ := th_tup hv'
      have ha := s0 _ _ ha0
      cases hvs with
      | @cons vh vr _ _ d1 d2 =>
        obtain ⟨rfl, _⟩ := th_at d1
        refine ⟨_, rfl, a, _, _, _, rfl, rfl, SqT.of ha, at_head _ _, ?_⟩
        refine ⟨fun σ' H' => ∃ fa, σ' = [some (.ref a), some (.str w0), some (.ref fa)] ∧ Same H H' ∧ H fa = none ∧ H' fa = some (.lst ((w0 :: hd.map strOf).map V.str)), ?_, ?_⟩
        · refine ⟨_, rfl, H0, .ref a, _, rfl, s0, hv', by rw [List.length_cons, List.length_append, List.length_map]; omega, fun p ws H1 s1 hp hws => ?_⟩
          rw [nd_lead nk] at hws
          have hl := IsThs.len _ hws
          rw [List.length_cons, List.length_map] at hl
          have hwv : ws = .str w0 :: hd := by
            cases hws with
            | @cons y ys _ _ e1 e2 =>
              obtain ⟨rfl, _⟩ := th_at e1
              congr 1
              clear hl hp
              induction hd generalizing ys with
              | nil => cases e2; rfl
              | cons z hd ih =>
                cases e2 with
                | cons e3 e4 =>
                  obtain ⟨rfl, _⟩ := th_at e3
                  cases hd with
                  | nil => cases e4; rfl
                  | cons _ _ => simp at hh1
          subst hwv
          have hok : ∀ x ∈ V.str w0 :: hd, strOk x = true := fun x hx => by
            rcases List.mem_cons.mp hx with q | q
            · rw [q]; rfl
            · exact sh.strOk x q
          refine ⟨p, rfl, ⟨_, SqT.of hp⟩, comp_tup (K := K) (a := p) (xs := .str w0 :: hd) (fun i ys σc H' => ∃ o, σc = [o] ∧ ys = ((V.str w0 :: hd).take i).map (fun v => V.str (strOf v)) ∧ H' = H1)
            ⟨none, rfl, rfl, rfl⟩ (fun i ys σc H' ⟨_, _, _, e⟩ => by rw [e]; exact SqT.of hp) ?_ ?_⟩
          · rintro i x ys σc H' hx hi ⟨o, rfl, rfl, rfl⟩
            refine ⟨by rw [List.length_map, List.length_take]; omega, _, rfl, x, rfl, hok x (List.mem_of_getElem? hx), nx hi ⟨_, rfl, ?_, rfl⟩⟩
            rw [List.take_add_one, hx, List.map_append]
            rfl
          · rintro ys σc H' ⟨o, rfl, rfl, rfl⟩ l hl'
            rw [List.take_of_length_le (Nat.le_refl _)]
            refine ⟨l, rfl, s1.trans (same_upd hl'), same_none s1 hl', ?_⟩
            rw [upd_same, List.map_cons, List.map_cons, List.map_map]
            rfl
        rintro σ1 H1 ⟨fa, rfl, s1, hfa0, hfa⟩
        have cutF : cutV ((w0 :: hd.map strOf).map V.str) (some 1) none = (hd.map strOf).map V.str := by
          rw [cut_behind (by decide) (by rw [List.length_map, List.length_cons]; show 1 ≤ _; omega)]
          rfl
        have hfl : ((w0 :: hd.map strOf).map V.str).length ≤ 2 := by rw [List.length_map, List.length_cons, List.length_map]; omega
        have hfl2 : ((hd.map strOf).map V.str).length ≤ 1 := by rw [List.length_map, List.length_map]; omega
        refine ⟨_, rfl, (by show 2 ≤ sizeLine; decide), fun c hc => ?_⟩
        have sc := same_upd (o := .tup [.str "num", .str "name"]) hc
        have s12 := s1.trans sc
        have hfa2 := sc _ _ hfa
        have hcf : c ≠ fa := fun q => by rw [q, hfa] at hc; cases hc
        refine ⟨c, [.str "num", .str "name"], rfl, .inr (SqT.of upd_same), rfl, by decide +kernel, _, rfl, ite2 (fun g => ?_) (fun g => ?_)⟩
        · have hw := (inV_leaf w0).mp g
          refine ⟨_, rfl, 1, rfl, fa, _, rfl, SqL.of hfa2, fun l1 hl1 => ?_⟩
          rw [cutF]
          have s3 := same_upd (o := .lst ((hd.map strOf).map V.str)) hl1
          refine ⟨Nat.zero_le _, fun l2 hl2 => ?_⟩
          have s4 := same_upd (o := .lst []) hl2
          refine ⟨(by show 2 ≤ sizeLine; decide), fun p hp => ?_⟩
          have s5 := same_upd (o := .tup [.ref l1, .ref l2]) hp
          have eA : ahW w0 (hd.map strOf) = hd.map strOf := by unfold ahW; rw [if_pos hw]
          have eB : bhW w0 = [] := by unfold bhW; rw [if_pos hw]
          refine k p l1 l2 _ ((s12.trans s3).trans (s4.trans s5)) (same_none s12 hl1) (same_none (s12.trans s3) hl2) upd_same ?_ ?_
          · rw [eA]; exact s5 _ _ (s4 _ _ upd_same)
          · rw [eB]; exact s5 _ _ upd_same
        · have hw : ¬ (w0 = "num" ∨ w0 = "name") := fun q => g ((inV_leaf w0).mpr q)
          refine ⟨_, rfl, rfl, _, rfl, ite2 (fun g2 => ?_) (fun g2 => ?_)⟩
          · have hw2 : w0 = "take" := by
              have g' := of_decide_eq_true g2
              injection g'
            refine ⟨_, rfl, Nat.zero_le _, fun l2 hl2 => ?_⟩
            have s4 := same_upd (o := .lst []) hl2
            refine ⟨(by show 2 ≤ sizeLine; decide), fun p hp => ?_⟩
            have s5 := same_upd (o := .tup [.ref fa, .ref l2]) hp
            have eA : ahW w0 (hd.map strOf) = w0 :: hd.map strOf := by unfold ahW; rw [if_neg hw, if_pos hw2]
            have eB : bhW w0 = [] := by unfold bhW; rw [if_neg hw, if_pos hw2]
            refine k p fa l2 _ (s12.trans (s4.trans s5)) hfa0 (same_none s12 hl2) upd_same ?_ ?_
            · rw [eA]; exact s5 _ _ (s4 _ _ hfa2)
            · rw [eB]; exact s5 _ _ upd_same
          · have hw2 : w0 ≠ "take" := fun q => g2 (by rw [q]; decide +kernel)
            have eB : bhW w0 = ([")"] : List Str) := by unfold bhW; rw [if_neg hw, if_neg hw2]
            refine ⟨_, rfl, rfl, _, rfl, ite2 (fun g3 => ?_) (fun g3 => ?_)⟩
            · have hw3 : w0 = "op" := by
                have g' := of_decide_eq_true g3
                injection g'
              have eA : ahW w0 (hd.map strOf) = ("(" : Str) :: hd.map strOf := by unfold ahW; rw [if_neg hw, if_neg hw2, if_pos hw3]
              refine ⟨(by show 1 ≤ sizeLine; decide), fun l0 hl0 => ?_⟩
              have s3 := same_upd (o := .lst [.str "("]) hl0
              refine ⟨_, rfl, 1, rfl, fa, _, rfl, SqL.of (s3 _ _ hfa2), fun l1 hl1 => ?_⟩
              rw [cutF]
              have s4 := same_upd (o := .lst ((hd.map strOf).map V.str)) hl1
              refine ⟨l0, l1, _, _, rfl, rfl, s4 _ _ upd_same, upd_same, by rw [List.length_singleton]; omega, fun l3 hl3 => ?_⟩
              have s5 := same_upd (o := .lst ([.str "("] ++ (hd.map strOf).map V.str)) hl3
              refine ⟨(by show 1 ≤ sizeLine; decide), fun l2 hl2 => ?_⟩
              have s6 := same_upd (o := .lst [.str ")"]) hl2
              refine ⟨(by show 2 ≤ sizeLine; decide), fun p hp => ?_⟩
              have s7 := same_upd (o := .tup [.ref l3, .ref l2]) hp
              have sA := ((s12.trans s3).trans s4).trans s5
              refine k p l3 l2 _ (sA.trans (s6.trans s7)) (same_none ((s12.trans s3).trans s4) hl3) (same_none sA hl2) upd_same ?_ ?_
              · rw [eA]; exact s7 _ _ (s6 _ _ upd_same)
              · rw [eB]; exact s7 _ _ upd_same
            · have hw3 : w0 ≠ "op" := fun q => g3 (by rw [q]; decide +kernel)
              have eA : ahW w0 (hd.map strOf) = ("(" : Str) :: w0 :: hd.map strOf := by unfold ahW; rw [if_neg hw, if_neg hw2, if_neg hw3]
              refine ⟨(by show 1 ≤ sizeLine; decide), fun l0 hl0 => ?_⟩
              have s3 := same_upd (o := .lst [.str "("]) hl0
              refine ⟨_, rfl, l0, fa, _, _, rfl, rfl, upd_same, s3 _ _ hfa2, by rw [List.length_singleton]; omega, fun l3 hl3 => ?_⟩
              have s5 := same_upd (o := .lst ([.str "("] ++ (w0 :: hd.map strOf).map V.str)) hl3
              refine ⟨(by show 1 ≤ sizeLine; decide), fun l2 hl2 => ?_⟩
              have s6 := same_upd (o := .lst [.str ")"]) hl2
              refine ⟨(by show 2 ≤ sizeLine; decide), fun p hp => ?_⟩
              have s7 := same_upd (o := .tup [.ref l3, .ref l2]) hp
              have sA := (s12.trans s3).trans s5
              refine k p l3 l2 _ (sA.trans (s6.trans s7)) (same_none (s12.trans s3) hl3) (same_none sA hl2) upd_same ?_ ?_
              · rw [eA]; exact s7 _ _ (s6 _ _ upd_same)
              · rw [eB]; exact s7 _ _ upd_same
end
end K54

set_option Elab.async false
set_option linter.all false
set_option maxRecDepth 100000
set_option maxHeartbeats 4000000
namespace K54
open PySem L2
/-- an isinstance of a text -/
structure KS (K : PySem.W.Frag) : Prop where
  ts : PySem.W.kitOne K (.type "tuple") (.type "str") = some false
  ss : PySem.W.kitOne K (.type "str") (.type "str") = some true
def wq : Th → List Str
  | .at (.str x) => [x]
  | t => wd t
def wgt : Th → Nat
  | .at _ => 1
  | t => 2 * cnt t
def StE (S : List Str) (N : Nat) (t : Th) : Prop := (∃ x : Str, t = .at (.str x)) ∨ PfT S N t
def rest (st : List Th) : List Str := (st.reverse.map wq).flatten
def load (st : List Th) : Nat := (st.map wgt).sum
theorem wq_tree {S : List Str} {N : Nat} {t : Th} (h : PfT S N t) : wq t = wd t := by
  have := h.isTup
  cases t with
  | «at» v => cases this
  | _ => rfl
theorem wgt_tree {S : List Str} {N : Nat} {t : Th} (h : PfT S N t) : wgt t = 2 * cnt t := by
  have := h.isTup
  cases t with
  | «at» v => cases this
  | _ => rfl
theorem rest_snoc (st : List Th) (u : Th) : rest (st ++ [u]) = wq u ++ rest st := by
  unfold rest
  rw [List.reverse_append]
  rfl
theorem load_app (a b : List Th) : load (a ++ b) = load a + load b := by unfold load; rw [List.map_append, List.sum_append]
theorem wgt_pos {S : List Str} {N : Nat} {t : Th} (h : StE S N t) : 1 ≤ wgt t := by
  rcases h with ⟨x, rfl⟩ | h
  · exact Nat.le_refl _
  · rw [wgt_tree h]
    have := cnt_pf h
    omega
theorem load_len {S : List Str} {N : Nat} : ∀ st : List Th, (∀ t ∈ st, StE S N t) → st.length ≤ load st := by
  intro st
  induction st with
  | nil => intro _; exact Nat.zero_le _
  | cons x st ih =>
    intro h
    have h1 := wgt_pos (h x (List.mem_cons_self ..))
    have h2 := ih fun y hy => h y (List.mem_cons_of_mem _ hy)
    have e : load (x :: st) = wgt x + load st := rfl
    rw [e, List.length_cons]
    omega
theorem rest_kids {S : List Str} {N : Nat} : ∀ {ks : List Th} (st : List Th), (∀ k ∈ ks, PfT S N k) → rest (st ++ ks.reverse) = wds ks ++ rest st := by
  intro ks
  induction ks with
  | nil => intro st _; rw [List.reverse_nil, List.append_nil, wds]; rfl
  | cons k ks ih =>
    intro st h
    rw [List.reverse_cons, ← List.append_assoc, rest_snoc, ih st fun y hy => h y (List.mem_cons_of_mem _ hy), wds, wq_tree (h k (List.mem_cons_self ..)), List.append_assoc]
theorem load_kids {S : List Str} {N : Nat} : ∀ {ks : List Th}, (∀ k ∈ ks, PfT S N k) → load ks.reverse = 2 * cnts ks := by
  intro ks
  induction ks with
  | nil => intro _; simp [load, cnts]
  | cons k ks ih =>
    intro h
    rw [List.reverse_cons, load_app, ih fun y hy => h y (List.mem_cons_of_mem _ hy), cnts]
    have e : load [k] = wgt k := by simp [load]
    rw [e, wgt_tree (h k (List.mem_cons_self ..))]
    omega
theorem rest_bh (st : List Th) (w : Str) : rest (st ++ (bhW w).map fun x => Th.at (.str x)) = bhW w ++ rest st := by
  unfold bhW
  split
  · rw [List.map_nil, List.append_nil]; rfl
  · split
    · rw [List.map_nil, List.append_nil]; rfl
    · rw [List.map_cons, List.map_nil, rest_snoc]; rfl
theorem load_bh (w : Str) : load ((bhW w).map fun x => Th.at (.str x)) ≤ 1 := by
  unfold bhW
  split
  · exact Nat.zero_le _
  · split
    · exact Nat.zero_le _
    · exact Nat.le_refl _
theorem ths_words {H : Hp} : ∀ {xs : List Str}, (∀ x ∈ xs, x.length ≤ 1000) → IsThs H (xs.map V.str) (xs.map fun x => Th.at (.str x))
  | [], _ => .nil
  | x :: xs, h => .cons (.at (decide_eq_true (by have := h x (List.mem_cons_self ..); omega))) (ths_words fun y hy => h y (List.mem_cons_of_mem _ hy))
def spShow (S : List Str) (N : Nat) : Sp := fun vs H Q _ => ∃ (v : V) (t : Th), vs = [v] ∧ IsTh H v t ∧ PfT S N t ∧ cnt t ≤ 2000 ∧ ∀ H', Same H H' → Q (.str (txt t)) H'
section
variable {S : List Str} {P : Program} {w : World} {K : PySem.W.Frag} {mg : Str → Option Value} {base : Heap}
theorem scShow : FnScope ["e", "words", "waiting", "here", "ahead", "behind"] ["e"] (defScope sShow) := ⟨rfl, rfl, rfl, by decide +kernel, rfl, by decide +kernel, by decide +kernel⟩
theorem ok_show {f fH fP fN : Addr} {fd dH dP dN : FuncData} (F : Fun K "show" "show" sShow f fd) (T : TxtT mg) (KI : Kits K) (k2 : KS K) (hstr : mg "str" = none)
    (FH : Fn K mg "head" sHead ["node"] fH dH) (FP : Fn K mg "parts" sParts ["e"] fP dP) (FN : Fn K mg "node_words" sNodeWords ["node"] fN dN) (N : Nat) : FnOk P w K mg base CX0 3 f fd ["e"] (spShow S N) := by
  have GP : FnOk P w K mg base CX0 1 fP dP ["e"] spParts := ok_parts FP.F T KI
  have GN : FnOk P w K mg base CX0 2 fN dN ["node"] (spNodeWords S) := ok_nodewords FN.F T KI hstr FH
  refine F.ok scShow (fun vs H Q E h => ?_) (fun cdv A outer s H vs Q E hr h => ?_)
  · obtain ⟨v, t, rfl, _⟩ := h
    rfl
  · obtain ⟨v, t, rfl, hv, hpf, hcn, k⟩ := h
    have hsz : sizeLine = 16777216 := sizeLine_eq
    have hr1 : Room 1 _ := hr.mono (by decide)
    refine' ⟨?tt, ?body, ?fin⟩
    case body =>
      refine' pss_cons ?s1 ?r1
      case s1 => exact ps_set (i := 1) scShow.nd rfl (Or.inl rfl) (pe_lst pa_nil)
      case r1 =>
        refine' pss_cut ?s2 ?r2
        case s2 => exact ps_set (i := 2) scShow.nd rfl (Or.inl rfl) (pe_lst (pa_n (pv 0) pa_nil))
        case r2 =>
          refine' pss_cons ?s3 (pss_one ?s4)
          case s3 =>
            refine' ps_while PassesOwn.never ?c (pss_cons ?b1 (pss_one ?b2))
            case c => exact pt_truth (pv 2) (fun _ => rfl)
            case b1 => exact ps_set (i := 3) scShow.nd rfl (Or.inl rfl) (pe_bm0 PySem.F.plainAttrs_list PySem.F.slot_list_pop PySem.F.type_list_pop mt_pop (pv 2))
            case b2 =>
              refine' ps_if ?d (pss_one ?c1) (pss_cut ?d1 (pss_cons ?d2 (pss_cons ?d3 (pss_one ?d4))))
              case d => exact pt_val (pe_callB call_isinst (by rfl) T.isi (by decide +kernel) (pa_n (pv 3) (pa_n (pe_bltn (v := .ty "str") (by rfl) hstr (by decide +kernel) rfl) pa_nil)))
              case c1 => exact ps_expr (pe_bm PySem.F.plainAttrs_list PySem.F.slot_list_append PySem.F.type_list_append mt_append (pv 1) (pa_n (pv 3) pa_nil))
              case d1 => exact ps_asg (pe_call GN hr (by rfl) FN.m FN.F.kp FN.b .nil pass0 (pa_n (pv 3) pa_nil)) (pg_tup rfl (pgs_cons (pg_name (i := 4) scShow.nd rfl (Or.inl rfl)) (pgs_cons (pg_name (i := 5) scShow.nd rfl (Or.inl rfl)) pgs_nil)))
              case d2 => exact ps_expr (pe_bm PySem.F.plainAttrs_list PySem.F.slot_list_extend PySem.F.type_list_extend mt_extend (pv 1) (pa_n (pv 4) pa_nil))
              case d3 => exact ps_expr (pe_bm PySem.F.plainAttrs_list PySem.F.slot_list_extend PySem.F.type_list_extend mt_extend (pv 2) (pa_n (pv 5) pa_nil))
              case d4 => exact ps_expr (pe_bm PySem.F.plainAttrs_list PySem.F.slot_list_extend PySem.F.type_list_extend mt_extendT (pv 2) (pa_cons (pe_revT (pe_call GP hr1 (by rfl) FP.m FP.F.kp FP.b .nil pass0 (pa_n (pv 3) pa_nil)) (pe_un un_neg pe_int)) pa_nil))
          case s4 => exact ps_ret (pe_bm PySem.F.plainAttrs_str PySem.F.slot_str_join PySem.F.type_str_join (mt_join rfl) pe_str (pa_n (pv 1) pa_nil))
    case fin =>
      obtain ⟨hwl, hw16⟩ := wd_len N hpf
      refine ⟨Nat.zero_le _, fun wk hwk => ?_⟩
      have s1 := same_upd (o := .lst []) hwk
      refine ⟨fun σ' H' => ∃ wt, σ' = [some v, some (.ref wk), some (.ref wt), none, none, none] ∧ wk ≠ wt ∧ H wt = none ∧ Same H H' ∧ H' wk = some (.lst []) ∧ H' wt = some (.lst [v]), ?_, ?_⟩
      · refine ⟨_, rfl, (by show 1 ≤ sizeLine; decide), fun wt hwt => ?_⟩
        have s2 := same_upd (o := .lst [v]) hwt
        refine ⟨wt, rfl, fun q => ?_, same_none s1 hwt, s1.trans s2, s2 _ _ upd_same, upd_same⟩
        rw [← q, upd_same] at hwt
        cases hwt
      rintro σ0 H1 ⟨wt, rfl, hkt, hwt0, s12, L1, W1⟩
      refine while_m (fun m σ H' => ∃ (ws : List V) (dn : List Str) (st : List Th) (o3 o4 o5 : Option V), σ = [some v, some (.ref wk), some (.ref wt), o3, o4, o5] ∧ Same H H' ∧ H' wt = some (.lst ws) ∧ H' wk = some (.lst (dn.map V.str)) ∧
          IsThs H ws st ∧ dn ++ rest st = wd t ∧ (∀ x ∈ st, StE S N x) ∧ m = load st ∧ load st ≤ 2 * cnt t)
        (load [t]) ⟨[v], [], [t], none, none, none, rfl, s12, W1, L1, .cons hv .nil, ?_, ?_, rfl, ?_⟩ ?_ ?_
      · show rest ([] ++ [t]) = _
        rw [rest_snoc, wq_tree hpf]
        exact List.append_nil _
      · intro x hx
        rw [List.mem_singleton] at hx
        rw [hx]
        exact .inr hpf
      · have e : load [t] = wgt t := by simp [load]
        rw [e, wgt_tree hpf]
        exact Nat.le_refl _
      · rintro m σ H2 ⟨ws, dn, st, o3, o4, o5, rfl, sH, W2, L2', hst, heq, hall, rfl, hld⟩
        have hdl : dn.length + (rest st).length = (wd t).length := by rw [← heq, List.length_append]
        have hstl := load_len st hall
        have hwsl := IsThs.len _ hst
        refine ⟨_, rfl, _, .inl ⟨ws, SqL.of W2, rfl⟩, ?_⟩
        cases hws : ws.isEmpty with
        | true =>
          have e : ws = [] := List.isEmpty_iff.mp hws
          subst e
          refine iteF ?_
          have est : st = [] := List.eq_nil_of_length_eq_zero hwsl.symm
          subst est
          have ed : dn = wd t := by rw [← heq]; exact (List.append_nil _).symm
          subst ed
          refine ⟨rfl, _, rfl, " ", wk, wd t, rfl, rfl, .inl (SqL.of L2'), join_ok hw16 (by decide) (by omega), k H2 sH⟩
        | false =>
          have hne : ws ≠ [] := fun z => by rw [z] at hws; cases hws
          obtain ⟨ws', y, st', u, rfl, rfl, hst', hu⟩ := ths_last ws hst hne
          refine iteT ?_
          refine ⟨_, rfl, .inl ⟨rfl, _, SqL.of W2⟩, wt, _, y, rfl, rfl, W2, (by rw [List.length_append]; simp), ?_⟩
          rw [List.dropLast_concat]
          have hxu := hall u (List.mem_append_right _ (List.mem_singleton.mpr rfl))
          have hall' : ∀ x ∈ st', StE S N x := fun x hx => hall x (List.mem_append_left _ hx)
          rw [rest_snoc] at heq
          rw [load_app] at hld
          have e1 : load [u] = wgt u := by simp [load]
          have Lx : upd H2 wt (.lst ws') wk = some (.lst (dn.map V.str)) := by rw [upd_ne hkt]; exact L2'
          have Wx : upd H2 wt (.lst ws') wt = some (.lst ws') := upd_same
          have sx : Same H (upd H2 wt (.lst ws')) := fun b ob e => by rw [upd_ne (ne_of_none e hwt0)]; exact sH b ob e
          have hwl1 := IsThs.len _ hst'
          have hwl2 := load_len st' hall'
          generalize upd H2 wt (.lst ws') = H3 at Lx Wx sx ⊢
          have hu3 := IsTh.kp (Kp.of sx) hu
          rcases hxu with ⟨x, rfl⟩ | hup
          · obtain ⟨rfl, hsm⟩ := th_at hu
            refine ⟨_, rfl, _, _, _, _, rfl, th_ty hu3, k2.ss, _, rfl, iteT ?_⟩
            refine ⟨_, rfl, .inl ⟨rfl, _, SqL.of Lx⟩, _, rfl, wk, _, _, rfl, rfl, Lx, by rw [List.length_map]; omega, ?_⟩
            refine ⟨load st', by rw [load_app, e1]; show load st' < load st' + 1; omega, ws', dn ++ [x], st', _, _, _, rfl, fun b ob e => ?_, by rw [upd_ne hkt.symm]; exact Wx, by rw [upd_same, List.map_append]; rfl, hst', by rw [← heq, List.append_assoc]; rfl, hall', rfl, by omega⟩
            rw [upd_ne (ne_of_none e hwk)]
            exact sx b ob e
          · obtain ⟨N', rfl⟩ : ∃ N', N = N' + 1 := by
              cases N with
              | zero => exact hup.elim
              | succ N' => exact ⟨N', rfl⟩
            have hup' := hup
            obtain ⟨w0, hd, ks, rfl, h1, h2, h3, h4, h5, h6⟩ := hup
            have nk : ∀ k ∈ ks, L2.isTup k = true := fun k hk => (h6 k hk).isTup
            rw [wq_tree hup', wd_nd nk] at heq
            rw [e1, wgt_tree hup', cnt_nd nk] at hld
            refine ⟨_, rfl, _, _, _, _, rfl, th_ty hu3, k2.ts, _, rfl, iteF ?_⟩
            refine ⟨fun σ' H' => ∃ (a b : Addr), σ' = [some v, some (.ref wk), some (.ref wt), some y, some (.ref a), some (.ref b)] ∧ Same H3 H' ∧ H3 a = none ∧ H3 b = none ∧ H' a = some (.lst ((ahW w0 (hd.map strOf)).map V.str)) ∧ H' b = some (.lst ((bhW w0).map V.str)), ?_, ?_⟩
            · refine ⟨_, rfl, H3, y, w0, hd, ks, rfl, Same.refl _, hu3, nk, h4.sh, h5, h1, fun p a b H4 s4 ha hb hp hA hB => ?_⟩
              exact ⟨p, [.ref a, .ref b], rfl, SqT.of hp, rfl, _, _, rfl, _, _, rfl, rfl, a, b, rfl, s4, ha, hb, hA, hB⟩
            rintro σ4 H4 ⟨a, b, rfl, s4, ha0, hb0, ha, hb⟩
            have hbk : b ≠ wk := fun q => by rw [q, Lx] at hb0; cases hb0
            have hbt : b ≠ wt := fun q => by rw [q, Wx] at hb0; cases hb0
            have hal := ah_len w0 (hd.map strOf)
            have hbl := bh_len w0
            rw [List.length_map] at hal
            have L4 := s4 _ _ Lx
            have W4 := s4 _ _ Wx
            refine ⟨_, rfl, .inl ⟨rfl, _, SqL.of L4⟩, _, rfl, wk, a, _, _, rfl, rfl, L4, ha, by rw [List.length_map, List.length_map]; omega, ?_⟩
            have W5 : upd H4 wk (.lst (dn.map V.str ++ (ahW w0 (hd.map strOf)).map V.str)) wt = some (.lst ws') := by rw [upd_ne hkt.symm]; exact W4
            have b5 : upd H4 wk (.lst (dn.map V.str ++ (ahW w0 (hd.map strOf)).map V.str)) b = some (.lst ((bhW w0).map V.str)) := by rw [upd_ne hbk]; exact hb
            have L5 : upd H4 wk (.lst (dn.map V.str ++ (ahW w0 (hd.map strOf)).map V.str)) wk = some (.lst ((dn ++ ahW w0 (hd.map strOf)).map V.str)) := by rw [upd_same, List.map_append]
            have s5 : Same H (upd H4 wk (.lst (dn.map V.str ++ (ahW w0 (hd.map strOf)).map V.str))) := fun c ob e => by
              rw [upd_ne (ne_of_none e hwk)]
              exact s4 _ _ (sx c ob e)
            generalize upd H4 wk (.lst (dn.map V.str ++ (ahW w0 (hd.map strOf)).map V.str)) = H5 at W5 b5 L5 s5 ⊢
            refine ⟨_, rfl, .inl ⟨rfl, _, SqL.of W5⟩, _, rfl, wt, b, _, _, rfl, rfl, W5, b5, by rw [List.length_map]; omega, ?_⟩
            have W6 : upd H5 wt (.lst (ws' ++ (bhW w0).map V.str)) wt = some (.lst (ws' ++ (bhW w0).map V.str)) := upd_same
            have L6 : upd H5 wt (.lst (ws' ++ (bhW w0).map V.str)) wk = some (.lst ((dn ++ ahW w0 (hd.map strOf)).map V.str)) := by rw [upd_ne hkt]; exact L5
            have s6 : Same H (upd H5 wt (.lst (ws' ++ (bhW w0).map V.str))) := fun c ob e => by
              rw [upd_ne (ne_of_none e hwt0)]
              exact s5 c ob e
            generalize upd H5 wt (.lst (ws' ++ (bhW w0).map V.str)) = H6 at W6 L6 s6 ⊢
            have huH := hu
            unfold nd at huH
            refine ⟨_, rfl, .inl ⟨rfl, _, SqL.of W6⟩, _, rfl, H, y, _, rfl, s6, huH, by rw [List.length_cons, List.length_append, List.length_map]; omega, fun p ps H7 s7 hp hps => ?_⟩
            rw [nd_kids nk] at hps
            have hpl := IsThs.len _ hps
            refine ⟨_, rfl, rfl, p, ps, rfl, SqT.of hp, fun q hq => ?_⟩
            have s8 := same_upd (o := .tup ps.reverse) hq
            refine ⟨wt, q, _, _, rfl, rfl, s8 _ _ (s7 _ _ W6), upd_same, by rw [List.length_append, List.length_map, List.length_reverse]; omega, ?_⟩
            refine ⟨load (st' ++ ((bhW w0).map fun x => Th.at (.str x)) ++ ks.reverse), ?_, _, dn ++ ahW w0 (hd.map strOf), st' ++ ((bhW w0).map fun x => Th.at (.str x)) ++ ks.reverse, _, _, _, rfl, ?_, upd_same, ?_, ?_, ?_, ?_, rfl, ?_⟩
            · rw [load_app, load_app, load_app, load_kids h6, e1, wgt_tree hup', cnt_nd nk]
              have := load_bh w0
              omega
            · intro c ob e
              rw [upd_ne (ne_of_none e hwt0)]
              exact s8 _ _ (s7 _ _ (s6 c ob e))
            · rw [upd_ne hkt]
              exact s8 _ _ (s7 _ _ L6)
            · refine IsThs.app _ (IsThs.app _ hst' (ths_words fun x hx => by rw [bh_mem hx]; decide +kernel)) (ths_rev _ hps)
            · rw [rest_kids _ h6, rest_bh, ← heq]
              simp only [List.append_assoc]
            · intro x hx
              rcases List.mem_append.mp hx with z | z
              · rcases List.mem_append.mp z with z | z
                · exact hall' x z
                · obtain ⟨c, _, rfl⟩ := List.mem_map.mp z
                  exact .inl ⟨c, rfl⟩
              · exact .inr ((h6 x (List.mem_reverse.mp z)).up)
            · rw [load_app, load_app, load_kids h6]
              have := load_bh w0
              omega
      · rintro σ H1 Q1 Q2 hq ⟨u1, e1, b1, e2, q⟩
        exact ⟨u1, e1, b1, e2, hq _ _ q⟩
end
end K54

set_option Elab.async false
set_option linter.all false
set_option maxRecDepth 100000
set_option maxHeartbeats 4000000
namespace K54
open PySem L2
theorem wd_take {S : List Str} {w : Str} {hd : List V} {ks : List Th} (h : Sh S w hd ks.length) (hw : w = "take") : wd (nd w hd ks) = (["take"] : List Str) := by
  have e : ks = [] ∧ hd = [] := by
    generalize e : ks.length = m at h
    subst hw
    cases h with
    | take => exact ⟨List.eq_nil_of_length_eq_zero e, rfl⟩
  obtain ⟨rfl, rfl⟩ := e
  rw [wd_nd (ks := []) fun k hk => by cases hk]
  subst hw
  unfold ahW bhW
  rw [wds, if_neg (by decide +kernel), if_pos rfl, if_neg (by decide +kernel), if_pos rfl]
  rfl
theorem wd_leaf {S : List Str} {w : Str} {hd : List V} {ks : List Th} (h : Sh S w hd ks.length) (hw : w = "num" ∨ w = "name") : wd (nd w hd ks) = hd.map strOf := by
  have e : ks = [] := by
    generalize e : ks.length = m at h
    have : m = 0 := by
      rcases hw with rfl | rfl
      · cases h; rfl
      · cases h; rfl
    rw [this] at e
    exact List.eq_nil_of_length_eq_zero e
  subst e
  rw [wd_nd (ks := []) fun k hk => by cases hk]
  unfold ahW bhW
  rw [if_pos hw, if_pos hw, wds]
  simp
theorem wd_in {w : Str} {hd : List V} {ks : List Th} (h1 : w ≠ "take") (h2 : ¬ (w = "num" ∨ w = "name")) (nk : ∀ k ∈ ks, L2.isTup k = true) :
    wd (nd w hd ks) = (["("] : List Str) ++ (if w = "op" then [] else [w]) ++ hd.map strOf ++ wds ks ++ ([")"] : List Str) := by
  rw [wd_nd nk]
  unfold ahW bhW
  rw [if_neg h2, if_neg h1, if_neg h2, if_neg h1]
  split <;> simp
theorem cnt_kid : ∀ (ks : List Th) (k : Th), k ∈ ks → cnt k ≤ cnts ks := by
  intro ks
  induction ks with
  | nil => intro k h; cases h
  | cons y ks ih =>
    intro k h
    rw [cnts]
    rcases List.mem_cons.mp h with rfl | h
    · omega
    · have := ih k h
      omega
theorem wds_bd {c : Nat} : ∀ (l : List Th), (∀ k ∈ l, (wd k).length ≤ c) → (wds l).length ≤ c * l.length := by
  intro l
  induction l with
  | nil => intro _; rw [wds]; exact Nat.zero_le _
  | cons k l ih =>
    intro h
    have h1 := h k (List.mem_cons_self ..)
    have h2 := ih fun y hy => h y (List.mem_cons_of_mem _ hy)
    rw [wds, List.length_append, List.length_cons, Nat.mul_add]
    omega
def spWords (S : List Str) (N : Nat) : Sp := fun vs H Q _ => ∃ (v : V) (t : Th), vs = [v] ∧ IsTh H v t ∧ PfT S N t ∧ cnt t ≤ 2000 ∧ ∀ (p : Addr) H', Same H H' → H p = none → H' p = some (.lst ((wd t).map V.str)) → Q (.ref p) H'
section
variable {S : List Str} {P : Program} {w : World} {K : PySem.W.Frag} {mg : Str → Option Value} {base : Heap}
theorem scWords : FnScope ["_law_e", "_law_head", "_law_found", "_law_one"] ["_law_e"] (defScope sWords) := ⟨rfl, rfl, rfl, by decide +kernel, rfl, by decide +kernel, by decide +kernel⟩
theorem ok_words {f fP : Addr} {fd dP : FuncData} (F : Fn K mg "_law_words" sWords ["_law_e"] f fd) (T : TxtT mg) (KI : Kits K) (hstr : mg "str" = none)
    (FP : Fn K mg "_law_parts" sLawParts ["_law_e"] fP dP) : ∀ N, FnOk P w K mg base CX0 (N + 2) f fd ["_law_e"] (spWords S N) := by
  have GP : FnOk P w K mg base CX0 1 fP dP ["_law_e"] spLawParts := ok_lawparts FP.F T KI
  intro N
  induction N with
  | zero =>
    refine F.F.ok scWords (fun vs H Q E h => ?_) (fun cdv A outer s H vs Q E hr h => ?_)
    · obtain ⟨v, t, rfl, _⟩ := h
      rfl
    · obtain ⟨v, t, rfl, _, h, _⟩ := h
      exact h.elim
  | succ N ih =>
    refine F.F.ok scWords (fun vs H Q E h => ?_) (fun cdv A outer s H vs Q E hr h => ?_)
    · obtain ⟨v, t, rfl, _⟩ := h
      rfl
    · obtain ⟨v, t, rfl, hv, hD, hcn, k⟩ := h
      have hsz : sizeLine = 16777216 := sizeLine_eq
      have hr1 : Room 1 _ := hr.mono (by omega)
      refine' ⟨?tt, ?body, ?fin⟩
      case body =>
        refine' pss_cons ?s1 ?r1
        case s1 => exact ps_if (pt_cmpR op_eq (pe_ix ix_tup (pv 0) pe_int (fun _ _ => rfl)) pe_str (nomark _)) (pss_one (ps_ret (pe_lst (pa_k pe_str pa_nil)))) pss_nil
        case r1 =>
          refine' pss_cut ?s2 ?r2
          case s2 =>
            refine' ps_setComp (i := 1) (N' := ["_law_one"]) (src := [none]) ?k1 ?k2 ?k3 ?k4 ?k5 ?k6 ?k7
            case k1 => rfl
            case k2 => exact scWords.nd
            case k3 => rfl
            case k4 => exact Or.inl rfl
            case k5 => exact compScope_of (defScope sWords) rfl ["_law_e", "_law_head", "_law_found", "_law_one"] rfl (by decide +kernel)
            case k6 => exact pi_tup (pe_slice sl_tupP (pv 0) (po_some pe_int) po_none)
            case k7 => exact fun cl C ex s0 H0 => ⟨pg_name (i := 0) (nd1 _) rfl (Or.inl rfl), pts_one (pt_not (pt_val (pe_callB (id := "isinstance") (call_isinstK (K := K) rfl) (by rfl) T.isi (by decide +kernel) (pa_n (pv 0) (pa_n (pe_bltn (v := .ty "tuple") (by rfl) T.tup (by decide +kernel) rfl) pa_nil))))), pe_callTy call_strA (by rfl) hstr (by decide +kernel) (pa_n (pv 0) pa_nil)⟩
          case r2 =>
            refine' pss_cut ?s3 ?r3
            case s3 => exact ps_if (pw_or (pt_cmpR op_eq (pe_ix ix_tup (pv 0) pe_int (fun _ _ => rfl)) pe_str (nomark _)) (pw_or1 (pt_cmpR op_eq (pe_ix ix_tup (pv 0) pe_int (fun _ _ => rfl)) pe_str (nomark _)))).pt (pss_one (ps_ret (pv 1))) pss_nil
            case r3 =>
              refine' pss_cut ?s4 ?r4
              case s4 =>
                refine' ps_set (i := 2) scWords.nd rfl (Or.inl rfl) (pe_op op_cat (pe_op op_cat (pe_lst (pa_k pe_str pa_nil)) (pe_op op_rep ?x ?y)) (pv 1))
                case x => exact pe_lst (pa_cons (pe_ix ix_tup (pv 0) pe_int (fun _ _ => rfl)) pa_nil)
                case y => exact pe_callTy call_int1 (by rfl) T.int (by decide +kernel) (pa_cons (pe_cmpR op_ne (pe_ix ix_tup (pv 0) pe_int (fun _ _ => rfl)) pe_str (nomark _)) pa_nil)
              case r4 =>
                refine' pss_cons ?s5 (pss_one ?s6)
                case s5 => exact ps_for PassesOwn.never rfl (pi_list (pe_call GP hr1 (by rfl) FP.m FP.F.kp FP.b .nil pass0 (pa_n (pv 0) pa_nil))) (pg_name (i := 3) scWords.nd rfl (Or.inl rfl)) (pss_one (ps_set (i := 2) scWords.nd rfl (Or.inl rfl) (pe_op op_cat (pv 2) (pe_call ih hr (by rfl) F.m F.F.kp F.b .nil pass0 (pa_n (pv 3) pa_nil)))))
                case s6 => exact ps_ret (pe_op op_cat (pv 2) (pe_lst (pa_k pe_str pa_nil)))
      case fin =>
        obtain ⟨w0, hd, ks, rfl, h1, h2, h3, h4, h5, h6⟩ := hD
        have nk : ∀ k ∈ ks, L2.isTup k = true := fun k hk => (h6 k hk).isTup
        have sh := h4.sh
        rw [cnt_nd nk] at hcn
        have hkc : ∀ k ∈ ks, cnt k ≤ 2000 := fun k hk => by have := cnt_kid ks k hk; omega
        have hkl : ∀ k ∈ ks, (wd k).length ≤ 8000 := fun k hk => by have := (wd_len N (h6 k hk)).1; have := hkc k hk; omega
        have hv' := hv
        unfold nd at hv'
        obtain ⟨a, vs, rfl, ha, hvs⟩ := th_tup hv'
        cases hvs with
        | @cons vh vr _ _ d1 d2 =>
          obtain ⟨rfl, _⟩ := th_at d1
          have hvl := IsThs.len _ d2
          rw [List.length_append, List.length_map] at hvl
          refine ⟨_, rfl, a, _, _, _, rfl, rfl, SqT.of ha, at_head _ _, rfl, _, rfl, ite2 (fun g => ?_) (fun g => ?_)⟩
          · have hw : w0 = "take" := by
              have g' := of_decide_eq_true g
              injection g'
            refine ⟨(by show 1 ≤ sizeLine; decide), fun p hp => ?_⟩
            refine k p _ (same_upd hp) hp ?_
            rw [upd_same, wd_take sh hw]
            rfl
          have hw1 : w0 ≠ "take" := fun q => g (by rw [q]; decide +kernel)
          refine ⟨fun σ' H' => ∃ fa, σ' = [some (.ref a), some (.ref fa), none, none] ∧ Same H H' ∧ H fa = none ∧ H' fa = some (.lst ((hd.map strOf).map V.str)), ?_, ?_⟩
          · refine ⟨_, rfl, 1, rfl, a, _, rfl, ha, fun p H1 s1 hp => ?_⟩
            rw [cut1q] at hp
            refine ⟨p, rfl, ⟨_, SqT.of hp⟩, comp_tup (K := K) (a := p) (xs := vr) (fun i ys σc H' => ∃ o, σc = [o] ∧ ys = (hd.take i).map (fun v => V.str (strOf v)) ∧ H' = H1)
              ⟨none, rfl, rfl, rfl⟩ (fun i ys σc H' ⟨_, _, _, e⟩ => by rw [e]; exact SqT.of hp) ?_ ?_⟩
            · rintro i x ys σc H' hx hi ⟨o, rfl, rfl, rfl⟩
              obtain ⟨t, ht, h1t⟩ := ths_get _ d2 hx
              refine ⟨by rw [List.length_map, List.length_take]; omega, ?_⟩
              refine ⟨_, rfl, _, _, _, _, rfl, th_ty (IsTh.kp (Kp.of s1) h1t), KI.tup h1t, _, rfl, ite2 (fun g => ?_) (fun g => ?_)⟩
              · by_cases hih : i < hd.length
                · rw [List.getElem?_append_left (by rw [List.length_map]; exact hih), List.getElem?_map, List.getElem?_eq_getElem hih] at ht
                  cases ht
                  obtain ⟨rfl, _⟩ := th_at h1t
                  refine ⟨_, rfl, hd[i], rfl, sh.strOk _ (List.getElem_mem hih), nx hi ⟨_, rfl, ?_, rfl⟩⟩
                  rw [List.take_add_one, List.getElem?_eq_getElem hih, List.map_append]
                  rfl
                · rw [List.getElem?_append_right (by rw [List.length_map]; omega)] at ht
                  have := nk t (List.mem_of_getElem? ht)
                  rw [this] at g
                  cases g
              · by_cases hih : i < hd.length
                · rw [List.getElem?_append_left (by rw [List.length_map]; exact hih), List.getElem?_map, List.getElem?_eq_getElem hih] at ht
                  cases ht
                  exact absurd rfl g
                · refine nx hi ⟨_, rfl, ?_, rfl⟩
                  rw [List.take_of_length_le (by omega), List.take_of_length_le (by omega)]
            · rintro ys σc H' ⟨o, rfl, rfl, rfl⟩ l hl'
              rw [List.take_of_length_le (by omega)]
              refine ⟨l, rfl, s1.trans (same_upd hl'), same_none s1 hl', ?_⟩
              rw [upd_same, List.map_map]
              rfl
          rintro σ1 H1 ⟨fa, rfl, s1, hfa0, hfa⟩
          have ha1 := s1 _ _ ha
          refine ⟨fun σ' H' => σ' = [some (.ref a), some (.ref fa), none, none] ∧ H' = H1 ∧ ¬ (w0 = "num" ∨ w0 = "name"), ?_, ?_⟩
          · have leaf : (w0 = "num" ∨ w0 = "name") → Q (.ref fa) H1 := fun hw => k fa H1 s1 hfa0 (by rw [wd_leaf sh hw]; exact hfa)
            refine ⟨_, rfl, a, _, _, _, rfl, rfl, SqT.of ha1, at_head _ _, rfl, _, rfl, ite2 (fun g => iteT ⟨_, rfl, leaf (.inl ?_)⟩) (fun g2 => ?_)⟩
            · have g' := of_decide_eq_true g
              injection g'
            refine ⟨_, rfl, a, _, _, _, rfl, rfl, SqT.of ha1, at_head _ _, rfl, _, rfl, ite2 (fun g => ⟨_, rfl, leaf (.inr ?_)⟩) (fun g3 => ⟨rfl, rfl, fun q => ?_⟩)⟩
            · have g' := of_decide_eq_true g
              injection g'
            · rcases q with q | q
              · exact g2 (by rw [q]; decide +kernel)
              · exact g3 (by rw [q]; decide +kernel)
          rintro σ2 H2 ⟨rfl, rfl, hw2⟩
          have ewd := wd_in (hd := hd) hw1 hw2 nk
          obtain ⟨pre, hpre⟩ : ∃ pre : List Str, pre = (["("] : List Str) ++ (if w0 = "op" then [] else [w0]) ++ hd.map strOf := ⟨_, rfl⟩
          have hprel : pre.length ≤ 3 := by
            rw [hpre, List.length_append, List.length_append, List.length_map]
            show 1 + _ + _ ≤ 3
            split
            · show 1 + 0 + _ ≤ 3; omega
            · show 1 + 1 + _ ≤ 3; omega
          rw [← hpre] at ewd
          refine ⟨fun σ' H' => ∃ fo, σ' = [some (.ref a), some (.ref fa), some (.ref fo), none] ∧ Same H H' ∧ H' fo = some (.lst (pre.map V.str)), ?_, ?_⟩
          · refine ⟨(by show 1 ≤ sizeLine; decide), fun l0 hl0 => ?_⟩
            have q1 := same_upd (o := .lst [.str "("]) hl0
            refine ⟨_, rfl, a, _, _, _, rfl, rfl, SqT.of (q1 _ _ ha1), at_head _ _, (by show 1 ≤ sizeLine; decide), fun l1 hl1 => ?_⟩
            have q2 := same_upd (o := .lst [.str w0]) hl1
            refine ⟨_, rfl, a, _, _, _, rfl, rfl, SqT.of (q2 _ _ (q1 _ _ ha1)), at_head _ _, rfl, .inr ⟨_, rfl, ?_⟩⟩
            refine ⟨l1, _, _, rfl, rfl, upd_same, by split <;> decide, by split <;> decide, by rw [List.length_singleton]; split <;> decide, fun l2 hl2 => ?_⟩
            have q3 := same_upd (o := .lst (List.replicate ((if (!decide (V.str w0 = V.str "op")) = true then (1 : Int) else 0)).toNat [V.str w0]).flatten) hl2
            refine ⟨l0, l2, _, _, rfl, rfl, q3 _ _ (q2 _ _ upd_same), upd_same, ?_, fun l3 hl3 => ?_⟩
            · rw [List.length_singleton, len_rep, List.length_singleton]
              split <;> (show 1 + _ * 1 ≤ sizeLine; omega)
            have q4 := same_upd (o := .lst ([V.str "("] ++ (List.replicate ((if (!decide (V.str w0 = V.str "op")) = true then (1 : Int) else 0)).toNat [V.str w0]).flatten)) hl3
            have qA := ((q1.trans q2).trans q3).trans q4
            refine ⟨_, rfl, l3, fa, _, _, rfl, rfl, upd_same, qA _ _ hfa, ?_, fun l4 hl4 => ?_⟩
            · rw [List.length_append, List.length_singleton, len_rep, List.length_singleton, List.length_map, List.length_map]
              split <;> (show 1 + _ * 1 + _ ≤ sizeLine; omega)
            refine ⟨l4, rfl, (s1.trans qA).trans (same_upd hl4), ?_⟩
            rw [upd_same, hpre]
            congr 2
            rw [List.map_append, List.map_append]
            congr 1
            congr 1
            by_cases ho : w0 = "op"
            · rw [if_pos ho, if_neg (by rw [ho]; decide +kernel)]
              rfl
            · have hno : (!decide (V.str w0 = V.str "op")) = true := by
                rw [Bool.not_eq_true', decide_eq_false_iff_not]
                intro q
                injection q with q
                exact ho q
              rw [if_neg ho, if_pos hno]
              rfl
          rintro σ3 H3 ⟨fo, rfl, s3, hfo⟩
          refine ⟨_, rfl, .ref a, w0, hd.map Th.at ++ ks, rfl, IsTh.kp (Kp.of s3) hv', by rw [List.length_append, List.length_map]; omega, fun p ws H4 s4 hp0 hp hws => ?_⟩
          rw [kids_of nk] at hws
          have hl := IsThs.len _ hws
          refine ⟨p, rfl, ⟨_, SqL.of hp⟩, for_list (K := K) (a := p) (xs := ws) (fun i σ H' => ∃ (fo : Addr) (o3 : Option V), σ = [some (.ref a), some (.ref fa), some (.ref fo), o3] ∧ Same H4 H' ∧ H' fo = some (.lst ((pre ++ wds (ks.take i)).map V.str)))
            ⟨fo, none, rfl, Same.refl _, by rw [List.take_zero, wds, List.append_nil]; exact s4 _ _ hfo⟩ (fun i σ H' _ ⟨_, _, _, e, _⟩ => SqL.of (e _ _ hp)) ?_ ?_⟩
          · rintro i x σ H5 hx ⟨fo, o3, rfl, s5, hfo5⟩
            obtain ⟨t, ht, hxt⟩ := ths_get _ hws hx
            have hi := (List.getElem?_eq_some_iff.mp hx).1
            have htm := List.mem_of_getElem? ht
            have hb1 := wds_bd (c := 8000) (ks.take i) fun k hk => hkl k (List.mem_of_mem_take hk)
            rw [List.length_take] at hb1
            have hb2 := hkl t htm
            refine ⟨_, rfl, _, rfl, x, t, rfl, IsTh.kp (Kp.of s5) hxt, h6 t htm, hkc t htm, fun q H6 s6 hq0 hq => ?_⟩
            refine ⟨fo, q, _, _, rfl, rfl, s6 _ _ hfo5, hq, ?_, fun fo2 hfo2 => ⟨fo2, _, rfl, (s5.trans s6).trans (same_upd hfo2), ?_⟩⟩
            · rw [List.length_map, List.length_map, List.length_append]
              have : 8000 * min i ks.length ≤ 48000 := by omega
              omega
            · rw [upd_same, List.take_add_one, ht]
              show some (HO.lst (_ ++ _)) = some (HO.lst ((pre ++ wds (ks.take i ++ [t])).map V.str))
              rw [wds_app, ← List.map_append, wds, wds, List.append_nil, List.append_assoc]
          · rintro σ H5 ⟨fo, o3, rfl, s5, hfo5⟩
            rw [List.take_of_length_le (by omega)] at hfo5
            have hb1 := wds_bd (c := 8000) ks hkl
            refine ⟨_, rfl, (by show 1 ≤ sizeLine; decide), fun l1 hl1 => ?_⟩
            have q1 := same_upd (o := .lst [.str ")"]) hl1
            refine ⟨fo, l1, _, _, rfl, rfl, q1 _ _ hfo5, upd_same, ?_, fun l2 hl2 => ?_⟩
            · rw [List.length_map, List.length_append, List.length_singleton]
              omega
            have sA := ((s3.trans s4).trans s5).trans q1
            refine k l2 _ (sA.trans (same_upd hl2)) (same_none sA hl2) ?_
            rw [upd_same, ewd, List.map_append (l₁ := pre ++ wds ks)]
            rfl
end
end K54

set_option Elab.async false
set_option linter.all false
set_option maxRecDepth 100000
set_option maxHeartbeats 4000000
namespace HT
open PySem PySem.Spec PyProof.Rows
theorem list_no_keys : typeLookup (.type "list") "keys" = pure none := by rw [typeLookup_type, builtinLookup_eq_fast]; kernel_rfl
section
variable {prog : Program} {w : World} {A : Around} {E : Value → Shared → Prop}
/-- a list has no keys: what raises is caught -/
theorem getAttrQ_miss_list {s : Shared} {a : Addr} {xs : Array Value} {k : Nat} {sl : Array (Option Value)} {Q : Option Value → Shared → Prop}
    (hx : s.heap.get? a = some { cls := .type "list", dict := none, data := .seq xs k, slots := sl }) (hA : A.handled = none)
    (h : ∀ h' tk, (∀ b o, s.heap.get? b = some o → h'.get? b = some o) → Q none { s with heap := h', toks := tk }) :
    wpAny (model prog w) A (getAttr? (.ref a) "keys") Q E s := by
  obtain ⟨hp, g, d, tk, os⟩ := s
  have hT : ∀ tk', (⟨hp, g, d, tk', os⟩ : Shared).TypeIs (.ref a) "list" := fun _ => ⟨_, hx, rfl⟩
  have f1 := sub_AttributeError
  have f3 := F.slot_list_getattribute.lookup
  have f4 := F.slot_list_getattribute.bind (.ref a)
  have f5 := am_list_getattr_none
  unfold getAttr? getAttrBy? getAttrBy
  repeat (any_goals (first | assumption | exact hT _ | ((with_reducible show wpAny _ _ (call (Value.builtin "list.__getattribute__") _ _) _ _ _); refine call_meets F.slot_list_getattribute (hT _) am_entry_list_getattribute (F.args_list_getattribute_2 _ _) (meets_getattribute_miss_list a xs k sl "keys" _ list_no_keys (by decide +kernel) (by decide +kernel)) ⟨hx, hA, fun h' tk' e hx' => ?_⟩) | wp_step))
  obtain ⟨t', u', he⟩ := hx'.there
  show wpAny _ _ (getattributeRaised _ _ _ _ _ _ _) _ _ _
  unfold getattributeRaised
  repeat (any_goals (first | assumption | wp_step))
  exact h _ _ hx'.keeps
end
end HT

set_option Elab.async false
set_option linter.all false
set_option maxRecDepth 100000
set_option maxHeartbeats 4000000
namespace L2
open PySem PySem.Spec PyProof.Rows PySem.Builtin
theorem entry_upd_loop : entryFor table "dict.update.loop" = some Builtin.«dict.update.loop» := entryFor_of_fast (by kernel_rfl)
theorem plain_upd_loop : plainId "dict.update.loop" = true := by decide +kernel
/-- pairs put into a dict one behind the other -/
def putAll : List (Key × V) → List (Str × V) → List (Key × V)
  | kvs, [] => kvs
  | kvs, (x, v) :: r => putAll (putK kvs (Sum.inr x) v) r
/-- a list of pairs -/
def PairsAt (H : Hp) (ps : List V) (rows : List (Str × V)) : Prop := ps.length = rows.length ∧ ∀ (j : Nat) (y : V), ps[j]? = some y → ∃ q x v, y = .ref q ∧ rows[j]? = some (x, v) ∧ H q = some (.tup [.str x, v])
section
variable {X : Cx} {pins : List (Addr × Obj)} {σ : St}
theorem upd_loop {D it p : Addr} {ps : List V} {rows : List (Str × V)} {A : Around} (hA : A.handled = none) {R : Result → Shared → Prop} {H0 : Hp}
    (hp : SqL X.K H0 p ps) (hps : PairsAt H0 ps rows) (nD : H0 D = none) (nit : it ≠ D) (npD : p ≠ D) (hz : rows.length ≤ 1000)
    (hR : ∀ s' kvs', kvs' = putAll [] rows → Inv X pins σ (upd H0 D (.dK kvs')) s' → R (.ok (.ret .none)) s') :
    ∀ (k i : Nat) (s : Shared) (kvs : List (Key × V)) (u : Tok) (n : Int), ps.length - i = k → i ≤ ps.length → Inv X pins σ (upd H0 D (.dK kvs)) s → FpOk X pins (upd H0 D (.dK kvs)) it → s.heap.IsListIter it p i → putAll kvs (rows.drop i) = putAll [] rows → kvs.length ≤ i →
      codeAny (model X.prog X.w) A (.builtin "dict.update.loop" ⟨[.ref D, .ref it, .int n u, .none], []⟩) R s := by
  have hsz : sizeLine = 16777216 := sizeLine_eq
  have hpU : ∀ kvs, SqL X.K (upd H0 D (.dK kvs)) p ps := by
    intro kvs
    rcases hp with (h | h) | h
    · exact .inl (.inl (by rw [upd_ne npD]; exact h))
    · refine .inl (.inr ?_)
      obtain ⟨c, h⟩ := h
      first
        | exact ⟨c, by rw [upd_ne npD]; exact h⟩
        | exact ⟨c, h⟩
    · exact .inr h
  intro k
  induction k with
  | zero =>
    intro i s kvs u n hk hi I hf Z hall hkl
    have hin : i = ps.length := by omega
    subst hin
    obtain ⟨its, r, pl, _⟩ := I.list (hpU kvs)
    have hlen := r.length
    refine codeAny_builtin entry_upd_loop ?_
    rw [Around.under_plainId plain_upd_loop _]
    show wpAny _ A.in1 (pyNext (.ref it) >>= _) _ _ s
    refine wpAny_bind (wpAny_pyNext_list_end (A := A.in1) hA Z pl.isList (by simp; omega) fun h' kk => ?_)
    refine wpAny_bind (m := Dict.addKeywords D []) (wpAny_pure (wpAny_pure (hR _ kvs ?_ (I.turnedL (t' := s.toks) (ch := [it]) (fun b o hb e => ?_) (fun b hb => ?_)))))
    · rw [← hall, hps.1, List.drop_length]
      rfl
    · simp only [List.mem_singleton] at hb
      exact kk b o hb e
    · rw [List.mem_singleton] at hb
      rw [hb]
      exact hf
  | succ k ih =>
    intro i s kvs u n hk hi I hf Z hall hkl
    have hlt : i < ps.length := by omega
    obtain ⟨its, r, pl, _⟩ := I.list (hpU kvs)
    have hlen := r.length
    have e1 : ps[i]? = some ps[i] := List.getElem?_eq_getElem hlt
    obtain ⟨u1, f1, r1⟩ := r.get e1
    obtain ⟨q, x, v, ey, hrow, hq⟩ := hps.2 i _ e1
    rw [ey] at r1
    cases r1
    have hqD : q ≠ D := ne_of_none hq nD
    refine codeAny_builtin entry_upd_loop ?_
    rw [Around.under_plainId plain_upd_loop _]
    show wpAny _ A.in1 (pyNext (.ref it) >>= _) _ _ s
    refine wpAny_bind (wpAny_pyNext_list_item (A := A.in1) Z pl.isList (x := .ref q) (by simpa using f1) fun h' Z' kk => ?_)
    have I1 : Inv X pins σ (upd H0 D (.dK kvs)) { s with heap := h', toks := s.toks } := I.turnedL (ch := [it]) (fun b o hb e => by
      simp only [List.mem_singleton] at hb
      exact (kk.2 b hb).trans e) (fun b hb => by rw [List.mem_singleton] at hb; rw [hb]; exact hf)
    have hq1 : upd H0 D (.dK kvs) q = some (.tup [.str x, v]) := by rw [upd_ne hqD]; exact hq
    obtain ⟨its2, r2, ht, _⟩ := I1.tuple (SqT.of hq1)
    cases r2 with
    | cons rx r3 =>
      cases r3 with
      | cons rv r4 =>
        cases r4
        obtain ⟨o, ho, hc, m, hd⟩ := id ht
        obtain ⟨zk, hdm, vs, rel, dd⟩ := dk_of I1.hok (a := D) (by rw [upd_same])
        refine wpAny_bind (wpAny_holding (wpAny_bind (wpAny_tryCatch ?_)))
        unfold Dict.pairItems
        refine wpAny_bind (wpAny_typeOf ht.typeIs ?_)
        rw [if_pos (by decide)]
        refine wpAny_bind (wpAny_seqItems ho hd (wpAny_pure ?_))
        refine wpAny_holding (wpAny_dictSet_pairs (knd := mixKind X.prog X.w) (k := Sum.inr x) (kV_is rx) dd (fun h2 dd2 hs2 => ?_) (by rw [← rel.length]; have := hps.1; omega))
        have hl2 : (putK kvs (Sum.inr x) v).length ≤ i + 1 := by have := length_putK kvs (Sum.inr x) v; omega
        have he : ∃ q, h2.get? D = some q := let ⟨q, _, _, hq, _⟩ := dd2; ⟨q, hq⟩
        have I2 := d_write (t' := s.toks + 1) I1 (a := D) (ob := .dK (putK kvs (Sum.inr x) v)) (by rw [upd_same]; exact True.intro) hs2 he (dk_new (by have e9 := hps.1; have e8 := hlt; rw [hsz]; omega) hdm (rel.put (Sum.inr x) rv) dd2)
        have eu : upd (upd H0 D (.dK kvs)) D (.dK (putK kvs (Sum.inr x) v)) = upd H0 D (.dK (putK kvs (Sum.inr x) v)) := by
          funext c
          by_cases hc : c = D
          · rw [hc, upd_same, upd_same]
          · rw [upd_ne hc, upd_ne hc, upd_ne hc]
        rw [eu] at I2
        refine wpAny_pure ⟨plainId_quiet plain_upd_loop _, ?_⟩
        refine ih (i + 1) _ _ _ _ (by omega) hlt I2 ?_ ?_ ?_ hl2
        · refine ⟨?_, hf.2⟩
          have := hf.1
          rw [upd_ne nit] at this ⊢
          exact this
        · obtain ⟨oi, hoi, hci, hdi⟩ := Z'
          exact ⟨oi, (hs2.2 it nit).trans hoi, hci, hdi⟩
        · have hir : i < rows.length := by have := hps.1; omega
          have e9 : rows.drop i = (x, v) :: rows.drop (i + 1) := by
            rw [List.drop_eq_getElem_cons hir]
            have h1 := List.getElem?_eq_getElem hir
            rw [hrow] at h1
            rw [← Option.some.inj h1]
          rw [← hall, e9]
          rfl
/-- dict(l), l a list of pairs -/
theorem call_dict_pairs (hc : X.calm = true) : CallR X (.type "dict") (fun xs H Q => ∃ (p : Addr) (ps : List V) (rows : List (Str × V)), xs = [.ref p] ∧ H p = some (.lst ps) ∧ PairsAt H ps rows ∧ rows.length ≤ 1000 ∧ ∀ a, H a = none → Q (.ref a) (upd H a (.dK (putAll [] rows)))) := by
  intro pins s σ H xs us Q I r h
  obtain ⟨p, ps, rows, rfl, hp, hps, hz, q⟩ := h
  obtain ⟨u, rfl, rx⟩ := vals1 r
  cases rx
  refine callType_codes (Q₁ := fun obj s₁ => obj = .ref s.heap.objs.size ∧ s₁ = { s with heap := s.heap.push { cls := .type "dict", data := .dict #[] } }) F.kt_called_dict (F.kt_typeCall_dict_1 _) F.entry_dict_init (kt_code_dict_new _ ⟨rfl, rfl⟩) ?_
  rintro obj s₁ ⟨rfl, rfl⟩
  have hnew : (s.heap.push { cls := .type "dict", data := .dict #[] }).DictOf (mixKind X.prog X.w) s.heap.objs.size [] := Heap.DictOf.new s.heap
  have hD0 : H s.heap.objs.size = none := I.fresh
  have hpD : p ≠ s.heap.objs.size := ne_of_none hp hD0
  have I1 : Inv X pins σ (upd H s.heap.objs.size (.dK [])) { s with heap := s.heap.push { cls := .type "dict", data := .dict #[] }, toks := s.toks } :=
    I.laid (fun b ob e => Heap.get?_push_of_some _ e) (Nat.le_refl _) (dk_empty s.heap I.big)
  have hp1 : upd H s.heap.objs.size (.dK []) p = some (.lst ps) := by rw [upd_ne hpD]; exact hp
  obtain ⟨zz, its, n, rv, hll, hget⟩ := I1.lstM hp1
  refine ⟨hnew.typeIs, F.args_dict_init_2 _ _, ?_⟩
  unfold Builtin.«dict.__init__»
  refine wpAny_bind ?_
  unfold Builtin.Dict.selfAndRest
  refine wpAny_bind (wpAny_notOrdered_dict hnew.typeIs ?_)
  show wpAny _ _ (pure (s.heap.objs.size, [Value.ref p])) _ _ _
  refine wpAny_pure ?_
  show wpAny _ _ (Builtin.Dict.updateFrom "dict.__init__" s.heap.objs.size (.ref p) [] .none) _ _ _
  unfold Builtin.Dict.updateFrom
  refine wpAny_bind (wpAny_typeOf (T := "list") ⟨_, hget, rfl⟩ ?_)
  rw [if_pos (by decide)]
  refine wpAny_bind (HT.getAttrQ_miss_list (s := { s with heap := s.heap.push { cls := .type "dict", data := .dict #[] }, toks := s.toks }) hget (I.ok.hd hc) fun h' tk kk => ?_)
  rw [if_pos (by decide)]
  refine wpAny_bind (wpAny_rule ?_)
  have I2 : Inv X pins σ (upd H s.heap.objs.size (.dK [])) { s with heap := h', toks := tk } := I1.kept (t' := tk) kk
  obtain ⟨its2, rv2, pl2, _⟩ := I2.list (SqL.of hp1)
  refine wpAny_bind (wpAny_pyIter_list pl2.isList ?_)
  have I3 : Inv X pins σ (upd H s.heap.objs.size (.dK [])) { s with heap := h'.push { cls := .type "list_iterator", data := .fields #[.ref p, .int 0 0] }, toks := tk } := I2.kept (t' := tk) fun b o e => Heap.get?_push_of_some _ e
  have hlt : s.heap.objs.size < h'.objs.size := by
    obtain ⟨o, es, ep, ho, _⟩ := hnew
    exact Heap.lt_size (kk _ _ ho)
  refine wpAny_pure ⟨plainId_quiet plain_upd_loop _, ?_⟩
  refine upd_loop (H0 := H) (D := s.heap.objs.size) (it := h'.objs.size) (p := p) (A := X.A.in1) (I.ok.hd hc) (SqL.of hp) hps hD0 (Nat.ne_of_gt hlt) hpD hz (fun s' kvs' ek I' => ⟨rfl, .ref s.heap.objs.size, _, I', rfl, by rw [ek]; exact q _ hD0⟩) _ 0 _ [] _ _ rfl (Nat.zero_le _) I3 ?_ ?_ rfl (Nat.le_refl _)
  · refine I2.fpOk (Nat.le_refl _) ?_
    exact I2.hok.fresh (Nat.le_refl _)
  · exact ⟨_, Heap.get?_push_size _ rfl, rfl, rfl⟩
end
end L2

set_option Elab.async false
set_option linter.all false
set_option maxRecDepth 100000
set_option maxHeartbeats 4000000
namespace K54
open PySem L2
/-- a pair taken apart, within a block -/
theorem pg_pairK {X : Cx} {K : PySem.W.Frag} {x y : Str} {px py pos : Pos} {k i j : Nat} (hK : X.K = K) (hc : X.calm = true) (hN : X.N.Nodup) (hi : X.N[i]? = some x) (hx : Loc X.env.scope x) (hj : X.N[j]? = some y) (hy : Loc X.env.scope y)
    (hf : X.fn x = true ∨ X.env.scope.names.lookup x = some .local) (hg : X.fn y = true ∨ X.env.scope.names.lookup y = some .local) :
    PG X (.Tuple [.Name x px, .Name y py] k pos) (gTup K 2 (gCons (gName i) (gCons (gName j) gNil))) := by
  subst hK
  exact pg_tup hc (pgs_cons (pg_name hN hi hx hf) (pgs_cons (pg_name hN hj hy hg) pgs_nil))
/-- a list of names with counts -/
def CallsAt (H : Hp) (ys : List V) (ts : List Str) : Prop := ys.length = ts.length ∧ ∀ (j : Nat) (y : V), ys[j]? = some y → ∃ (c : Addr) (x : Str) (m : Int), y = .ref c ∧ ts[j]? = some x ∧ H c = some (.tup [.str x, .int m]) ∧ 0 ≤ m ∧ m ≤ 6
theorem CallsAt.kp {H H' : Hp} {ys : List V} {ts : List Str} (k : Kp H H') (h : CallsAt H ys ts) : CallsAt H' ys ts :=
  ⟨h.1, fun j y hy => let ⟨c, x, m, h1, h2, h3, h4⟩ := h.2 j y hy; ⟨c, x, m, h1, h2, k _ _ h3 (fun _ z => by cases z), h4⟩⟩
theorem get_snoc {α : Type} {l : List α} {x y : α} {j : Nat} (h : (l ++ [x])[j]? = some y) : l[j]? = some y ∨ (j = l.length ∧ y = x) := by
  by_cases hj : j < l.length
  · rw [List.getElem?_append_left hj] at h
    exact .inl h
  · rw [List.getElem?_append_right (by omega)] at h
    have h0 : j - l.length = 0 := by
      cases q : j - l.length with
      | zero => rfl
      | succ m => rw [q] at h; simp at h
    rw [h0] at h
    exact .inr ⟨by omega, by simpa using h.symm⟩
/-- each put stands there: every name costs one -/
theorem putAll_one : ∀ (ts : List Str) (kvs : List (Key × V)) (x : Str), (x ∈ ts ∨ valV kvs (Sum.inr x) = some (.int 1)) → valV (putAll kvs (ts.map fun t => (t, V.int 1))) (Sum.inr x) = some (.int 1) := by
  intro ts
  induction ts with
  | nil =>
    intro kvs x h
    rcases h with h | h
    · cases h
    · exact h
  | cons t ts ih =>
    intro kvs x h
    rw [List.map_cons, putAll]
    refine ih _ x ?_
    by_cases e : x = t
    · refine .inr ?_
      rw [e, valV_put, if_pos rfl]
    · rcases h with h | h
      · rcases List.mem_cons.mp h with q | q
        · exact absurd q e
        · exact .inl q
      · refine .inr ?_
        rw [valV_put, if_neg (by intro q; injection q with q; exact e q)]
        exact h
def spDrawn : Sp := fun vs H Q _ => ∃ (d l : Addr) (ns : List Int) (n : Nat) (r : Int), vs = [.ref d, .int r] ∧ Feed H d l ns n ∧ n ≤ 400000000000 ∧ 0 ≤ r ∧ r ≤ 1000 ∧
  ∀ (v : V) (S : List Str) (t : Th) (n' : Nat) H', IsTh H' v t → PfT S 16 t → (cnt t : Int) ≤ r + 50 → n' ≤ n + 2500000 → Feed H' d l ns n' → But d H H' → Q v H'
def spRightA (N : Nat) : Sp := fun vs H Q E => ∃ S, spRight S N vs H Q E
theorem nd_fn : (["_law_feed_here", "_law_name_here"] : List Str).Nodup := by decide +kernel
theorem nd_nm2 : (["_law_name_here", "_law_many"] : List Str).Nodup := by decide +kernel
section
variable {P : Program} {w : World} {K : PySem.W.Frag} {mg : Str → Option Value} {base : Heap} {p : PrF}
theorem scDrawn : FnScope ["_law_feed_here", "_law_room", "_law_names_here", "_law_lets", "_law_calls", "_law_works", "_law_world_here", "_law_found", "_law_k", "_law_way"] ["_law_feed_here", "_law_room"] (defScope sDrawn) := ⟨rfl, rfl, rfl, by decide +kernel, rfl, by decide +kernel, by decide +kernel⟩
theorem ok_drawn {f : Addr} {fd : FuncData} (F : Fun K "_law_drawn" "_law_drawn" sDrawn f fd) (G : Pr K mg p) :
    FnOk P w K mg base CX0 23 f fd ["_law_feed_here", "_law_room"] spDrawn := by
  have GD : FnOk P w K mg base CX0 1 p.x.g.fD p.x.g.dD ["_law_feed_here", "_law_many"] spDraw := G.E.G.gD
  have GM : FnOk P w K mg base CX0 3 p.fM p.dM ["_law_feed_here", "_law_many"] spNames := ok_names G.M.F G.E.G.U G.A.F G.A.b G.A.m
  have GA : FnOk P w K mg base CX0 2 p.fA p.dA ["_law_feed_here", "_law_taken"] spLawName := ok_lawname G.A.F G.E.G.U
  have GO : FnOk P w K mg base CX0 1 p.fO p.dO ["_law_names_here", "_law_lets", "_law_functions", "_law_works", "_law_room", "_law_toil"] spWorld := ok_world G.O.F
  have GZ : FnOk P w K mg base CX0 13 p.fZ p.dZ ["_law_feed_here", "_law_world_here", "_law_many"] spSeedsA := FnOk.ex fun S => ok_seeds G.Z.F G.E
  have GE7 : FnOk P w K mg base CX0 22 p.x.fE p.x.dE ["_law_feed_here", "_law_world_here", "_law_bound_here", "_law_below", "_law_times"] (spExprA 4 7) := FnOk.ex fun S => G.E.gE (M := 4) 7
  have GR : FnOk P w K mg base CX0 18 p.x.g.fR p.x.g.dR ["_law_e", "_law_bound_here"] (spRightA 16) := FnOk.ex fun S => G.E.G.gR 16
  refine F.ok scDrawn (fun vs H Q E h => ?_) (fun cdv A outer s H vs Q E hr h => ?_)
  · obtain ⟨d, l, ns, n, r, rfl, _⟩ := h
    rfl
  · obtain ⟨d, l, ns, n, r, rfl, F0, hn, hr0, hr1000, k⟩ := h
    have hsz : sizeLine = 16777216 := sizeLine_eq
    have hu : (_ : Around).units + 1 < cLine := Nat.lt_of_le_of_lt (Nat.add_le_add_left (by decide) _) hr.units
    have hu0 := hr.units0
    have hr1 : Room 1 _ := hr.mono (by decide)
    have hr2 : Room 2 _ := hr.mono (by decide)
    have hr3 : Room 3 _ := hr.mono (by decide)
    have hr13 : Room 13 _ := hr.mono (by decide)
    have hr18 : Room 18 _ := hr.mono (by decide)
    have T := G.E.G.U.T
    have XT := G.E.G.X.T
    refine' ⟨?tt, ?body, ?fin⟩
    case body =>
      refine' pss_cut ?s1 ?r1
      case s1 => exact ps_set (i := 2) scDrawn.nd rfl (Or.inl rfl) (pe_call GM hr3 (by rfl) G.M.m G.M.F.kp G.M.b .nil pass0 (pa_n (pv 0) (pa_cons (pe_op op_add pe_int (pe_call GD hr1 (by rfl) G.E.G.U.mD G.E.G.U.D.kp G.E.G.U.bD .nil pass0 (pa_n (pv 0) (pa_k pe_int pa_nil)))) pa_nil)))
      case r1 =>
        refine' pss_cut ?s2 ?r2
        case s2 => exact ps_set (i := 3) scDrawn.nd rfl (Or.inl rfl) (pe_lst (pa_c (pe_call GA hr2 (by rfl) G.A.m G.A.F.kp G.A.b .nil pass0 (pa_n (pv 0) (pa_n (pv 2) pa_nil))) (pa_cons (pe_ix ix_list (pv 2) pe_int (fun _ _ => rfl)) pa_nil)))
        case r2 =>
          refine' pss_cut ?s3 ?r3
          case s3 =>
            refine' ps_setComp (i := 4) (N' := ["_law_feed_here", "_law_name_here"]) (src := [some 0, none]) ?k1 ?k2 ?k3 ?k4 ?k5 ?k6 ?k7
            case k1 => rfl
            case k2 => exact scDrawn.nd
            case k3 => rfl
            case k4 => exact Or.inl rfl
            case k5 => exact compScope_of (defScope sDrawn) rfl ["_law_feed_here", "_law_room", "_law_names_here", "_law_lets", "_law_calls", "_law_works", "_law_world_here", "_law_found", "_law_k", "_law_way"] rfl (by decide +kernel)
            case k6 => exact pi_list (pe_call GM hr3 (by rfl) G.M.m G.M.F.kp G.M.b .nil pass0 (pa_n (pv 0) (pa_k pe_int pa_nil)))
            case k7 => exact fun cl C ex s0 H0 => ⟨pg_name (i := 1) nd_fn rfl (Or.inl rfl), pts_nil, pe_tup (pa_n (pv 1) (pa_c (pe_call GD hr1 (by rfl) G.E.G.U.mD G.E.G.U.D.kp G.E.G.U.bD .nil pass0 (pa_n (pv 0) (pa_k pe_int pa_nil))) pa_nil))⟩
          case r3 =>
            refine' pss_cut ?s4 ?r4
            case s4 =>
              refine' ps_set (i := 5) scDrawn.nd rfl (Or.inl rfl) (pe_callTy (call_dict_pairs rfl) (by rfl) G.E.dict (by decide +kernel) (pa_cons (pe_comp (N' := ["_law_name_here", "_law_many"]) (src := [none, none]) ?k1 ?k5 ?k6 ?k7) pa_nil))
              case k1 => rfl
              case k5 => exact compScope_of (defScope sDrawn) rfl ["_law_feed_here", "_law_room", "_law_names_here", "_law_lets", "_law_calls", "_law_works", "_law_world_here", "_law_found", "_law_k", "_law_way"] rfl (by decide +kernel)
              case k6 => exact pi_list (pv 4)
              case k7 => exact fun cl C ex s0 H0 => ⟨pg_pairK (K := K) (i := 0) (j := 1) rfl rfl nd_nm2 rfl (Or.inl rfl) rfl (Or.inl rfl) (Or.inr rfl) (Or.inr rfl), pts_nil, pe_tup (pa_n (pv 0) (pa_k pe_int pa_nil))⟩
            case r4 =>
              refine' pss_cons ?s5 ?r5
              case s5 => exact ps_set (i := 6) scDrawn.nd rfl (Or.inl rfl) (pe_call GO hr1 (by rfl) G.O.m G.O.F.kp G.O.b .nil pass0 (pa_n (pv 2) (pa_n (pv 3) (pa_n (pv 4) (pa_n (pv 5) (pa_n (pv 1) (pa_cons (pe_op op_pow pe_int pe_int) pa_nil)))))))
              case r5 =>
                refine' pss_cons ?s6 ?r6
                case s6 => exact ps_dput hu (pv 6) pe_str (pe_call GZ hr13 (by rfl) G.Z.m G.Z.F.kp G.Z.b .nil pass0 (pa_n (pv 0) (pa_n (pv 6) (pa_k pe_int pa_nil)))) (by rfl)
                case r6 =>
                  refine' pss_cut ?s7 ?r7
                  case s7 => exact ps_set (i := 7) scDrawn.nd rfl (Or.inl rfl) (pe_call GE7 hr (by rfl) G.E.E.m G.E.E.F.kp G.E.E.b .nil pass0 (pa_n (pv 0) (pa_n (pv 6) (pa_cons (pe_lst pa_nil) (pa_cons (pe_op op_add pe_int (pe_call GD hr1 (by rfl) G.E.G.U.mD G.E.G.U.D.kp G.E.G.U.bD .nil pass0 (pa_n (pv 0) (pa_k pe_int pa_nil)))) (pa_k pe_int pa_nil))))))
                  case r7 =>
                    refine' pss_cons ?s8 (pss_one ?s9)
                    case s8 =>
                      refine' ps_for PassesOwn.never rfl (pi_range1 (by rfl) T.range (pa_cons (pe_ix ix_list (pe_lst (pa_k pe_int (pa_k pe_int (pa_k pe_int (pa_k pe_int pa_nil))))) (pe_call GD hr1 (by rfl) G.E.G.U.mD G.E.G.U.D.kp G.E.G.U.bD .nil pass0 (pa_n (pv 0) (pa_k pe_int pa_nil))) (fun _ _ => rfl)) pa_nil)) (pg_name (i := 8) scDrawn.nd rfl (Or.inl rfl)) ?b
                      case b =>
                        refine' pss_cons ?b1 (pss_one ?b2)
                        case b1 => exact ps_set (i := 9) scDrawn.nd rfl (Or.inl rfl) (pe_call GD hr1 (by rfl) G.E.G.U.mD G.E.G.U.D.kp G.E.G.U.bD .nil pass0 (pa_n (pv 0) (pa_k pe_int pa_nil)))
                        case b2 =>
                          refine' ps_if (pw_and ?c (pw_and1 (pt_val ?c2))).pt (pss_one ?t) (pss_one ?e)
                          case c => exact pt_cmpR op_eq (pv 9) pe_int (nomark _)
                          case c2 => exact pe_call GR hr18 (by rfl) G.E.G.R.m G.E.G.R.F.kp G.E.G.R.b .nil pass0 (pa_n (pv 7) (pa_cons (pe_lst (pa_cons (pe_ix ix_list (pv 2) pe_int (fun _ _ => rfl)) pa_nil)) pa_nil))
                          case t => exact ps_set (i := 7) scDrawn.nd rfl (Or.inl rfl) (pe_tup (pa_k pe_str (pa_cons (pe_ix ix_list (pv 2) pe_int (fun _ _ => rfl)) (pa_t (pe_tup (pa_k pe_str (pa_n (pv 8) pa_nil))) (pa_n (pv 7) pa_nil)))))
                          case e =>
                            refine' ps_set (i := 7) scDrawn.nd rfl (Or.inl rfl) (pe_ix ix_list (pe_lst (pa_t ?e1 (pa_t ?e2 (pa_t ?e3 (pa_t ?e4 pa_nil))))) (pv 9) (fun _ _ => rfl))
                            case e1 => exact pe_tup (pa_k pe_str (pa_n (pv 7) pa_nil))
                            case e2 => exact pe_tup (pa_k pe_str (pa_n (pv 7) pa_nil))
                            case e3 => exact pe_tup (pa_k pe_str (pa_n (pv 8) (pa_n (pv 7) pa_nil)))
                            case e4 => exact pe_tup (pa_k pe_str (pa_cons (pe_ix ix_list (pv 2) pe_int (fun _ _ => rfl)) (pa_n (pv 7) pa_nil)))
                    case s9 => exact ps_ret (pv 7)
    case fin =>
      refine ⟨fun σ' H' => ∃ (nm : Addr) (T1 : List Str) (n' : Nat), σ' = [some (.ref d), some (.int r), some (.ref nm), none, none, none, none, none, none, none] ∧ H' nm = some (.lst (T1.map V.str)) ∧ 2 ≤ T1.length ∧ T1.length ≤ 5 ∧ (∀ t ∈ T1, Nm t) ∧ n' ≤ n + 41 ∧ Feed H' d l ns n' ∧ But d H H', ?_, ?_⟩
      · refine ⟨_, rfl, _, rfl, d, l, ns, n, _, rfl, F0, by omega, by decide, by decide, fun q n1 H1 q0 q1 hn1 F1 b1 => ?_⟩
        refine ⟨_, _, rfl, rfl, d, l, ns, n1, _, rfl, F1, by omega, by omega, by omega, fun nm ts n2 H2 hnm0 hnm hl ha hn2 F2 b2 => ?_⟩
        exact ⟨nm, ts, n2, rfl, hnm, by omega, by omega, ha, by omega, F2, b1.trans b2⟩
      rintro σ1 H1 ⟨nm, T1, n1, rfl, hnm1, hT2, hT5, hTn, hn1, F1, B1⟩
      refine ⟨fun σ' H' => ∃ (lt : Addr) (T2 : List Str) (n' : Nat), σ' = [some (.ref d), some (.int r), some (.ref nm), some (.ref lt), none, none, none, none, none, none] ∧ H' lt = some (.lst (T2.map V.str)) ∧ T2.length = 2 ∧ (∀ t ∈ T2, Nm t) ∧ H' nm = some (.lst (T1.map V.str)) ∧ n' ≤ n + 49 ∧ Feed H' d l ns n' ∧ But d H H', ?_, ?_⟩
      · refine ⟨_, rfl, _, rfl, d, l, nm, ns, n1, T1, rfl, F1, by omega, hnm1, by omega, hTn, fun y n2 H2 hy _ _ hn2 F2 b2 => ?_⟩
        have hnm2 := F1.lst b2 hnm1
        obtain ⟨x0, hx0⟩ : ∃ x, T1[0]? = some x := ⟨_, List.getElem?_eq_getElem (by omega)⟩
        refine ⟨_, rfl, nm, _, _, .str x0, rfl, rfl, SqL.of hnm2, atI_nat (j := 0) (by rw [List.getElem?_map, hx0]; rfl), (by show 2 ≤ sizeLine; decide), fun lt hlt => ?_⟩
        have sl := same_upd (o := .lst [.str y, .str x0]) hlt
        refine ⟨lt, [y, x0], n2, rfl, upd_same, rfl, two_mem hy (hTn x0 (List.mem_of_getElem? hx0)), sl _ _ hnm2, by omega, F2.same sl, (B1.trans b2).trans (But.of sl)⟩
      clear hnm1 F1 B1 hn1
      rintro σ2 H2 ⟨lt, T2, n2, rfl, hlt2, hTl, hT2n, hnm2, hn2, F2, B2⟩
      refine ⟨fun σ' H' => ∃ (ca : Addr) (cs : List V) (ts : List Str) (n' : Nat), σ' = [some (.ref d), some (.int r), some (.ref nm), some (.ref lt), some (.ref ca), none, none, none, none, none] ∧ H' ca = some (.lst cs) ∧ CallsAt H' cs ts ∧ ts.length = 2 ∧ (∀ t ∈ ts, Nm t) ∧ n' ≤ n + 67 ∧ Feed H' d l ns n' ∧ But d H2 H', ?_, ?_⟩
      · refine ⟨_, rfl, d, l, ns, n2, _, rfl, F2, by omega, by decide, by decide, fun na ts n3 H3 hna0 hna hl ha hn3 F3 b3 => ?_⟩
        have hl2 : ts.length = 2 := by omega
        refine ⟨na, rfl, ⟨_, SqL.of hna⟩, comp_list (K := K) (a := na) (xs := ts.map V.str) (fun i ys σc H' => ∃ (o : Option V) (n' : Nat), σc = [some (.ref d), o] ∧ CallsAt H' ys (ts.take i) ∧ n' ≤ n3 + i ∧ Feed H' d l ns n' ∧ But d H3 H')
          ⟨none, n3, rfl, ⟨rfl, fun j y hy => by simp at hy⟩, Nat.le_refl _, F3, But.of (Same.refl _)⟩ (fun i ys σc H' ⟨_, _, _, _, _, _, b⟩ => SqL.of (F3.lst b hna)) ?_ ?_⟩
        · rintro i x ys σc H' hx hi ⟨o, n', rfl, hys, hn', F', b'⟩
          rw [List.getElem?_map] at hx
          obtain ⟨t, ht, rfl⟩ := Option.map_eq_some_iff.mp hx
          have hil : i < ts.length := (List.getElem?_eq_some_iff.mp ht).1
          have hyl := hys.1
          rw [List.length_take] at hyl
          refine ⟨by omega, _, rfl, _, rfl, d, l, ns, n', _, rfl, F', by omega, by decide, by decide, fun q n5 H5 q0 q1 hn5 F5 b5 => ⟨(by show 2 ≤ sizeLine; decide), fun c hc => ?_⟩⟩
          have sc := same_upd (o := .tup [.str t, .int q]) hc
          have hys5 := (hys.kp (b5.kp F')).kp (Kp.of sc)
          refine nx hi ⟨_, n5, rfl, ⟨?_, fun j y hy => ?_⟩, by omega, F5.same sc, (b'.trans b5).trans (But.of sc)⟩
          · rw [List.length_append, hyl, List.length_take]
            show min i ts.length + 1 = _
            omega
          · rcases get_snoc hy with hy | ⟨rfl, rfl⟩
            · obtain ⟨c', x, m, h1, h2, h3⟩ := hys5.2 j y hy
              refine ⟨c', x, m, h1, ?_, h3⟩
              rw [List.take_add_one, ht]
              exact (List.getElem?_append_left (List.getElem?_eq_some_iff.mp h2).1).trans h2
            · refine ⟨c, t, q, rfl, ?_, upd_same, q0, by omega⟩
              rw [hyl, Nat.min_eq_left (by omega), List.getElem?_take]
              rw [if_pos (by omega)]
              exact ht
        · rintro ys σc H' ⟨o, n', rfl, hys, hn', F', b'⟩ q hq
          rw [List.length_map, List.take_of_length_le (Nat.le_refl _)] at hys
          rw [List.length_map] at hn'
          have sq := same_upd (o := .lst ys) hq
          exact ⟨q, ys, ts, n', rfl, upd_same, hys.kp (Kp.of sq), hl2, ha, by omega, F'.same sq, (b3.trans b').trans (But.of sq)⟩
      rintro σ3 H3 ⟨ca, cs, ts, n3, rfl, hca, hcs, hts, htn, hn3, F3, b3⟩
      have hcl := hcs.1
      refine ⟨fun σ' H' => ∃ (wo : Addr) (kvs : List (Key × V)), σ' = [some (.ref d), some (.int r), some (.ref nm), some (.ref lt), some (.ref ca), some (.ref wo), none, none, none, none] ∧ H3 wo = none ∧ H' wo = some (.dK kvs) ∧ Works ts (fun _ => 1) kvs ∧ Same H3 H', ?_, ?_⟩
      · refine ⟨_, rfl, ca, rfl, ⟨_, SqL.of hca⟩, comp_list (K := K) (a := ca) (xs := cs) (fun i ys σc H' => ∃ (o o' : Option V), σc = [o, o'] ∧ Same H3 H' ∧ ys.length = i ∧ ∀ (j : Nat) (y : V), ys[j]? = some y → ∃ q x, y = .ref q ∧ ts[j]? = some x ∧ H' q = some (.tup [.str x, .int 1]))
          ⟨none, none, rfl, Same.refl _, rfl, fun j y hy => by simp at hy⟩ (fun i ys σc H' ⟨_, _, _, e, _⟩ => SqL.of (e _ _ hca)) ?_ ?_⟩
        · rintro i x ys σc H' hx hi ⟨o, o', rfl, s', hyl, hys⟩
          obtain ⟨c, y, m, rfl, hy, hc, _, _⟩ := hcs.2 i x hx
          refine ⟨by omega, c, _, rfl, SqT.of (s' _ _ hc), rfl, _, _, rfl, _, _, rfl, rfl, _, rfl, (by show 2 ≤ sizeLine; decide), fun q hq => ?_⟩
          have sq := same_upd (o := .tup [.str y, .int 1]) hq
          refine nx hi ⟨_, _, rfl, s'.trans sq, by rw [List.length_append, hyl]; rfl, fun j z hz => ?_⟩
          rcases get_snoc hz with hz | ⟨rfl, rfl⟩
          · obtain ⟨q', x', h1, h2, h3⟩ := hys j z hz
            exact ⟨q', x', h1, h2, sq _ _ h3⟩
          · exact ⟨q, y, rfl, by rw [hyl]; exact hy, upd_same⟩
        · rintro ys σc H' ⟨o, o', rfl, s', hyl, hys⟩ q hq
          have sq := same_upd (o := .lst ys) hq
          refine ⟨q, ys, ts.map fun t => (t, V.int 1), rfl, upd_same, ⟨by rw [List.length_map]; omega, fun j y hy => ?_⟩, by rw [List.length_map]; omega, fun wo hwo => ?_⟩
          · obtain ⟨q', x', h1, h2, h3⟩ := hys j y hy
            exact ⟨q', x', .int 1, h1, by rw [List.getElem?_map, h2]; rfl, sq _ _ h3⟩
          · exact ⟨wo, _, rfl, same_none (s'.trans sq) hwo, upd_same, fun x hx => putAll_one ts [] x (.inl hx), (s'.trans sq).trans (same_upd hwo)⟩
      rintro σ4 H4 ⟨wo, kvs, rfl, hwo0, hwo, hwk, s4⟩
      have F4 := F3.same s4
      have B4 : But d H H4 := (B2.trans b3).trans (But.of s4)
      have hnm4 := s4 _ _ (F2.lst b3 hnm2)
      have hlt4 := s4 _ _ (F2.lst b3 hlt2)
      have hca4 := s4 _ _ hca
      have hcs4 := hcs.kp (Kp.of s4)
      have hwod : wo ≠ d := fun q => by rw [q, F3.dc.choose_spec] at hwo0; cases hwo0
      refine ⟨_, rfl, _, rfl, _, rfl, _, rfl, _, rfl, _, _, rfl, rfl, ⟨by decide, by decide, by decide⟩, nm, lt, ca, wo, r, _, rfl, fun wd sd H5 s5 hwd hsd W5 Q5 => ?_⟩
      generalize (10 : Int) ^ (Int.toNat 9) = Z at W5
      have now : ∀ {b : Addr} {o : HO}, H4 b = some o → b ≠ wd := fun {b o} e q => by rw [q, hwd] at e; cases e
      have hdw : wd ≠ d := (now F4.dc.choose_spec).symm
      have hcall : ∀ {Hx : Hp}, Kp H4 Hx → ∀ v ∈ cs, ∃ (c : Addr) (x : Str) (m : Int), v = .ref c ∧ Hx c = some (.tup [.str x, .int m]) ∧ x ∈ ts ∧ Nm x ∧ 0 ≤ m ∧ m ≤ 6 := fun {Hx} kx v hv => by
        obtain ⟨j, hj⟩ := List.getElem?_of_mem hv
        obtain ⟨c, x, m, h1, h2, h3, h4, h5⟩ := hcs4.2 j v hj
        exact ⟨c, x, m, h1, kx _ _ h3 (fun _ z => by cases z), List.mem_of_getElem? h2, htn x (List.mem_of_getElem? h2), h4, h5⟩
      have N5 : Wf ts 0 H5 d wd ⟨nm, lt, ca, wo, sd⟩ ⟨T1, T2, cs, [], [], fun _ => 1, kvs⟩ := ⟨s5 _ _ hnm4, s5 _ _ hlt4, s5 _ _ hca4, hcall (Kp.of s5), s5 _ _ hwo, hwk, hwod, now hwo, Q5, .nil, (fun t ht => by cases ht), by show 1 ≤ T1.length; omega, by show T1.length ≤ 10; omega, by show T2.length ≤ 10; omega, by show cs.length ≤ 10; omega, Nat.zero_le _, hTn, hT2n⟩
      have F5 := F4.same s5
      refine ⟨_, rfl, _, rfl, ts, d, l, wd, _, _, ns, n3, r, _, _, rfl, by decide, by decide, by omega, F5, W5, N5, fun sd' sv ss n6 H6 hs0 hs hss hsp hsl hn6 F6 b6 => ?_⟩
      have W6 := b6 wd _ W5 hdw
      refine ⟨_, rfl, wd, _, rfl, wset_seeds W6, ?_⟩
      have k7 : Kp H6 (upd H6 wd (.dK (worldKV { (⟨nm, lt, ca, wo, sd⟩ : WA) with sd := sd' } r Z))) := (But2.upd (d := d)).kp F6 W6
      have F7 := F6.world (a2 := { (⟨nm, lt, ca, wo, sd⟩ : WA) with sd := sd' }) (r2 := r) (z2 := Z) W6
      have W7 : upd H6 wd (.dK (worldKV { (⟨nm, lt, ca, wo, sd⟩ : WA) with sd := sd' } r Z)) wd = some (.dK (worldKV ⟨nm, lt, ca, wo, sd'⟩ r Z)) := upd_same
      have b7 : ∀ b o, H6 b = some o → b ≠ wd → upd H6 wd (.dK (worldKV { (⟨nm, lt, ca, wo, sd⟩ : WA) with sd := sd' } r Z)) b = some o := fun b o e hb => by rw [upd_ne hb]; exact e
      generalize upd H6 wd (.dK (worldKV { (⟨nm, lt, ca, wo, sd⟩ : WA) with sd := sd' } r Z)) = H7 at k7 F7 W7 b7
      have k46 : Kp H4 H6 := fun b o e hk => b6.kp F5 _ _ (s5 _ _ e) hk
      have k47 : Kp H4 H7 := fun b o e hk => k7 _ _ (k46 _ _ e hk) hk
      have N7 : Wf ts 4 H7 d wd ⟨nm, lt, ca, wo, sd'⟩ ⟨T1, T2, cs, sv, ss, fun _ => 1, kvs⟩ := ⟨k47 _ _ hnm4 (fun _ z => by cases z), k47 _ _ hlt4 (fun _ z => by cases z), k47 _ _ hca4 (fun _ z => by cases z), hcall k47, b7 _ _ (b6 _ _ (s5 _ _ hwo) hwod) (now hwo), hwk, hwod, now hwo, k7 _ _ hs (fun _ z => by cases z), IsThs.kp k7 hss, hsp, by show 1 ≤ T1.length; omega, by show T1.length ≤ 10; omega, by show T2.length ≤ 10; omega, by show cs.length ≤ 10; omega, by show sv.length ≤ 10; omega, hTn, hT2n⟩
      have nm7 := k47 _ _ hnm4 (fun _ z => by cases z)
      have B7 : ∀ b o, H4 b = some o → b ≠ d → b ≠ wd → H7 b = some o := fun b o e h1 h2 => b7 _ _ (b6 _ _ (s5 _ _ e) h1) h2
      have e7 := cD7
      refine ⟨fun σ' H' => ∃ (v : V) (t : Th) (n' : Nat), σ' = [some (.ref d), some (.int r), some (.ref nm), some (.ref lt), some (.ref ca), some (.ref wo), some (.ref wd), some v, none, none] ∧ IsTh H' v t ∧ PfT ts 11 t ∧ (cnt t : Int) ≤ r + 36 ∧ n' ≤ n + 2300000 ∧ H' nm = some (.lst (T1.map V.str)) ∧ Feed H' d l ns n' ∧ But d H H', ?_, ?_⟩
      · refine ⟨_, rfl, _, rfl, Nat.zero_le _, fun c hc => ?_⟩
        have s8 := same_upd (o := .lst []) hc
        have B8 : upd H7 c (.lst []) c = some (.lst (([] : List Str).map V.str)) := upd_same
        have X8 : Ctx ts 4 (upd H7 c (.lst [])) (upd H7 c (.lst [])) d l wd ⟨nm, lt, ca, wo, sd'⟩ ⟨T1, T2, cs, sv, ss, fun _ => 1, kvs⟩ c [] ns n6 r Z := ⟨F7.same s8, s8 _ _ W7, N7.go (Kp.of s8) (But2.same s8), B8, Nat.zero_le _, (fun t ht => by cases ht), But2.refl _ _ _⟩
        refine ⟨_, rfl, d, l, ns, n6, _, rfl, X8.F, by omega, by decide, by decide, fun q n9 H9 q0 q1 hn9 F9 b9 => ?_⟩
        have X9 := X8.draw b9 F9
        refine ⟨_, _, rfl, rfl, ts, d, l, wd, _, _, c, [], ns, n9, r, Z, _, 1, rfl, by decide, by decide, by omega, by decide, by decide, ?_, by omega, by decide, X9.zero, fun v t n10 r10 z10 H10 h10 p10 c10 y1 y2 hn10 C10 => ?_⟩
        · have := tB_succ (N := 7) (by decide)
          have := tB_pos (7 + 1)
          omega
        refine ⟨v, t, n10, rfl, h10, p10, by omega, by omega, ?_, C10.F, fun b o e hb => ?_⟩
        · exact C10.b2.kp X9.F X9.W _ _ (X8.F.lst b9 (s8 _ _ nm7)) (fun _ z => by cases z)
        · have e4 := B4 b o e hb
          have hbw := now e4
          exact C10.b2 b o (b9 b o (s8 _ _ (B7 b o e4 hb hbw)) hb) hb hbw
      clear N7 N5 W7 W6 W5 F7 F6 F5 F4 F3 F2 B4 B7 b7 k47 k46 k7 hcall hss hsp hs Q5 nm7
      rintro σ8 H8 ⟨v, t, n8, rfl, hv, hpf, hcn, hn8, hnm8, F8, B8⟩
      have hS1 : ∀ x ∈ ts, x ∈ ts ++ T1 := fun x hx => List.mem_append_left _ hx
      have hS2 : ∀ x ∈ T1, x ∈ ts ++ T1 := fun x hx => List.mem_append_right _ hx
      replace hpf := PfT.mono hS1 11 hpf
      obtain ⟨x0, hx0⟩ : ∃ x, T1[0]? = some x := ⟨_, List.getElem?_eq_getElem (by omega)⟩
      obtain ⟨x1, hx1⟩ : ∃ x, T1[1]? = some x := ⟨_, List.getElem?_eq_getElem (by omega)⟩
      have hx0m := List.mem_of_getElem? hx0
      have hx1m := List.mem_of_getElem? hx1
      have at0 : atI (T1.map V.str) 0 = some (.str x0) := atI_nat (j := 0) (by rw [List.getElem?_map, hx0]; rfl)
      have at1 : atI (T1.map V.str) 1 = some (.str x1) := atI_nat (j := 1) (by rw [List.getElem?_map, hx1]; rfl)
      refine ⟨(by show 4 ≤ sizeLine; decide), fun c hc => ?_⟩
      have sc := same_upd (o := .lst [.int 0, .int 0, .int 3, .int 5]) hc
      refine ⟨_, rfl, d, l, ns, n8, _, rfl, F8.same sc, by omega, by decide, by decide, fun q n9 H9 q0 q1 hn9 F9 b9 => ?_⟩
      obtain ⟨u, hu', hat⟩ := at_in (xs := [V.int 0, .int 0, .int 3, .int 5]) (i := q) q0 (Int.lt_of_lt_of_le q1 (by decide))
      obtain ⟨mm, rfl, hm0, hm5⟩ : ∃ mm : Int, u = .int mm ∧ 0 ≤ mm ∧ mm ≤ 5 := by
        simp only [List.mem_cons, List.not_mem_nil, or_false] at hu'
        rcases hu' with rfl | rfl | rfl | rfl <;> exact ⟨_, rfl, by decide, by decide⟩
      have k9 := b9.kp (F8.same sc)
      refine ⟨c, _, q, .int mm, rfl, rfl, SqL.of ((F8.same sc).lst b9 upd_same), hat, mm, rfl, by omega, by omega, for_range (n := mm.toNat) (fun j σ H' => ∃ (v : V) (t : Th) (n' : Nat) (o8 o9 : Option V), σ = [some (.ref d), some (.int r), some (.ref nm), some (.ref lt), some (.ref ca), some (.ref wo), some (.ref wd), some v, o8, o9] ∧ IsTh H' v t ∧ PfT (ts ++ T1) (11 + j) t ∧ (cnt t : Int) ≤ r + 36 + 2 * j ∧ n' ≤ n + 2300010 + j ∧ H' nm = some (.lst (T1.map V.str)) ∧ Feed H' d l ns n' ∧ But d H H')
        ⟨v, t, n9, none, none, rfl, IsTh.kp k9 (IsTh.kp (Kp.of sc) hv), hpf, by omega, by omega, k9 _ _ (sc _ _ hnm8) (fun _ z => by cases z), F9, (B8.trans (But.of sc)).trans b9⟩ ?_ ?_⟩
      · rintro j σ H1 hj ⟨v, t, n1, o8, o9, rfl, hv, hpf, hcn, hn1, hnm1, F1, B1⟩
        have hj5 : j < 5 := by omega
        refine ⟨_, rfl, d, l, ns, n1, _, rfl, F1, by omega, by decide, by decide, fun way n2 H2 w0 w1 hn2 F2 b2 => ?_⟩
        have k2 := b2.kp F1
        have hv2 := IsTh.kp k2 hv
        have hnm2 := k2 _ _ hnm1 (fun _ z => by cases z)
        have B2' := B1.trans b2
        have fin : ∀ (H3 : Hp) (u : V) (t' : Th), Same H2 H3 → IsTh H3 u t' → PfT (ts ++ T1) (11 + j + 1) t' → cnt t' ≤ cnt t + 2 →
            ∃ (v : V) (t : Th) (n' : Nat) (o8 o9 : Option V), [some (V.ref d), some (.int r), some (.ref nm), some (.ref lt), some (.ref ca), some (.ref wo), some (.ref wd), some u, some (.int (0 + (j : Int))), some (.int way)] = [some (.ref d), some (.int r), some (.ref nm), some (.ref lt), some (.ref ca), some (.ref wo), some (.ref wd), some v, o8, o9] ∧ IsTh H3 v t ∧ PfT (ts ++ T1) (11 + (j + 1)) t ∧ (cnt t : Int) ≤ r + 36 + 2 * ((j + 1 : Nat) : Int) ∧ n' ≤ n + 2300010 + (j + 1) ∧ H3 nm = some (.lst (T1.map V.str)) ∧ Feed H3 d l ns n' ∧ But d H H3 :=
          fun H3 u t' s3 hu3 hp3 hc3 => ⟨u, t', n2, _, _, rfl, hu3, hp3, by omega, by omega, s3 _ _ hnm2, F2.same s3, B2'.trans (But.of s3)⟩
        have hk0 : (0 : Int) ≤ 0 + (j : Int) := by omega
        have hk5 : 0 + (j : Int) ≤ 5 := by omega
        refine ⟨_, rfl, rfl, _, rfl, ite2 (fun g => ?_) (fun g => iteF ?_)⟩
        rotate_left
        · refine ⟨_, rfl, (by show 2 ≤ sizeLine; decide), fun c1 hc1 => ?_⟩
          have q1 := same_upd (o := .tup [.str "say", v]) hc1
          refine ⟨_, rfl, (by show 2 ≤ sizeLine; decide), fun c2 hc2 => ?_⟩
          have q2 := same_upd (o := .tup [.str "say", v]) hc2
          refine ⟨_, rfl, _, rfl, (by show 3 ≤ sizeLine; decide), fun c3 hc3 => ?_⟩
          have q3 := same_upd (o := .tup [.str "again", .int (0 + (j : Int)), v]) hc3
          have q13 := (q1.trans q2).trans q3
          refine ⟨_, rfl, nm, _, _, .str x0, rfl, rfl, SqL.of (q13 _ _ hnm2), at0, _, rfl, (by show 3 ≤ sizeLine; decide), fun c4 hc4 => ?_⟩
          have q4 := same_upd (o := .tup [.str "call", .str x0, v]) hc4
          refine ⟨(by show 4 ≤ sizeLine; decide), fun l0 hl0 => ?_⟩
          have q5 := same_upd (o := .lst [.ref c1, .ref c2, .ref c3, .ref c4]) hl0
          have qA := (q13.trans q4).trans q5
          obtain ⟨u, hu1, hat1⟩ := at_in (xs := [V.ref c1, .ref c2, .ref c3, .ref c4]) (i := way) w0 (Int.lt_of_lt_of_le w1 (by show (4 : Int) ≤ ((4 : Nat) : Int); decide))
          refine ⟨_, rfl, l0, _, way, u, rfl, rfl, SqL.of upd_same, hat1, ?_⟩
          have hvA := IsTh.kp (Kp.of qA) hv2
          simp only [List.mem_cons, List.not_mem_nil, or_false] at hu1
          rcases hu1 with rfl | rfl | rfl | rfl
          · refine fin _ _ (nd "say" [] [t]) qA (.tup (q5 _ _ (q4 _ _ (q3 _ _ (q2 _ _ upd_same)))) (.cons (.at (by decide +kernel)) (.cons hvA .nil))) (pf_say hpf) ?_
            rw [cnt_1 hpf]; omega
          · refine fin _ _ (nd "say" [] [t]) qA (.tup (q5 _ _ (q4 _ _ (q3 _ _ upd_same))) (.cons (.at (by decide +kernel)) (.cons hvA .nil))) (pf_say hpf) ?_
            rw [cnt_1 hpf]; omega
          · refine fin _ _ (nd "again" [.int (0 + (j : Int))] [t]) qA (.tup (q5 _ _ (q4 _ _ upd_same)) (.cons (.at (by decide +kernel)) (.cons (.at rfl) (.cons hvA .nil)))) (pf_again hk0 hk5 hpf) ?_
            rw [cnt_1 hpf]; omega
          · refine fin _ _ (nd "call" [.str x0] [t]) qA (.tup (q5 _ _ upd_same) (.cons (.at (by decide +kernel)) (.cons (.at (nm_small (hTn x0 hx0m))) (.cons hvA .nil)))) (pf_call (hS2 x0 hx0m) (hTn x0 hx0m) (by show 1 ≤ 6; decide) (one_mem hpf)) ?_
            rw [cnt_1 hpf]; omega
        refine ⟨_, rfl, _, rfl, nm, _, _, .str x1, rfl, rfl, SqL.of hnm2, at1, (by show 1 ≤ sizeLine; decide), fun bl hbl => ?_⟩
        have sb := same_upd (o := .lst [.str x1]) hbl
        refine ⟨ts ++ T1, v, bl, t, [x1], rfl, IsTh.kp (Kp.of sb) hv2, hpf.le (by omega), upd_same, by show 1 + 16 ≤ 1000; decide, fun b H3 s3 => ⟨b, rfl, ?_⟩⟩
        have s23 := sb.trans s3
        have hv3 := IsTh.kp (Kp.of s23) hv2
        have hnm3 := s23 _ _ hnm2
        refine ite2 (fun g => ?_) (fun g => ?_)
        · refine ⟨_, rfl, nm, _, _, .str x1, rfl, rfl, SqL.of hnm3, at1, _, rfl, (by show 2 ≤ sizeLine; decide), fun c1 hc1 => ?_⟩
          have q1 := same_upd (o := .tup [.str "num", .int (0 + (j : Int))]) hc1
          refine ⟨_, rfl, (by show 4 ≤ sizeLine; decide), fun c2 hc2 => ?_⟩
          have q2 := same_upd (o := .tup [.str "let", .str x1, .ref c1, v]) hc2
          have qA := q1.trans q2
          have hL := leaf2 (S := ts ++ T1) hk0 (show 0 + (j : Int) ≤ 1000000000 by omega)
          have pN := hL.1.le (m := 11 + j) (by omega)
          refine fin _ _ (nd "let" [.str x1] [nd "num" [.int (0 + (j : Int))] [], t]) (s23.trans qA) (.tup upd_same (.cons (.at (by decide +kernel)) (.cons (.at (nm_small (hTn x1 hx1m))) (.cons (.tup (q2 _ _ upd_same) (.cons (.at (by decide +kernel)) (.cons (.at rfl) .nil))) (.cons (IsTh.kp (Kp.of qA) hv3) .nil))))) (pf_let (hTn x1 hx1m) pN hpf) ?_
          rw [cnt_2 pN hpf, hL.2]
          omega
        · refine ⟨_, rfl, (by show 2 ≤ sizeLine; decide), fun c1 hc1 => ?_⟩
          have q1 := same_upd (o := .tup [.str "say", v]) hc1
          refine ⟨_, rfl, (by show 2 ≤ sizeLine; decide), fun c2 hc2 => ?_⟩
          have q2 := same_upd (o := .tup [.str "say", v]) hc2
          refine ⟨_, rfl, _, rfl, (by show 3 ≤ sizeLine; decide), fun c3 hc3 => ?_⟩
          have q3 := same_upd (o := .tup [.str "again", .int (0 + (j : Int)), v]) hc3
          have q13 := (q1.trans q2).trans q3
          refine ⟨_, rfl, nm, _, _, .str x0, rfl, rfl, SqL.of (q13 _ _ hnm3), at0, _, rfl, (by show 3 ≤ sizeLine; decide), fun c4 hc4 => ?_⟩
          have q4 := same_upd (o := .tup [.str "call", .str x0, v]) hc4
          refine ⟨(by show 4 ≤ sizeLine; decide), fun l0 hl0 => ?_⟩
          have q5 := same_upd (o := .lst [.ref c1, .ref c2, .ref c3, .ref c4]) hl0
          have qA := (q13.trans q4).trans q5
          obtain ⟨u, hu1, hat1⟩ := at_in (xs := [V.ref c1, .ref c2, .ref c3, .ref c4]) (i := way) w0 (Int.lt_of_lt_of_le w1 (by show (4 : Int) ≤ ((4 : Nat) : Int); decide))
          refine ⟨_, rfl, l0, _, way, u, rfl, rfl, SqL.of upd_same, hat1, ?_⟩
          have hvA := IsTh.kp (Kp.of qA) hv3
          simp only [List.mem_cons, List.not_mem_nil, or_false] at hu1
          rcases hu1 with rfl | rfl | rfl | rfl
          · refine fin _ _ (nd "say" [] [t]) (s23.trans qA) (.tup (q5 _ _ (q4 _ _ (q3 _ _ (q2 _ _ upd_same)))) (.cons (.at (by decide +kernel)) (.cons hvA .nil))) (pf_say hpf) ?_
            rw [cnt_1 hpf]; omega
          · refine fin _ _ (nd "say" [] [t]) (s23.trans qA) (.tup (q5 _ _ (q4 _ _ (q3 _ _ upd_same))) (.cons (.at (by decide +kernel)) (.cons hvA .nil))) (pf_say hpf) ?_
            rw [cnt_1 hpf]; omega
          · refine fin _ _ (nd "again" [.int (0 + (j : Int))] [t]) (s23.trans qA) (.tup (q5 _ _ (q4 _ _ upd_same)) (.cons (.at (by decide +kernel)) (.cons (.at rfl) (.cons hvA .nil)))) (pf_again hk0 hk5 hpf) ?_
            rw [cnt_1 hpf]; omega
          · refine fin _ _ (nd "call" [.str x0] [t]) (s23.trans qA) (.tup (q5 _ _ upd_same) (.cons (.at (by decide +kernel)) (.cons (.at (nm_small (hTn x0 hx0m))) (.cons hvA .nil)))) (pf_call (hS2 x0 hx0m) (hTn x0 hx0m) (by show 1 ≤ 6; decide) (one_mem hpf)) ?_
            rw [cnt_1 hpf]; omega
      · rintro σ H1 ⟨v, t, n1, o8, o9, rfl, hv, hpf, hcn, hn1, hnm1, F1, B1⟩
        exact ⟨_, rfl, k v _ t n1 H1 hv (hpf.le (by omega)) (by omega) (by omega) F1 B1⟩
end
end K54

set_option Elab.async false
set_option linter.all false
set_option maxRecDepth 100000
set_option maxHeartbeats 4000000
namespace K54
open PySem L2
theorem pg_threeK {X : Cx} {K : PySem.W.Frag} {x y z : Str} {px py pz pos : Pos} {k i j h : Nat} (hK : X.K = K) (hc : X.calm = true) (hN : X.N.Nodup) (hi : X.N[i]? = some x) (hx : Loc X.env.scope x) (hj : X.N[j]? = some y) (hy : Loc X.env.scope y) (hh : X.N[h]? = some z) (hz : Loc X.env.scope z)
    (hf : X.fn x = true ∨ X.env.scope.names.lookup x = some .local) (hg : X.fn y = true ∨ X.env.scope.names.lookup y = some .local) (he : X.fn z = true ∨ X.env.scope.names.lookup z = some .local) :
    PG X (.Tuple [.Name x px, .Name y py, .Name z pz] k pos) (gTup K 3 (gCons (gName i) (gCons (gName j) (gCons (gName h) gNil)))) := by
  subst hK
  exact pg_tup hc (pgs_cons (pg_name hN hi hx hf) (pgs_cons (pg_name hN hj hy hg) (pgs_cons (pg_name hN hh hz he) pgs_nil)))
/-- a program's two fields, a function's three -/
theorem pr_parts {H : Hp} {v : V} {fs : List Fd} {m : Th} (h : IsTh H v (prT fs m)) : ∃ (a fa : Addr) (fv : List V) (mv : V), v = .ref a ∧ H a = some (.tup [.ref fa, mv]) ∧ H fa = some (.tup fv) ∧ IsThs H fv (fs.map Fd.th) ∧ IsTh H mv m := by
  unfold prT at h
  obtain ⟨a, vs, rfl, ha, hvs⟩ := th_tup h
  cases hvs with
  | @cons v1 vr _ _ d1 d2 =>
    cases d2 with
    | @cons v2 vr2 _ _ d3 d4 =>
      cases d4
      obtain ⟨fa, fv, rfl, hfa, hfv⟩ := th_tup d1
      exact ⟨a, fa, fv, v2, rfl, ha, hfa, hfv, d3⟩
theorem pe_joinK {X : Cx} {K : PySem.W.Frag} {o e : Expr} {to : TE} {t : TA} {apos cpos : Pos} (hK : X.K = K) (ho : PE X o to) (ha : PA X [e] t)
    (hbase : attributeBase o "join" X.env (eval o X.env) = eval o X.env := by rfl)
    (hfew : ((backTo cpos (starEach [e] X.env)).all (fun x => !x.1) && (backToKw cpos (keywordEach [] X.env)).all (fun x => x.1.isSome)
      && decide ([e].length + ([] : List Keyword).length + (if ([] : List Keyword).isEmpty then 0 else 1) < 30)) = true := by rfl)
    (hline : (apos.endLine == cpos.line) = true := by rfl) (hs : starEach [e] X.env = (false, eval e X.env) :: starEach [] X.env := by rfl) (hplain : (backTo cpos (starEach [] X.env)).any (·.1) = false := by rfl) :
    PE X (.Call (.Attribute o "join" apos) [e] [] cpos) (tBM K "str" (rJoin K) to t) := by
  subst hK
  exact pe_bm PySem.F.plainAttrs_str PySem.F.slot_str_join PySem.F.type_str_join (mt_join rfl) ho ha hbase hfew hline hs hplain
theorem call_list_ofK {X : Cx} {K : PySem.W.Frag} (hK : X.K = K) : CallR X (.type "list") (fun xs H Q => ∃ p ys, xs = [.ref p] ∧ (SqL K H p ys ∨ SqT K H p ys) ∧ ∀ l, H l = none → Q (.ref l) (upd H l (.lst ys))) := by
  subst hK
  exact call_list_of
theorem ths_vals {H : Hp} : ∀ {ps : List Str} {vs : List V}, IsThs H vs (ps.map fun p => Th.at (.str p)) → vs = ps.map V.str := by
  intro ps
  induction ps with
  | nil => intro vs h; cases h; rfl
  | cons p ps ih =>
    intro vs h
    rw [List.map_cons] at h
    cases h with
    | cons d1 d2 =>
      obtain ⟨rfl, _⟩ := th_at d1
      rw [ih d2]
      rfl
theorem fd_parts3 {H : Hp} {v : V} {f : Fd} (h : IsTh H v f.th) : ∃ (a pa : Addr) (bv : V), v = .ref a ∧ H a = some (.tup [.str f.x, .ref pa, bv]) ∧ H pa = some (.tup (f.ps.map V.str)) ∧ IsTh H bv f.t := by
  unfold Fd.th at h
  obtain ⟨a, vs, rfl, ha, hvs⟩ := th_tup h
  cases hvs with
  | @cons v1 vr _ _ d1 d2 =>
    cases d2 with
    | @cons v2 vr2 _ _ d3 d4 =>
      cases d4 with
      | @cons v3 vr3 _ _ d5 d6 =>
        cases d6
        obtain ⟨rfl, _⟩ := th_at d1
        obtain ⟨pa, pvs, rfl, hpa, hpvs⟩ := th_tup d3
        rw [ths_vals hpvs] at hpa
        exact ⟨a, pa, v3, rfl, ha, hpa, d5⟩
/-- a function's line, as a text and as words -/
def lnS (f : Fd) : Str := Txt.join " " ((f.x :: f.ps) ++ ([":", txt f.t] : List Str))
def lnW (f : Fd) : List Str := [f.x] ++ f.ps ++ ([":"] : List Str) ++ wd f.t
theorem ln_eq {S : List Str} {f : Fd} (h : FdOk S f) : Txt.join " " (lnW f) = lnS f := by
  unfold lnS lnW txt
  have e : (f.x :: f.ps) ++ ([":", Txt.join " " (wd f.t)] : List Str) = ([f.x] ++ f.ps ++ ([":"] : List Str)) ++ [Txt.join " " (wd f.t)] := by simp
  rw [e, join_in " " (by simp) (wd_ne h.b)]
def linesS (fs : List Fd) (m : Th) : List Str := fs.map lnS ++ [txt m]
def linesW (fs : List Fd) (m : Th) : List (List Str) := fs.map lnW ++ [wd m]
theorem txt_len {S : List Str} {n : Nat} {t : Th} (h : PfT S n t) : (txt t).length ≤ 68 * cnt t := by
  obtain ⟨h1, h2⟩ := wd_len n h
  have h3 := sum_le (wd t) h2
  have e : txt t = Str.join " " (wd t) := (StrLaws.glued_eq_join " " (wd t))
  rw [e]
  have h4 := StrLaws.join_length_le " " (wd t)
  have h5 : (" " : Str).length = 1 := by decide +kernel
  rw [h5] at h4
  omega
def spShowA (N : Nat) : Sp := fun vs H Q E => ∃ S, spShow S N vs H Q E
def spWordsA (N : Nat) : Sp := fun vs H Q E => ∃ S, spWords S N vs H Q E
def spShowProgram : Sp := fun vs H Q _ => ∃ (v : V) (fs : List Fd) (m : Th), vs = [v] ∧ IsTh H v (prT fs m) ∧ FOk fs ∧ fs.length ≤ 3 ∧ PfT (nmS fs) 11 m ∧ cnt m ≤ 1000 ∧ ∀ (p : Addr) H', Same H H' → H' p = some (.tup ((linesS fs m).map V.str)) → Q (.ref p) H'
/-- a list of lists of texts -/
def LinesAt (H : Hp) (ys : List V) (rows : List (List Str)) : Prop := ys.length = rows.length ∧ ∀ (j : Nat) (y : V), ys[j]? = some y → ∃ (q : Addr) (ws : List Str), y = .ref q ∧ rows[j]? = some ws ∧ H q = some (.lst (ws.map V.str))
theorem LinesAt.same {H H' : Hp} {ys : List V} {rows : List (List Str)} (s : Same H H') (h : LinesAt H ys rows) : LinesAt H' ys rows :=
  ⟨h.1, fun j y hy => let ⟨q, ws, h1, h2, h3⟩ := h.2 j y hy; ⟨q, ws, h1, h2, s _ _ h3⟩⟩
theorem LinesAt.snoc {H : Hp} {ys : List V} {rows : List (List Str)} {q : Addr} {ws : List Str} (h : LinesAt H ys rows) (hq : H q = some (.lst (ws.map V.str))) : LinesAt H (ys ++ [.ref q]) (rows ++ [ws]) := by
  refine ⟨by rw [List.length_append, List.length_append, h.1]; rfl, fun j y hy => ?_⟩
  rcases get_snoc hy with hy | ⟨rfl, rfl⟩
  · obtain ⟨q', ws', h1, h2, h3⟩ := h.2 j y hy
    exact ⟨q', ws', h1, by rw [List.getElem?_append_left (List.getElem?_eq_some_iff.mp h2).1]; exact h2, h3⟩
  · exact ⟨q, ws, rfl, by rw [h.1, List.getElem?_append_right (Nat.le_refl _)]; simp, hq⟩
def spLines : Sp := fun vs H Q _ => ∃ (v : V) (fs : List Fd) (m : Th), vs = [v] ∧ IsTh H v (prT fs m) ∧ FOk fs ∧ fs.length ≤ 3 ∧ PfT (nmS fs) 11 m ∧ cnt m ≤ 1000 ∧ ∀ (p : Addr) (ys : List V) H', Same H H' → H' p = some (.lst ys) → LinesAt H' ys (linesW fs m) → Q (.ref p) H'
theorem nd_npb : (["name", "params", "body"] : List Str).Nodup := by decide +kernel
theorem nd_lnpb : (["_law_name_here", "_law_params", "_law_body"] : List Str).Nodup := by decide +kernel
section
variable {P : Program} {w : World} {K : PySem.W.Frag} {mg : Str → Option Value} {base : Heap}
theorem scShowProgram : FnScope ["program", "functions", "main", "lines"] ["program"] (defScope sShowProgram) := ⟨rfl, rfl, rfl, by decide +kernel, rfl, by decide +kernel, by decide +kernel⟩
theorem ok_showprogram {f fS : Addr} {fd dS : FuncData} (F : Fun K "show_program" "show_program" sShowProgram f fd) (T : TxtT mg) (FS : Fn K mg "show" sShow ["e"] fS dS) (GS : FnOk P w K mg base CX0 3 fS dS ["e"] (spShowA 11)) :
    FnOk P w K mg base CX0 4 f fd ["program"] spShowProgram := by
  refine F.ok scShowProgram (fun vs H Q E h => ?_) (fun cdv A outer s H vs Q E hr h => ?_)
  · obtain ⟨v, fs, m, rfl, _⟩ := h
    rfl
  · obtain ⟨v, fs, m, rfl, hv, hfo, hfl, hpm, hcm, k⟩ := h
    have hsz : sizeLine = 16777216 := sizeLine_eq
    refine' ⟨?tt, ?body, ?fin⟩
    case body =>
      refine' pss_cons ?s1 ?r1
      case s1 => exact ps_asg (pv 0) (pg_tup rfl (pgs_cons (pg_name (i := 1) scShowProgram.nd rfl (Or.inl rfl)) (pgs_cons (pg_name (i := 2) scShowProgram.nd rfl (Or.inl rfl)) pgs_nil)))
      case r1 =>
        refine' pss_cut ?s2 (pss_one ?s3)
        case s2 =>
          refine' ps_setComp (i := 3) (N' := ["name", "params", "body"]) (src := [none, none, none]) ?k1 ?k2 ?k3 ?k4 ?k5 ?k6 ?k7
          case k1 => rfl
          case k2 => exact scShowProgram.nd
          case k3 => rfl
          case k4 => exact Or.inl rfl
          case k5 => exact compScope_of (defScope sShowProgram) rfl ["program", "functions", "main", "lines"] rfl (by decide +kernel)
          case k6 => exact pi_tup (pv 1)
          case k7 =>
            intro cl C ex s0 H0
            refine' ⟨?g1, pts_nil, ?g2⟩
            case g1 => exact pg_threeK (K := K) (i := 0) (j := 1) (h := 2) rfl rfl nd_npb rfl (Or.inl rfl) rfl (Or.inl rfl) rfl (Or.inl rfl) (Or.inr rfl) (Or.inr rfl) (Or.inr rfl)
            case g2 => exact pe_joinK (K := K) rfl pe_str (pa_cons (pe_op op_catP (pe_op op_catP (pe_tup (pa_n (pv 0) pa_nil)) (pv 1)) (pe_tup (pa_k pe_str (pa_c (pe_call GS hr (by rfl) FS.m FS.F.kp FS.b .nil pass0 (pa_n (pv 2) pa_nil)) pa_nil)))) pa_nil)
        case s3 => exact ps_ret (pe_callTy call_tuple_of (by rfl) T.tup (by decide +kernel) (pa_cons (pe_op op_cat (pv 3) (pe_lst (pa_c (pe_call GS hr (by rfl) FS.m FS.F.kp FS.b .nil pass0 (pa_n (pv 2) pa_nil)) pa_nil))) pa_nil))
    case fin =>
      obtain ⟨pa, fa, fv, mv, rfl, hpa, hfa, hfv, hmv⟩ := pr_parts hv
      have hvl := IsThs.len _ hfv
      rw [List.length_map] at hvl
      refine ⟨_, rfl, pa, _, rfl, SqT.of hpa, rfl, _, _, rfl, _, _, rfl, rfl, ?_⟩
      refine ⟨fun σ' H' => ∃ la, σ' = [some (.ref pa), some (.ref fa), some mv, some (.ref la)] ∧ Same H H' ∧ H' la = some (.lst ((fs.map lnS).map V.str)), ?_, ?_⟩
      · refine ⟨_, rfl, fa, rfl, ⟨_, SqT.of hfa⟩, comp_tup (K := K) (a := fa) (xs := fv) (fun i ys σc H' => ∃ (o1 o2 o3 : Option V), σc = [o1, o2, o3] ∧ Same H H' ∧ ys = ((fs.take i).map lnS).map V.str)
          ⟨none, none, none, rfl, Same.refl _, rfl⟩ (fun i ys σc H' ⟨_, _, _, _, e, _⟩ => SqT.of (e _ _ hfa)) ?_ ?_⟩
        · rintro i x ys σc H' hx hi ⟨o1, o2, o3, rfl, s', rfl⟩
          obtain ⟨t, ht, hxt⟩ := ths_get _ hfv hx
          rw [List.getElem?_map] at ht
          obtain ⟨g, hg, rfl⟩ := Option.map_eq_some_iff.mp ht
          obtain ⟨c, qa, bv, rfl, hc, hqa, hb⟩ := fd_parts3 hxt
          have ok := hfo i g hg
          have hpl := ok.l
          have hcc := ok.c
          refine ⟨by rw [List.length_map, List.length_map, List.length_take]; omega, c, _, rfl, SqT.of (s' _ _ hc), rfl, _, _, rfl, _, _, rfl, _, _, rfl, rfl, rfl, ?_⟩
          refine ⟨_, rfl, (by show 1 ≤ sizeLine; decide), fun c1 hc1 => ?_⟩
          have q1 := same_upd (o := .tup [.str g.x]) hc1
          refine ⟨_, rfl, c1, qa, _, _, rfl, rfl, upd_same, q1 _ _ (s' _ _ hqa), by rw [List.length_singleton, List.length_map]; omega, fun c2 H2 q2 hc2 => ?_⟩
          have q12 := (s'.trans q1).trans q2
          refine ⟨_, rfl, nmS (fs.take i), bv, g.t, rfl, IsTh.kp (Kp.of q12) hb, ok.b.le (by decide), by omega, fun H3 q3 => ⟨(by show 2 ≤ sizeLine; decide), fun c4 hc4 => ?_⟩⟩
          have q4 := same_upd (o := .tup [.str ":", .str (txt g.t)]) hc4
          refine ⟨c2, c4, _, _, rfl, rfl, q4 _ _ (q3 _ _ hc2), upd_same, ?_, fun c5 H5 q5 hc5 => ?_⟩
          · show ([V.str g.x] ++ g.ps.map V.str).length + 2 ≤ sizeLine
            rw [List.length_append, List.length_singleton, List.length_map]
            omega
          have hwords : [V.str g.x] ++ g.ps.map V.str ++ [.str ":", .str (txt g.t)] = ((g.x :: g.ps) ++ ([":", txt g.t] : List Str)).map V.str := by simp
          rw [hwords] at hc5
          refine ⟨" ", c5, _, rfl, rfl, .inr (SqT.of hc5), ?_, nx hi ⟨_, _, _, rfl, ((q12.trans q3).trans q4).trans q5, ?_⟩⟩
          · have htl := txt_len ok.b
            refine join_ok (c := 3000) (fun y hy => ?_) (by decide) ?_
            · rcases List.mem_append.mp hy with z | z
              · have : Nm y := by
                  rcases List.mem_cons.mp z with z | z
                  · rw [z]; exact ok.n
                  · exact ok.p y z
                have := this.1.2
                omega
              · rcases List.mem_cons.mp z with z | z
                · rw [z]; decide +kernel
                · rw [List.mem_singleton] at z; rw [z]; omega
            · rw [List.length_append, List.length_cons]
              show 3001 * (g.ps.length + 1 + 2) ≤ _
              omega
          · rw [List.take_add_one, hg, List.map_append, List.map_append]
            rfl
        · rintro ys σc H' ⟨o1, o2, o3, rfl, s', rfl⟩ l hl
          rw [List.take_of_length_le (Nat.le_of_eq hvl.symm)]
          exact ⟨l, rfl, s'.trans (same_upd hl), upd_same⟩
      rintro σ1 H1 ⟨la, rfl, s1, hla⟩
      refine ⟨_, rfl, _, rfl, nmS fs, mv, m, rfl, IsTh.kp (Kp.of s1) hmv, hpm, by omega, fun H2 s2 => ⟨(by show 1 ≤ sizeLine; decide), fun c hc => ?_⟩⟩
      have q1 := same_upd (o := .lst [.str (txt m)]) hc
      refine ⟨la, c, _, _, rfl, rfl, q1 _ _ (s2 _ _ hla), upd_same, by rw [List.length_map, List.length_map, List.length_singleton]; omega, fun c2 hc2 => ?_⟩
      have q2 := same_upd (o := .lst ((fs.map lnS).map V.str ++ [.str (txt m)])) hc2
      refine ⟨c2, _, rfl, .inl ⟨SqL.of upd_same, fun p hp => ?_⟩⟩
      refine k p _ (((s1.trans s2).trans q1).trans (q2.trans (same_upd hp))) ?_
      rw [upd_same]
      unfold linesS
      rw [List.map_append]
      rfl
theorem scLines : FnScope ["_law_program_here", "_law_found"] ["_law_program_here"] (defScope sLines) := ⟨rfl, rfl, rfl, by decide +kernel, rfl, by decide +kernel, by decide +kernel⟩
theorem ok_lines {f fW : Addr} {fd dW : FuncData} (F : Fun K "_law_lines" "_law_lines" sLines f fd) (hlist : mg "list" = none) (FW : Fn K mg "_law_words" sWords ["_law_e"] fW dW) (GW : FnOk P w K mg base CX0 13 fW dW ["_law_e"] (spWordsA 11)) :
    FnOk P w K mg base CX0 14 f fd ["_law_program_here"] spLines := by
  refine F.ok scLines (fun vs H Q E h => ?_) (fun cdv A outer s H vs Q E hr h => ?_)
  · obtain ⟨v, fs, m, rfl, _⟩ := h
    rfl
  · obtain ⟨v, fs, m, rfl, hv, hfo, hfl, hpm, hcm, k⟩ := h
    have hsz : sizeLine = 16777216 := sizeLine_eq
    refine' ⟨?tt, ?body, ?fin⟩
    case body =>
      refine' pss_cut ?s2 (pss_one ?s3)
      case s2 =>
        refine' ps_setComp (i := 1) (N' := ["_law_name_here", "_law_params", "_law_body"]) (src := [none, none, none]) ?k1 ?k2 ?k3 ?k4 ?k5 ?k6 ?k7
        case k1 => rfl
        case k2 => exact scLines.nd
        case k3 => rfl
        case k4 => exact Or.inl rfl
        case k5 => exact compScope_of (defScope sLines) rfl ["_law_program_here", "_law_found"] rfl (by decide +kernel)
        case k6 => exact pi_tup (pe_ix ix_tup (pv 0) pe_int (fun _ _ => rfl))
        case k7 =>
          intro cl C ex s0 H0
          refine' ⟨?g1, pts_nil, ?g2⟩
          case g1 => exact pg_threeK (K := K) (i := 0) (j := 1) (h := 2) rfl rfl nd_lnpb rfl (Or.inl rfl) rfl (Or.inl rfl) rfl (Or.inl rfl) (Or.inr rfl) (Or.inr rfl) (Or.inr rfl)
          case g2 => exact pe_op op_cat (pe_op op_cat (pe_op op_cat (pe_lst (pa_n (pv 0) pa_nil)) (pe_callTy (call_list_ofK (K := K) rfl) (by rfl) hlist (by decide +kernel) (pa_n (pv 1) pa_nil))) (pe_lst (pa_k pe_str pa_nil))) (pe_call GW hr (by rfl) FW.m FW.F.kp FW.b .nil pass0 (pa_n (pv 2) pa_nil))
      case s3 => exact ps_ret (pe_op op_cat (pv 1) (pe_lst (pa_c (pe_call GW hr (by rfl) FW.m FW.F.kp FW.b .nil pass0 (pa_cons (pe_ix ix_tup (pv 0) pe_int (fun _ _ => rfl)) pa_nil)) pa_nil)))
    case fin =>
      obtain ⟨pa, fa, fv, mv, rfl, hpa, hfa, hfv, hmv⟩ := pr_parts hv
      have hvl := IsThs.len _ hfv
      rw [List.length_map] at hvl
      refine ⟨fun σ' H' => ∃ la ys, σ' = [some (.ref pa), some (.ref la)] ∧ Same H H' ∧ H' la = some (.lst ys) ∧ LinesAt H' ys (fs.map lnW), ?_, ?_⟩
      · refine ⟨_, rfl, pa, _, _, _, rfl, rfl, SqT.of hpa, at_head _ _, fa, rfl, ⟨_, SqT.of hfa⟩, comp_tup (K := K) (a := fa) (xs := fv) (fun i ys σc H' => ∃ (o1 o2 o3 : Option V), σc = [o1, o2, o3] ∧ Same H H' ∧ LinesAt H' ys ((fs.take i).map lnW))
          ⟨none, none, none, rfl, Same.refl _, ⟨rfl, fun j y hy => by simp at hy⟩⟩ (fun i ys σc H' ⟨_, _, _, _, e, _⟩ => SqT.of (e _ _ hfa)) ?_ ?_⟩
        · rintro i x ys σc H' hx hi ⟨o1, o2, o3, rfl, s', hys⟩
          obtain ⟨t, ht, hxt⟩ := ths_get _ hfv hx
          rw [List.getElem?_map] at ht
          obtain ⟨g, hg, rfl⟩ := Option.map_eq_some_iff.mp ht
          obtain ⟨c, qa, bv, rfl, hc, hqa, hb⟩ := fd_parts3 hxt
          have ok := hfo i g hg
          have hpl := ok.l
          have hcc := ok.c
          have hwl := (wd_len 4 ok.b).1
          have hyl := hys.1
          rw [List.length_map, List.length_take] at hyl
          refine ⟨by omega, c, _, rfl, SqT.of (s' _ _ hc), rfl, _, _, rfl, _, _, rfl, _, _, rfl, rfl, ?_⟩
          refine ⟨_, rfl, (by show 1 ≤ sizeLine; decide), fun c1 hc1 => ?_⟩
          have q1 := same_upd (o := .lst [.str g.x]) hc1
          refine ⟨_, rfl, qa, _, rfl, .inr (SqT.of (q1 _ _ (s' _ _ hqa))), fun c2 hc2 => ?_⟩
          have q2 := same_upd (o := .lst (g.ps.map V.str)) hc2
          refine ⟨c1, c2, _, _, rfl, rfl, q2 _ _ upd_same, upd_same, by rw [List.length_singleton, List.length_map]; omega, fun c3 hc3 => ?_⟩
          have q3 := same_upd (o := .lst ([.str g.x] ++ g.ps.map V.str)) hc3
          refine ⟨(by show 1 ≤ sizeLine; decide), fun c4 hc4 => ?_⟩
          have q4 := same_upd (o := .lst [.str ":"]) hc4
          refine ⟨c3, c4, _, _, rfl, rfl, q4 _ _ upd_same, upd_same, by rw [List.length_append, List.length_singleton, List.length_singleton, List.length_map]; omega, fun c5 hc5 => ?_⟩
          have q5 := same_upd (o := .lst ([.str g.x] ++ g.ps.map V.str ++ [.str ":"])) hc5
          have q15 := (((q1.trans q2).trans q3).trans q4).trans q5
          have s15 := s'.trans q15
          refine ⟨_, rfl, nmS (fs.take i), bv, g.t, rfl, IsTh.kp (Kp.of s15) hb, ok.b.le (by decide), by omega, fun c6 H6 q6 hc60 hc6 => ?_⟩
          refine ⟨c5, c6, _, _, rfl, rfl, q6 _ _ upd_same, hc6, ?_, fun c7 hc7 => ?_⟩
          · rw [List.length_append, List.length_append, List.length_singleton, List.length_singleton, List.length_map, List.length_map]; omega
          have q7 := same_upd (o := .lst ([V.str g.x] ++ g.ps.map V.str ++ [.str ":"] ++ (wd g.t).map V.str)) hc7
          have e1 : (fs.take (i + 1)).map lnW = (fs.take i).map lnW ++ [lnW g] := by
            rw [List.take_add_one, hg, List.map_append]
            rfl
          refine nx hi ⟨_, _, _, rfl, (s15.trans q6).trans q7, ?_⟩
          rw [e1]
          refine (hys.same ((q15.trans q6).trans q7)).snoc ?_
          rw [upd_same]
          unfold lnW
          simp
        · rintro ys σc H' ⟨o1, o2, o3, rfl, s', hys⟩ l hl
          rw [List.take_of_length_le (Nat.le_of_eq hvl.symm)] at hys
          have sl := same_upd (o := .lst ys) hl
          exact ⟨l, ys, rfl, s'.trans sl, upd_same, hys.same sl⟩
      rintro σ1 H1 ⟨la, ys, rfl, s1, hla, hys⟩
      have hyl := hys.1
      rw [List.length_map] at hyl
      refine ⟨_, rfl, _, rfl, pa, _, _, mv, rfl, rfl, SqT.of (s1 _ _ hpa), at_next _ _ _, nmS fs, mv, m, rfl, IsTh.kp (Kp.of s1) hmv, hpm, by omega, fun c2 H2 s2 hc20 hc2 => ⟨(by show 1 ≤ sizeLine; decide), fun c hc => ?_⟩⟩
      have q1 := same_upd (o := .lst [.ref c2]) hc
      refine ⟨la, c, _, _, rfl, rfl, q1 _ _ (s2 _ _ hla), upd_same, by rw [List.length_singleton]; omega, fun c3 hc3 => ?_⟩
      have q2 := same_upd (o := .lst (ys ++ [.ref c2])) hc3
      refine k c3 _ _ (((s1.trans s2).trans q1).trans q2) upd_same ?_
      unfold linesW
      exact (hys.same ((s2.trans q1).trans q2)).snoc (q2 _ _ (q1 _ _ hc2))
end
end K54

set_option Elab.async false
set_option linter.all false
set_option maxRecDepth 100000
set_option maxHeartbeats 4000000
namespace K54
open PySem L2
def spLaw (K : PySem.W.Frag) : Sp := fun vs H Q _ => ∃ (a : Addr) (ns : List Int), vs = [.ref a] ∧ SqL K H a (ns.map V.int) ∧ ns.length ≤ 63 ∧ ∀ H', Q (.bl true) H'
theorem strs_flat' : ∀ ts : List Str, (ts.map V.str).all flatV = true := by
  intro ts
  induction ts with
  | nil => rfl
  | cons t ts ih => rw [List.map_cons, List.all_cons, ih]; rfl
theorem eqVs_strs (ts : List Str) : eqVs (ts.map V.str) (ts.map V.str) = true := by
  unfold eqVs
  rw [Bool.and_eq_true]
  refine ⟨by simp, List.all_eq_true.mpr fun j hj => ?_⟩
  have h : j < (ts.map V.str).length := List.mem_range.mp hj
  have e : (ts.map V.str).getD j .non = .str (ts[j]'(by rw [List.length_map] at h; exact h)) := by
    rw [List.getD_eq_getElem?_getD, List.getElem?_eq_getElem h, List.getElem_map]
    rfl
  rw [e]
  simp [eqV]
structure LwF where
  p : PrF
  fF : Addr
  fQ : Addr
  fR : Addr
  fP : Addr
  fH : Addr
  fN : Addr
  fS : Addr
  fT : Addr
  fW : Addr
  fL : Addr
  dF : FuncData
  dQ : FuncData
  dR : FuncData
  dP : FuncData
  dH : FuncData
  dN : FuncData
  dS : FuncData
  dT : FuncData
  dW : FuncData
  dL : FuncData
structure Lw (K : PySem.W.Frag) (mg : Str → Option Value) (q : LwF) : Prop where
  P : Pr K mg q.p
  F : Fn K mg "_law_feed" sFeed ["_law_script"] q.fF q.dF
  Q : Fn K mg "_law_program" sProgram ["_law_feed_here", "_law_room"] q.fQ q.dQ
  R : Fn K mg "_law_drawn" sDrawn ["_law_feed_here", "_law_room"] q.fR q.dR
  Pa : Fn K mg "parts" sParts ["e"] q.fP q.dP
  Hd : Fn K mg "head" sHead ["node"] q.fH q.dH
  N : Fn K mg "node_words" sNodeWords ["node"] q.fN q.dN
  S : Fn K mg "show" sShow ["e"] q.fS q.dS
  T : Fn K mg "show_program" sShowProgram ["program"] q.fT q.dT
  W : Fn K mg "_law_words" sWords ["_law_e"] q.fW q.dW
  L : Fn K mg "_law_lines" sLines ["_law_program_here"] q.fL q.dL
  ks : KS K
  str : mg "str" = none
  lst : mg "list" = none
section
variable {P : Program} {w : World} {K : PySem.W.Frag} {mg : Str → Option Value} {base : Heap} {q : LwF}
theorem scLaw : FnScope ["_law_script", "_law_feed_here", "_law_turn", "_law_one", "_law_due", "_law_again", "_law_found", "_law_program_here"] ["_law_script"] (defScope sLaw) := ⟨rfl, rfl, rfl, by decide +kernel, rfl, by decide +kernel, by decide +kernel⟩
theorem ok_law {f : Addr} {fd : FuncData} (F : Fun K "law" "law" sLaw f fd) (Y : Lw K mg q) : FnOk P w K mg base CX0 24 f fd ["_law_script"] (spLaw K) := by
  have T := Y.P.E.G.X.T
  have KI := Y.P.E.G.X.KI
  have hrange := Y.P.E.G.U.T.range
  have GF : FnOk P w K mg base CX0 1 q.fF q.dF ["_law_script"] (spFeed K) := ok_feed Y.F.F Y.P.E.G.U.T
  have GQ : FnOk P w K mg base CX0 23 q.fQ q.dQ ["_law_feed_here", "_law_room"] spProgram := ok_program Y.Q.F Y.P
  have GR : FnOk P w K mg base CX0 23 q.fR q.dR ["_law_feed_here", "_law_room"] spDrawn := ok_drawn Y.R.F Y.P
  have GS : FnOk P w K mg base CX0 3 q.fS q.dS ["e"] (spShowA 16) := FnOk.ex fun S => ok_show Y.S.F T KI Y.ks Y.str Y.Hd Y.Pa Y.N 16
  have GS11 : FnOk P w K mg base CX0 3 q.fS q.dS ["e"] (spShowA 11) := FnOk.ex fun S => ok_show Y.S.F T KI Y.ks Y.str Y.Hd Y.Pa Y.N 11
  have GT : FnOk P w K mg base CX0 4 q.fT q.dT ["program"] spShowProgram := ok_showprogram Y.T.F T Y.S GS11
  have FP : Fn K mg "_law_parts" sLawParts ["_law_e"] _ _ := ⟨Y.P.E.G.X.P, Y.P.E.G.X.bP, Y.P.E.G.X.mP⟩
  have GW : FnOk P w K mg base CX0 18 q.fW q.dW ["_law_e"] (spWordsA 16) := FnOk.ex fun S => ok_words Y.W T KI Y.str FP 16
  have GW11 : FnOk P w K mg base CX0 13 q.fW q.dW ["_law_e"] (spWordsA 11) := FnOk.ex fun S => ok_words Y.W T KI Y.str FP 11
  have GL : FnOk P w K mg base CX0 14 q.fL q.dL ["_law_program_here"] spLines := ok_lines Y.L.F Y.lst Y.W GW11
  refine F.ok scLaw (fun vs H Q E h => ?_) (fun cdv A outer s H vs Q E hr h => ?_)
  · obtain ⟨a, ns, rfl, _⟩ := h
    rfl
  · obtain ⟨a, ns, rfl, hS, hlen, k⟩ := h
    have hsz : sizeLine = 16777216 := sizeLine_eq
    have hu0 := hr.units0
    have hr1 : Room 1 _ := hr.mono (by decide)
    have hr3 : Room 3 _ := hr.mono (by decide)
    have hr4 : Room 4 _ := hr.mono (by decide)
    have hr14 : Room 14 _ := hr.mono (by decide)
    have hr18 : Room 18 _ := hr.mono (by decide)
    have hr23 : Room 23 _ := hr
    refine' ⟨?tt, ?body, ?fin⟩
    case body =>
      refine' pss_cons ?s1 ?r1
      case s1 => exact ps_set (i := 1) scLaw.nd rfl (Or.inl rfl) (pe_call GF hr1 (by rfl) Y.F.m Y.F.F.kp Y.F.b .nil pass0 (pa_n (pv 0) pa_nil))
      case r1 =>
        refine' pss_cons ?s2 ?r2
        case s2 =>
          refine' ps_for PassesOwn.never rfl (pi_range1 (by rfl) hrange (pa_k pe_int pa_nil)) (pg_name (i := 2) scLaw.nd rfl (Or.inl rfl)) ?blk
          case blk =>
            refine' pss_cut ?c1 ?q1
            case c1 => exact ps_set (i := 3) scLaw.nd rfl (Or.inl rfl) (pe_call GR hr23 (by rfl) Y.R.m Y.R.F.kp Y.R.b .nil pass0 (pa_n (pv 1) (pa_cons (pe_ix ix_list (pe_lst (pa_k pe_int (pa_k pe_int (pa_k pe_int (pa_k pe_int pa_nil))))) (pv 2) (fun _ _ => rfl)) pa_nil)))
            case q1 =>
              refine' pss_cut ?c2 (pss_one ?c3)
              case c2 => exact ps_set (i := 4) scLaw.nd rfl (Or.inl rfl) (pe_bm PySem.F.plainAttrs_str PySem.F.slot_str_join PySem.F.type_str_join (mt_join rfl) pe_str (pa_c (pe_call GW hr18 (by rfl) Y.W.m Y.W.F.kp Y.W.b .nil pass0 (pa_n (pv 3) pa_nil)) pa_nil))
              case c3 =>
                refine' ps_for PassesOwn.never rfl (pi_range1 (by rfl) hrange (pa_k pe_int pa_nil)) (pg_name (i := 5) scLaw.nd rfl (Or.inl rfl)) (pss_cons ?d1 (pss_one ?d2))
                case d1 => exact ps_set (i := 6) scLaw.nd rfl (Or.inl rfl) (pe_call GS hr3 (by rfl) Y.S.m Y.S.F.kp Y.S.b .nil pass0 (pa_n (pv 3) pa_nil))
                case d2 => exact ps_if (pw_or (pt_not (pt_val (pe_callB call_isinst (by rfl) T.isi (by decide +kernel) (pa_n (pv 6) (pa_n (pe_bltn (v := .ty "str") (by rfl) Y.str (by decide +kernel) rfl) pa_nil))))) (pw_or1 (pt_cmpR op_ne (pv 6) (pv 4) (nomark _)))).pt (pss_one (ps_ret pe_bl)) pss_nil
        case r2 =>
          refine' pss_cut ?s3 ?r3
          case s3 => exact ps_set (i := 7) scLaw.nd rfl (Or.inl rfl) (pe_call GQ hr23 (by rfl) Y.Q.m Y.Q.F.kp Y.Q.b .nil pass0 (pa_n (pv 1) (pa_k pe_int pa_nil)))
          case r3 =>
            refine' pss_cut ?s4 ?r4
            case s4 =>
              refine' ps_setComp (i := 4) (N' := ["_law_words_here"]) (src := [none]) ?k1 ?k2 ?k3 ?k4 ?k5 ?k6 ?k7
              case k1 => rfl
              case k2 => exact scLaw.nd
              case k3 => rfl
              case k4 => exact Or.inl rfl
              case k5 => exact compScope_of (defScope sLaw) rfl ["_law_script", "_law_feed_here", "_law_turn", "_law_one", "_law_due", "_law_again", "_law_found", "_law_program_here"] rfl (by decide +kernel)
              case k6 => exact pi_list (pe_call GL hr14 (by rfl) Y.L.m Y.L.F.kp Y.L.b .nil pass0 (pa_n (pv 7) pa_nil))
              case k7 => exact fun cl C ex s0 H0 => ⟨pg_name (i := 0) (nd1 _) rfl (Or.inl rfl), pts_nil, pe_joinK (K := K) rfl pe_str (pa_n (pv 0) pa_nil)⟩
            case r4 =>
              refine' pss_cons ?s5 (pss_one ?s6)
              case s5 =>
                refine' ps_for PassesOwn.never rfl (pi_range1 (by rfl) hrange (pa_k pe_int pa_nil)) (pg_name (i := 5) scLaw.nd rfl (Or.inl rfl)) (pss_cons ?d1 (pss_one ?d2))
                case d1 => exact ps_set (i := 6) scLaw.nd rfl (Or.inl rfl) (pe_call GT hr4 (by rfl) Y.T.m Y.T.F.kp Y.T.b .nil pass0 (pa_n (pv 7) pa_nil))
                case d2 => exact ps_if (pw_or (pt_not (pt_val (pe_callB call_isinst (by rfl) T.isi (by decide +kernel) (pa_n (pv 6) (pa_n (pe_bltn (v := .ty "tuple") (by rfl) T.tup (by decide +kernel) rfl) pa_nil))))) (pw_or1 (pt_cmpR (op_ne_list hu0) (pe_callTy call_list_of (by rfl) Y.lst (by decide +kernel) (pa_n (pv 6) pa_nil)) (pv 4) (nomark _)))).pt (pss_one (ps_ret pe_bl)) pss_nil
              case s6 => exact ps_ret pe_bl
    case fin =>
      refine ⟨_, rfl, a, ns, rfl, hS, hlen, fun d l H1 F1 _ s1 => ?_⟩
      refine ⟨4, rfl, by decide, by decide, for_range (n := 4) (fun j σ H' => ∃ (n' : Nat) (o2 o3 o4 o5 o6 : Option V), σ = [some (.ref a), some (.ref d), o2, o3, o4, o5, o6, none] ∧ n' ≤ 2500000 * j ∧ Feed H' d l ns n')
        ⟨0, none, none, none, none, none, rfl, Nat.zero_le _, F1⟩ ?_ ?_⟩
      · rintro j σ H2 hj ⟨n2, o2, o3, o4, o5, o6, rfl, hn2, F2⟩
        refine ⟨fun σ' H' => ∃ (v : V) (S : List Str) (t : Th) (n' : Nat), σ' = [some (.ref a), some (.ref d), some (.int (0 + (j : Int))), some v, o4, o5, o6, none] ∧ IsTh H' v t ∧ PfT S 16 t ∧ cnt t ≤ 100 ∧ n' ≤ 2500000 * (j + 1) ∧ Feed H' d l ns n', ?_, ?_⟩
        · refine ⟨_, rfl, (by show 4 ≤ sizeLine; decide), fun c hc => ?_⟩
          have sc := same_upd (o := .lst [.int 4, .int 12, .int 40, .int 25]) hc
          obtain ⟨u, hu', hat⟩ := at_in (xs := [V.int 4, .int 12, .int 40, .int 25]) (i := 0 + (j : Int)) (by omega) (Int.lt_of_lt_of_le (b := 4) (by omega) (by decide))
          obtain ⟨rm, rfl, hm0, hm5⟩ : ∃ rm : Int, u = .int rm ∧ 0 ≤ rm ∧ rm ≤ 40 := by
            simp only [List.mem_cons, List.not_mem_nil, or_false] at hu'
            rcases hu' with rfl | rfl | rfl | rfl <;> exact ⟨_, rfl, by decide, by decide⟩
          refine ⟨_, rfl, c, _, _, .int rm, rfl, rfl, SqL.of upd_same, hat, d, l, ns, n2, rm, rfl, F2.same sc, by omega, hm0, by omega, fun v S t n3 H3 hv hpf hcn hn3 F3 _ => ?_⟩
          exact ⟨v, S, t, n3, rfl, hv, hpf, by omega, by omega, F3⟩
        rintro σ3 H3 ⟨v, S, t, n3, rfl, hv, hpf, hcn, hn3, F3⟩
        obtain ⟨hwl, hw16⟩ := wd_len 16 hpf
        refine ⟨fun σ' H' => σ' = [some (.ref a), some (.ref d), some (.int (0 + (j : Int))), some v, some (.str (txt t)), o5, o6, none] ∧ Same H3 H', ?_, ?_⟩
        · refine ⟨rfl, _, rfl, S, v, t, rfl, hv, hpf, by omega, fun p H4 s4 _ hp => ?_⟩
          exact ⟨" ", p, wd t, rfl, rfl, .inl (SqL.of hp), join_ok hw16 (by decide) (by omega), rfl, s4⟩
        rintro σ4 H4 ⟨rfl, s4⟩
        refine ⟨2, rfl, by decide, by decide, for_range (n := 2) (fun i σ H' => ∃ (o5 o6 : Option V), σ = [some (.ref a), some (.ref d), some (.int (0 + (j : Int))), some v, some (.str (txt t)), o5, o6, none] ∧ Same H4 H')
          ⟨o5, o6, rfl, Same.refl _⟩ ?_ ?_⟩
        · rintro i σ H5 hi ⟨p5, p6, rfl, s5⟩
          refine ⟨_, rfl, S, v, t, rfl, IsTh.kp (Kp.of (s4.trans s5)) hv, hpf, by omega, fun H6 s6 => ?_⟩
          refine ⟨_, rfl, _, _, _, _, rfl, .str _, Y.ks.ss, _, rfl, iteF ?_⟩
          refine ⟨_, rfl, _, rfl, rfl, _, rfl, ite2 (fun g => ?_) (fun g => ⟨_, _, rfl, s5.trans s6⟩)⟩
          simp at g
        · rintro σ H5 ⟨p5, p6, rfl, s5⟩
          exact ⟨n3, _, _, _, _, _, rfl, hn3, (F3.same s4).same s5⟩
      · rintro σ H2 ⟨n2, o2, o3, o4, o5, o6, rfl, hn2, F2⟩
        refine ⟨fun σ' H' => ∃ (v : V) (fs : List Fd) (m : Th), σ' = [some (.ref a), some (.ref d), o2, o3, o4, o5, o6, some v] ∧ IsTh H' v (prT fs m) ∧ FOk fs ∧ fs.length ≤ 3 ∧ PfT (nmS fs) 11 m ∧ cnt m ≤ 1000, ?_, ?_⟩
        · refine ⟨_, rfl, d, l, ns, n2, 20, rfl, F2, by omega, by decide, by decide, fun v fs m n3 H3 hv hfo hfl hpm hcm hn3 F3 _ => ?_⟩
          exact ⟨v, fs, m, rfl, hv, hfo, hfl, hpm, by omega⟩
        rintro σ3 H3 ⟨v, fs, m, rfl, hv, hfo, hfl, hpm, hcm⟩
        have hlen' : (linesW fs m).length = fs.length + 1 := by unfold linesW; rw [List.length_append, List.length_map]; rfl
        have hwok : ∀ (j : Nat) (ws : List Str), (linesW fs m)[j]? = some ws → (∀ x ∈ ws, x.length ≤ 16) ∧ ws.length ≤ 5000 ∧ (linesS fs m)[j]? = some (Txt.join " " ws) := by
          intro j ws hj
          unfold linesW at hj
          unfold linesS
          by_cases hjl : j < fs.length
          · rw [List.getElem?_append_left (by rw [List.length_map]; exact hjl), List.getElem?_map, List.getElem?_eq_getElem hjl] at hj
            have e := Option.some.inj hj
            have ok := hfo j fs[j] (List.getElem?_eq_getElem hjl)
            obtain ⟨h1, h2⟩ := wd_len 4 ok.b
            have h3 := ok.c
            have h4 := ok.l
            rw [← e]
            refine ⟨fun x hx => ?_, ?_, ?_⟩
            · unfold lnW at hx
              rcases List.mem_append.mp hx with hx | hx
              · rcases List.mem_append.mp hx with hx | hx
                · have : Nm x := by
                    rcases List.mem_append.mp hx with hx | hx
                    · rw [List.mem_singleton] at hx; rw [hx]; exact ok.n
                    · exact ok.p x hx
                  have := this.1.2
                  omega
                · rw [List.mem_singleton] at hx; rw [hx]; decide +kernel
              · exact h2 x hx
            · unfold lnW
              rw [List.length_append, List.length_append, List.length_append]
              show 1 + _ + 1 + _ ≤ 5000
              omega
            · rw [List.getElem?_append_left (by rw [List.length_map]; exact hjl), List.getElem?_map, List.getElem?_eq_getElem hjl, ln_eq ok]
              rfl
          · have hj2 : j = fs.length := by
              have := (List.getElem?_eq_some_iff.mp hj).1
              rw [List.length_append, List.length_map, List.length_singleton] at this
              omega
            subst hj2
            rw [List.getElem?_append_right (by rw [List.length_map]; omega), List.length_map, Nat.sub_self] at hj
            have e := Option.some.inj hj
            obtain ⟨h1, h2⟩ := wd_len 11 hpm
            rw [← e]
            refine ⟨h2, by omega, ?_⟩
            rw [List.getElem?_append_right (by rw [List.length_map]; omega), List.length_map, Nat.sub_self]
            rfl
        have hlS : (linesS fs m).length = fs.length + 1 := by unfold linesS; rw [List.length_append, List.length_map]; rfl
        refine ⟨fun σ' H' => ∃ (du : Addr), σ' = [some (.ref a), some (.ref d), o2, o3, some (.ref du), o5, o6, some v] ∧ Same H3 H' ∧ H' du = some (.lst ((linesS fs m).map V.str)), ?_, ?_⟩
        · refine ⟨_, rfl, v, fs, m, rfl, hv, hfo, hfl, hpm, hcm, fun p ys H4 s4 hp hys => ?_⟩
          have hyl := hys.1
          refine ⟨p, rfl, ⟨_, SqL.of hp⟩, comp_list (K := K) (a := p) (xs := ys) (fun i zs σc H' => ∃ (o : Option V), σc = [o] ∧ H' = H4 ∧ zs = ((linesS fs m).take i).map V.str)
            ⟨none, rfl, rfl, rfl⟩ (fun i zs σc H' ⟨_, _, e, _⟩ => by rw [e]; exact SqL.of hp) ?_ ?_⟩
          · rintro i x zs σc H' hx hi ⟨o, rfl, rfl, rfl⟩
            obtain ⟨c, ws, rfl, hws, hc⟩ := hys.2 i x hx
            obtain ⟨h1, h2, h3⟩ := hwok i ws hws
            refine ⟨by rw [List.length_map, List.length_take]; omega, rfl, _, rfl, " ", c, ws, rfl, rfl, .inl (SqL.of hc), join_ok h1 (by decide) (by omega), nx hi ⟨_, rfl, rfl, ?_⟩⟩
            rw [List.take_add_one, h3, List.map_append]
            rfl
          · rintro zs σc H' ⟨o, rfl, rfl, rfl⟩ l' hl'
            rw [List.take_of_length_le (by omega)]
            exact ⟨l', rfl, s4.trans (same_upd hl'), upd_same⟩
        rintro σ4 H4 ⟨du, rfl, s4, hdu⟩
        refine ⟨2, rfl, by decide, by decide, for_range (n := 2) (fun i σ H' => ∃ (o5 o6 : Option V), σ = [some (.ref a), some (.ref d), o2, o3, some (.ref du), o5, o6, some v] ∧ Same H4 H')
          ⟨o5, o6, rfl, Same.refl _⟩ ?_ ?_⟩
        · rintro i σ H5 hi ⟨p5, p6, rfl, s5⟩
          have hv5 := IsTh.kp (Kp.of (s4.trans s5)) hv
          refine ⟨_, rfl, v, fs, m, rfl, hv5, hfo, hfl, hpm, hcm, fun p H6 s6 hp => ?_⟩
          refine ⟨_, rfl, _, _, _, _, rfl, .tup hp, KI.tup hv5, _, rfl, iteF ?_⟩
          refine ⟨_, rfl, p, _, rfl, .inr (SqT.of hp), fun l1 hl1 => ?_⟩
          have q1 := same_upd (o := .lst ((linesS fs m).map V.str)) hl1
          refine ⟨_, rfl, l1, du, _, _, rfl, rfl, SqL.of upd_same, SqL.of (q1 _ _ (s6 _ _ (s5 _ _ hdu))), strs_flat' _, strs_flat' _, _, rfl, ite2 (fun g => ?_) (fun g => ⟨_, _, rfl, (s5.trans s6).trans q1⟩)⟩
          rw [eqVs_strs] at g
          cases g
        · rintro σ H5 ⟨p5, p6, rfl, s5⟩
          exact k H5
end
end K54

set_option Elab.async false
set_option linter.all false
set_option maxRecDepth 100000
set_option maxHeartbeats 4000000
namespace K54
open PySem L2
theorem us_len1 {P : List Value → Prop} (h : ∀ a, P [a]) : ∀ us : List Value, us.length = 1 → P us
  | [a], _ => h a
theorem us_len2 {P : List Value → Prop} (h : ∀ a b, P [a, b]) : ∀ us : List Value, us.length = 2 → P us
  | [a, b], _ => h a b
theorem us_len3 {P : List Value → Prop} (h : ∀ a b c, P [a, b, c]) : ∀ us : List Value, us.length = 3 → P us
  | [a, b, c], _ => h a b c
theorem us_len5 {P : List Value → Prop} (h : ∀ a b c d e, P [a, b, c, d, e]) : ∀ us : List Value, us.length = 5 → P us
  | [a, b, c, d, e], _ => h a b c d e
theorem us_len6 {P : List Value → Prop} (h : ∀ a b c d e f, P [a, b, c, d, e, f]) : ∀ us : List Value, us.length = 6 → P us
  | [a, b, c, d, e, f], _ => h a b c d e f
theorem kits_of {K : PySem.W.Frag} (kt_NoneType_int : PySem.W.kitOne K (.type "NoneType") (.type "int") = some false) (kt_bool_int : PySem.W.kitOne K (.type "bool") (.type "int") = some true) (kt_int_int : PySem.W.kitOne K (.type "int") (.type "int") = some true) (kt_str_int : PySem.W.kitOne K (.type "str") (.type "int") = some false) (kt_tuple_int : PySem.W.kitOne K (.type "tuple") (.type "int") = some false) (kt_list_int : PySem.W.kitOne K (.type "list") (.type "int") = some false) (kt_NoneType_bool : PySem.W.kitOne K (.type "NoneType") (.type "bool") = some false) (kt_bool_bool : PySem.W.kitOne K (.type "bool") (.type "bool") = some true) (kt_int_bool : PySem.W.kitOne K (.type "int") (.type "bool") = some false) (kt_str_bool : PySem.W.kitOne K (.type "str") (.type "bool") = some false) (kt_tuple_bool : PySem.W.kitOne K (.type "tuple") (.type "bool") = some false) (kt_list_bool : PySem.W.kitOne K (.type "list") (.type "bool") = some false) (kt_NoneType_tuple : PySem.W.kitOne K (.type "NoneType") (.type "tuple") = some false) (kt_bool_tuple : PySem.W.kitOne K (.type "bool") (.type "tuple") = some false) (kt_int_tuple : PySem.W.kitOne K (.type "int") (.type "tuple") = some false) (kt_str_tuple : PySem.W.kitOne K (.type "str") (.type "tuple") = some false) (kt_tuple_tuple : PySem.W.kitOne K (.type "tuple") (.type "tuple") = some true) (kt_list_tuple : PySem.W.kitOne K (.type "list") (.type "tuple") = some false) : Kits K := by
  refine ⟨?i, ?b, ?t⟩
  case i =>
    intro H v t h
    cases h with
    | «at» f =>
      cases v with
      | non => exact kt_NoneType_int
      | bl b => exact kt_bool_int
      | int i => exact kt_int_int
      | str x => exact kt_str_int
      | _ => exact absurd (show false = true from f) Bool.false_ne_true
    | tup e r => exact kt_tuple_int
    | lst e r => exact kt_list_int
  case b =>
    intro H v t h
    cases h with
    | «at» f =>
      cases v with
      | non => exact kt_NoneType_bool
      | bl b => exact kt_bool_bool
      | int i => exact kt_int_bool
      | str x => exact kt_str_bool
      | _ => exact absurd (show false = true from f) Bool.false_ne_true
    | tup e r => exact kt_tuple_bool
    | lst e r => exact kt_list_bool
  case t =>
    intro H v t h
    cases h with
    | «at» f =>
      cases v with
      | non => exact kt_NoneType_tuple
      | bl b => exact kt_bool_tuple
      | int i => exact kt_int_tuple
      | str x => exact kt_str_tuple
      | _ => exact absurd (show false = true from f) Bool.false_ne_true
    | tup e r => exact kt_tuple_tuple
    | lst e r => exact kt_list_tuple
theorem all_mk {l : PySem.W.OpenLaw} {w : World} {K : PySem.W.Frag} {h : Heap} {mg : Str → Option Value} {fa f0 f1 f2 f3 f4 f5 f6 f7 f8 f9 f10 f11 f12 f13 f14 f15 f16 f17 f18 f19 f20 f21 f22 f23 f24 f25 f26 f27 f28 f29 : Addr} (X : K.In h) (G : h.Ns mainGlobals mg) (hfa : mg "law" = some (.ref fa))
    {od0 an0 od1 an1 od2 an2 od3 an3 od4 an4 od5 an5 od6 an6 od7 an7 od8 an8 od9 an9 od10 an10 od11 an11 od12 an12 od13 an13 od14 an14 od15 an15 od16 an16 od17 an17 od18 an18 od19 an19 od20 an20 od21 an21 od22 an22 od23 an23 od24 an24 od25 an25 od26 an26 od27 an27 od28 an28 od29 an29 : Option Addr} {sl0 sl1 sl2 sl3 sl4 sl5 sl6 sl7 sl8 sl9 sl10 sl11 sl12 sl13 sl14 sl15 sl16 sl17 sl18 sl19 sl20 sl21 sl22 sl23 sl24 sl25 sl26 sl27 sl28 sl29 : Array (Option Value)} {oc0 kV0 dc0 pm0 cd0 ct0 oc1 kV1 dc1 pm1 cd1 ct1 oc2 kV2 dc2 pm2 cd2 ct2 oc3 kV3 dc3 pm3 cd3 ct3 oc4 kV4 dc4 pm4 cd4 ct4 oc5 kV5 dc5 pm5 cd5 ct5 oc6 kV6 dc6 pm6 cd6 ct6 oc7 kV7 dc7 pm7 cd7 ct7 oc8 kV8 dc8 pm8 cd8 ct8 oc9 kV9 dc9 pm9 cd9 ct9 oc10 kV10 dc10 pm10 cd10 ct10 oc11 kV11 dc11 pm11 cd11 ct11 oc12 kV12 dc12 pm12 cd12 ct12 oc13 kV13 dc13 pm13 cd13 ct13 oc14 kV14 dc14 pm14 cd14 ct14 oc15 kV15 dc15 pm15 cd15 ct15 oc16 kV16 dc16 pm16 cd16 ct16 oc17 kV17 dc17 pm17 cd17 ct17 oc18 kV18 dc18 pm18 cd18 ct18 oc19 kV19 dc19 pm19 cd19 ct19 oc20 kV20 dc20 pm20 cd20 ct20 oc21 kV21 dc21 pm21 cd21 ct21 oc22 kV22 dc22 pm22 cd22 ct22 oc23 kV23 dc23 pm23 cd23 ct23 oc24 kV24 dc24 pm24 cd24 ct24 oc25 kV25 dc25 pm25 cd25 ct25 oc26 kV26 dc26 pm26 cd26 ct26 oc27 kV27 dc27 pm27 cd27 ct27 oc28 kV28 dc28 pm28 cd28 ct28 oc29 kV29 dc29 pm29 cd29 ct29 : Value}
    (a0 : PySem.W.nsIn K mainGlobals "head" = some (some (.ref f0))) (l0 : K.lookup f0 = some ⟨oc0, od0, .func (PySem.W.fnOf "head" "head" (defArgs sHead) (defBody sHead) (defScope sHead) .none kV0 dc0 pm0 an0 cd0 ct0), sl0⟩) (c0 : PySem.W.codeIn K cd0 "head" = true) (k0 : PySem.W.keepIn K (.ref f0) = true)
    (a1 : PySem.W.nsIn K mainGlobals "parts" = some (some (.ref f1))) (l1 : K.lookup f1 = some ⟨oc1, od1, .func (PySem.W.fnOf "parts" "parts" (defArgs sParts) (defBody sParts) (defScope sParts) .none kV1 dc1 pm1 an1 cd1 ct1), sl1⟩) (c1 : PySem.W.codeIn K cd1 "parts" = true) (k1 : PySem.W.keepIn K (.ref f1) = true)
    (a2 : PySem.W.nsIn K mainGlobals "node_words" = some (some (.ref f2))) (l2 : K.lookup f2 = some ⟨oc2, od2, .func (PySem.W.fnOf "node_words" "node_words" (defArgs sNodeWords) (defBody sNodeWords) (defScope sNodeWords) .none kV2 dc2 pm2 an2 cd2 ct2), sl2⟩) (c2 : PySem.W.codeIn K cd2 "node_words" = true) (k2 : PySem.W.keepIn K (.ref f2) = true)
    (a3 : PySem.W.nsIn K mainGlobals "show" = some (some (.ref f3))) (l3 : K.lookup f3 = some ⟨oc3, od3, .func (PySem.W.fnOf "show" "show" (defArgs sShow) (defBody sShow) (defScope sShow) .none kV3 dc3 pm3 an3 cd3 ct3), sl3⟩) (c3 : PySem.W.codeIn K cd3 "show" = true) (k3 : PySem.W.keepIn K (.ref f3) = true)
    (a4 : PySem.W.nsIn K mainGlobals "show_program" = some (some (.ref f4))) (l4 : K.lookup f4 = some ⟨oc4, od4, .func (PySem.W.fnOf "show_program" "show_program" (defArgs sShowProgram) (defBody sShowProgram) (defScope sShowProgram) .none kV4 dc4 pm4 an4 cd4 ct4), sl4⟩) (c4 : PySem.W.codeIn K cd4 "show_program" = true) (k4 : PySem.W.keepIn K (.ref f4) = true)
    (a5 : PySem.W.nsIn K mainGlobals "_law_feed" = some (some (.ref f5))) (l5 : K.lookup f5 = some ⟨oc5, od5, .func (PySem.W.fnOf "_law_feed" "_law_feed" (defArgs sFeed) (defBody sFeed) (defScope sFeed) .none kV5 dc5 pm5 an5 cd5 ct5), sl5⟩) (c5 : PySem.W.codeIn K cd5 "_law_feed" = true) (k5 : PySem.W.keepIn K (.ref f5) = true)
    (a6 : PySem.W.nsIn K mainGlobals "_law_draw" = some (some (.ref f6))) (l6 : K.lookup f6 = some ⟨oc6, od6, .func (PySem.W.fnOf "_law_draw" "_law_draw" (defArgs sDraw) (defBody sDraw) (defScope sDraw) .none kV6 dc6 pm6 an6 cd6 ct6), sl6⟩) (c6 : PySem.W.codeIn K cd6 "_law_draw" = true) (k6 : PySem.W.keepIn K (.ref f6) = true)
    (a7 : PySem.W.nsIn K mainGlobals "_law_value" = some (some (.ref f7))) (l7 : K.lookup f7 = some ⟨oc7, od7, .func (PySem.W.fnOf "_law_value" "_law_value" (defArgs sLawValue) (defBody sLawValue) (defScope sLawValue) .none kV7 dc7 pm7 an7 cd7 ct7), sl7⟩) (c7 : PySem.W.codeIn K cd7 "_law_value" = true) (k7 : PySem.W.keepIn K (.ref f7) = true)
    (a8 : PySem.W.nsIn K mainGlobals "_law_spelled" = some (some (.ref f8))) (l8 : K.lookup f8 = some ⟨oc8, od8, .func (PySem.W.fnOf "_law_spelled" "_law_spelled" (defArgs sSpelled) (defBody sSpelled) (defScope sSpelled) .none kV8 dc8 pm8 an8 cd8 ct8), sl8⟩) (c8 : PySem.W.codeIn K cd8 "_law_spelled" = true) (k8 : PySem.W.keepIn K (.ref f8) = true)
    (a9 : PySem.W.nsIn K mainGlobals "_law_name" = some (some (.ref f9))) (l9 : K.lookup f9 = some ⟨oc9, od9, .func (PySem.W.fnOf "_law_name" "_law_name" (defArgs sLawName) (defBody sLawName) (defScope sLawName) .none kV9 dc9 pm9 an9 cd9 ct9), sl9⟩) (c9 : PySem.W.codeIn K cd9 "_law_name" = true) (k9 : PySem.W.keepIn K (.ref f9) = true)
    (a10 : PySem.W.nsIn K mainGlobals "_law_names" = some (some (.ref f10))) (l10 : K.lookup f10 = some ⟨oc10, od10, .func (PySem.W.fnOf "_law_names" "_law_names" (defArgs sNames) (defBody sNames) (defScope sNames) .none kV10 dc10 pm10 an10 cd10 ct10), sl10⟩) (c10 : PySem.W.codeIn K cd10 "_law_names" = true) (k10 : PySem.W.keepIn K (.ref f10) = true)
    (a11 : PySem.W.nsIn K mainGlobals "_law_parts" = some (some (.ref f11))) (l11 : K.lookup f11 = some ⟨oc11, od11, .func (PySem.W.fnOf "_law_parts" "_law_parts" (defArgs sLawParts) (defBody sLawParts) (defScope sLawParts) .none kV11 dc11 pm11 an11 cd11 ct11), sl11⟩) (c11 : PySem.W.codeIn K cd11 "_law_parts" = true) (k11 : PySem.W.keepIn K (.ref f11) = true)
    (a12 : PySem.W.nsIn K mainGlobals "_law_with" = some (some (.ref f12))) (l12 : K.lookup f12 = some ⟨oc12, od12, .func (PySem.W.fnOf "_law_with" "_law_with" (defArgs sWith) (defBody sWith) (defScope sWith) .none kV12 dc12 pm12 an12 cd12 ct12), sl12⟩) (c12 : PySem.W.codeIn K cd12 "_law_with" = true) (k12 : PySem.W.keepIn K (.ref f12) = true)
    (a13 : PySem.W.nsIn K mainGlobals "_law_nodes" = some (some (.ref f13))) (l13 : K.lookup f13 = some ⟨oc13, od13, .func (PySem.W.fnOf "_law_nodes" "_law_nodes" (defArgs sNodes) (defBody sNodes) (defScope sNodes) .none kV13 dc13 pm13 an13 cd13 ct13), sl13⟩) (c13 : PySem.W.codeIn K cd13 "_law_nodes" = true) (k13 : PySem.W.keepIn K (.ref f13) = true)
    (a14 : PySem.W.nsIn K mainGlobals "_law_work" = some (some (.ref f14))) (l14 : K.lookup f14 = some ⟨oc14, od14, .func (PySem.W.fnOf "_law_work" "_law_work" (defArgs sLawWork) (defBody sLawWork) (defScope sLawWork) .none kV14 dc14 pm14 an14 cd14 ct14), sl14⟩) (c14 : PySem.W.codeIn K cd14 "_law_work" = true) (k14 : PySem.W.keepIn K (.ref f14) = true)
    (a15 : PySem.W.nsIn K mainGlobals "_law_right" = some (some (.ref f15))) (l15 : K.lookup f15 = some ⟨oc15, od15, .func (PySem.W.fnOf "_law_right" "_law_right" (defArgs sRight) (defBody sRight) (defScope sRight) .none kV15 dc15 pm15 an15 cd15 ct15), sl15⟩) (c15 : PySem.W.codeIn K cd15 "_law_right" = true) (k15 : PySem.W.keepIn K (.ref f15) = true)
    (a16 : PySem.W.nsIn K mainGlobals "_law_leaf" = some (some (.ref f16))) (l16 : K.lookup f16 = some ⟨oc16, od16, .func (PySem.W.fnOf "_law_leaf" "_law_leaf" (defArgs sLeaf) (defBody sLeaf) (defScope sLeaf) .none kV16 dc16 pm16 an16 cd16 ct16), sl16⟩) (c16 : PySem.W.codeIn K cd16 "_law_leaf" = true) (k16 : PySem.W.keepIn K (.ref f16) = true)
    (a17 : PySem.W.nsIn K mainGlobals "_law_turned" = some (some (.ref f17))) (l17 : K.lookup f17 = some ⟨oc17, od17, .func (PySem.W.fnOf "_law_turned" "_law_turned" (defArgs sTurned) (defBody sTurned) (defScope sTurned) .none kV17 dc17 pm17 an17 cd17 ct17), sl17⟩) (c17 : PySem.W.codeIn K cd17 "_law_turned" = true) (k17 : PySem.W.keepIn K (.ref f17) = true)
    (a18 : PySem.W.nsIn K mainGlobals "_law_spoilt" = some (some (.ref f18))) (l18 : K.lookup f18 = some ⟨oc18, od18, .func (PySem.W.fnOf "_law_spoilt" "_law_spoilt" (defArgs sSpoilt) (defBody sSpoilt) (defScope sSpoilt) .none kV18 dc18 pm18 an18 cd18 ct18), sl18⟩) (c18 : PySem.W.codeIn K cd18 "_law_spoilt" = true) (k18 : PySem.W.keepIn K (.ref f18) = true)
    (a19 : PySem.W.nsIn K mainGlobals "_law_copied" = some (some (.ref f19))) (l19 : K.lookup f19 = some ⟨oc19, od19, .func (PySem.W.fnOf "_law_copied" "_law_copied" (defArgs sCopied) (defBody sCopied) (defScope sCopied) .none kV19 dc19 pm19 an19 cd19 ct19), sl19⟩) (c19 : PySem.W.codeIn K cd19 "_law_copied" = true) (k19 : PySem.W.keepIn K (.ref f19) = true)
    (a20 : PySem.W.nsIn K mainGlobals "_law_bound" = some (some (.ref f20))) (l20 : K.lookup f20 = some ⟨oc20, od20, .func (PySem.W.fnOf "_law_bound" "_law_bound" (defArgs sBound) (defBody sBound) (defScope sBound) .none kV20 dc20 pm20 an20 cd20 ct20), sl20⟩) (c20 : PySem.W.codeIn K cd20 "_law_bound" = true) (k20 : PySem.W.keepIn K (.ref f20) = true)
    (a21 : PySem.W.nsIn K mainGlobals "_law_called" = some (some (.ref f21))) (l21 : K.lookup f21 = some ⟨oc21, od21, .func (PySem.W.fnOf "_law_called" "_law_called" (defArgs sCalled) (defBody sCalled) (defScope sCalled) .none kV21 dc21 pm21 an21 cd21 ct21), sl21⟩) (c21 : PySem.W.codeIn K cd21 "_law_called" = true) (k21 : PySem.W.keepIn K (.ref f21) = true)
    (a22 : PySem.W.nsIn K mainGlobals "_law_expr" = some (some (.ref f22))) (l22 : K.lookup f22 = some ⟨oc22, od22, .func (PySem.W.fnOf "_law_expr" "_law_expr" (defArgs sExpr) (defBody sExpr) (defScope sExpr) .none kV22 dc22 pm22 an22 cd22 ct22), sl22⟩) (c22 : PySem.W.codeIn K cd22 "_law_expr" = true) (k22 : PySem.W.keepIn K (.ref f22) = true)
    (a23 : PySem.W.nsIn K mainGlobals "_law_world" = some (some (.ref f23))) (l23 : K.lookup f23 = some ⟨oc23, od23, .func (PySem.W.fnOf "_law_world" "_law_world" (defArgs sWorld) (defBody sWorld) (defScope sWorld) .none kV23 dc23 pm23 an23 cd23 ct23), sl23⟩) (c23 : PySem.W.codeIn K cd23 "_law_world" = true) (k23 : PySem.W.keepIn K (.ref f23) = true)
    (a24 : PySem.W.nsIn K mainGlobals "_law_seeds" = some (some (.ref f24))) (l24 : K.lookup f24 = some ⟨oc24, od24, .func (PySem.W.fnOf "_law_seeds" "_law_seeds" (defArgs sSeeds) (defBody sSeeds) (defScope sSeeds) .none kV24 dc24 pm24 an24 cd24 ct24), sl24⟩) (c24 : PySem.W.codeIn K cd24 "_law_seeds" = true) (k24 : PySem.W.keepIn K (.ref f24) = true)
    (a25 : PySem.W.nsIn K mainGlobals "_law_program" = some (some (.ref f25))) (l25 : K.lookup f25 = some ⟨oc25, od25, .func (PySem.W.fnOf "_law_program" "_law_program" (defArgs sProgram) (defBody sProgram) (defScope sProgram) .none kV25 dc25 pm25 an25 cd25 ct25), sl25⟩) (c25 : PySem.W.codeIn K cd25 "_law_program" = true) (k25 : PySem.W.keepIn K (.ref f25) = true)
    (a26 : PySem.W.nsIn K mainGlobals "_law_drawn" = some (some (.ref f26))) (l26 : K.lookup f26 = some ⟨oc26, od26, .func (PySem.W.fnOf "_law_drawn" "_law_drawn" (defArgs sDrawn) (defBody sDrawn) (defScope sDrawn) .none kV26 dc26 pm26 an26 cd26 ct26), sl26⟩) (c26 : PySem.W.codeIn K cd26 "_law_drawn" = true) (k26 : PySem.W.keepIn K (.ref f26) = true)
    (a27 : PySem.W.nsIn K mainGlobals "_law_words" = some (some (.ref f27))) (l27 : K.lookup f27 = some ⟨oc27, od27, .func (PySem.W.fnOf "_law_words" "_law_words" (defArgs sWords) (defBody sWords) (defScope sWords) .none kV27 dc27 pm27 an27 cd27 ct27), sl27⟩) (c27 : PySem.W.codeIn K cd27 "_law_words" = true) (k27 : PySem.W.keepIn K (.ref f27) = true)
    (a28 : PySem.W.nsIn K mainGlobals "_law_lines" = some (some (.ref f28))) (l28 : K.lookup f28 = some ⟨oc28, od28, .func (PySem.W.fnOf "_law_lines" "_law_lines" (defArgs sLines) (defBody sLines) (defScope sLines) .none kV28 dc28 pm28 an28 cd28 ct28), sl28⟩) (c28 : PySem.W.codeIn K cd28 "_law_lines" = true) (k28 : PySem.W.keepIn K (.ref f28) = true)
    (a29 : PySem.W.nsIn K mainGlobals "law" = some (some (.ref f29))) (l29 : K.lookup f29 = some ⟨oc29, od29, .func (PySem.W.fnOf "law" "law" (defArgs sLaw) (defBody sLaw) (defScope sLaw) .none kV29 dc29 pm29 an29 cd29 ct29), sl29⟩) (c29 : PySem.W.codeIn K cd29 "law" = true) (k29 : PySem.W.keepIn K (.ref f29) = true)
    (q_isinstance : PySem.W.nsIn K mainGlobals "isinstance" = some none)
    (q_int : PySem.W.nsIn K mainGlobals "int" = some none)
    (q_bool : PySem.W.nsIn K mainGlobals "bool" = some none)
    (q_tuple : PySem.W.nsIn K mainGlobals "tuple" = some none)
    (q_len : PySem.W.nsIn K mainGlobals "len" = some none)
    (q_list : PySem.W.nsIn K mainGlobals "list" = some none)
    (q_range : PySem.W.nsIn K mainGlobals "range" = some none)
    (q_sum : PySem.W.nsIn K mainGlobals "sum" = some none)
    (q_all : PySem.W.nsIn K mainGlobals "all" = some none)
    (q_dict : PySem.W.nsIn K mainGlobals "dict" = some none)
    (q_str : PySem.W.nsIn K mainGlobals "str" = some none)
    (kt_NoneType_int : PySem.W.kitOne K (.type "NoneType") (.type "int") = some false)
    (kt_bool_int : PySem.W.kitOne K (.type "bool") (.type "int") = some true)
    (kt_int_int : PySem.W.kitOne K (.type "int") (.type "int") = some true)
    (kt_str_int : PySem.W.kitOne K (.type "str") (.type "int") = some false)
    (kt_tuple_int : PySem.W.kitOne K (.type "tuple") (.type "int") = some false)
    (kt_list_int : PySem.W.kitOne K (.type "list") (.type "int") = some false)
    (kt_NoneType_bool : PySem.W.kitOne K (.type "NoneType") (.type "bool") = some false)
    (kt_bool_bool : PySem.W.kitOne K (.type "bool") (.type "bool") = some true)
    (kt_int_bool : PySem.W.kitOne K (.type "int") (.type "bool") = some false)
    (kt_str_bool : PySem.W.kitOne K (.type "str") (.type "bool") = some false)
    (kt_tuple_bool : PySem.W.kitOne K (.type "tuple") (.type "bool") = some false)
    (kt_list_bool : PySem.W.kitOne K (.type "list") (.type "bool") = some false)
    (kt_NoneType_tuple : PySem.W.kitOne K (.type "NoneType") (.type "tuple") = some false)
    (kt_bool_tuple : PySem.W.kitOne K (.type "bool") (.type "tuple") = some false)
    (kt_int_tuple : PySem.W.kitOne K (.type "int") (.type "tuple") = some false)
    (kt_str_tuple : PySem.W.kitOne K (.type "str") (.type "tuple") = some false)
    (kt_tuple_tuple : PySem.W.kitOne K (.type "tuple") (.type "tuple") = some true)
    (kt_list_tuple : PySem.W.kitOne K (.type "list") (.type "tuple") = some false)
    (kt_tuple_str : PySem.W.kitOne K (.type "tuple") (.type "str") = some false)
    (kt_str_str : PySem.W.kitOne K (.type "str") (.type "str") = some true) :
    ∃ fd : FuncData, (∀ (s : Shared) (v : Value), BindsTo s fd ⟨[v], []⟩ [("_law_script", v)]) ∧ ∀ base : Heap, K.In base → base.Ns mainGlobals mg → FnOk l.prog w K mg base CX0 24 fa fd ["_law_script"] (spLaw K) := by
  have e := hfa.symm.trans (PySem.W.mg_of X G a29)
  cases e
  have F0 := fun_mk (st := sHead) l0 c0 k0
  have b0 := F0.binds (ps := ["node"]) fun _ _ _ _ _ _ => us_len1 fun _ => rfl
  have m0 := PySem.W.mg_of X G a0
  have F1 := fun_mk (st := sParts) l1 c1 k1
  have b1 := F1.binds (ps := ["e"]) fun _ _ _ _ _ _ => us_len1 fun _ => rfl
  have m1 := PySem.W.mg_of X G a1
  have F2 := fun_mk (st := sNodeWords) l2 c2 k2
  have b2 := F2.binds (ps := ["node"]) fun _ _ _ _ _ _ => us_len1 fun _ => rfl
  have m2 := PySem.W.mg_of X G a2
  have F3 := fun_mk (st := sShow) l3 c3 k3
  have b3 := F3.binds (ps := ["e"]) fun _ _ _ _ _ _ => us_len1 fun _ => rfl
  have m3 := PySem.W.mg_of X G a3
  have F4 := fun_mk (st := sShowProgram) l4 c4 k4
  have b4 := F4.binds (ps := ["program"]) fun _ _ _ _ _ _ => us_len1 fun _ => rfl
  have m4 := PySem.W.mg_of X G a4
  have F5 := fun_mk (st := sFeed) l5 c5 k5
  have b5 := F5.binds (ps := ["_law_script"]) fun _ _ _ _ _ _ => us_len1 fun _ => rfl
  have m5 := PySem.W.mg_of X G a5
  have F6 := fun_mk (st := sDraw) l6 c6 k6
  have b6 := F6.binds (ps := ["_law_feed_here", "_law_many"]) fun _ _ _ _ _ _ => us_len2 fun _ _ => rfl
  have m6 := PySem.W.mg_of X G a6
  have F7 := fun_mk (st := sLawValue) l7 c7 k7
  have b7 := F7.binds (ps := ["_law_feed_here"]) fun _ _ _ _ _ _ => us_len1 fun _ => rfl
  have m7 := PySem.W.mg_of X G a7
  have F8 := fun_mk (st := sSpelled) l8 c8 k8
  have b8 := F8.binds (ps := ["_law_number", "_law_long"]) fun _ _ _ _ _ _ => us_len2 fun _ _ => rfl
  have m8 := PySem.W.mg_of X G a8
  have F9 := fun_mk (st := sLawName) l9 c9 k9
  have b9 := F9.binds (ps := ["_law_feed_here", "_law_taken"]) fun _ _ _ _ _ _ => us_len2 fun _ _ => rfl
  have m9 := PySem.W.mg_of X G a9
  have F10 := fun_mk (st := sNames) l10 c10 k10
  have b10 := F10.binds (ps := ["_law_feed_here", "_law_many"]) fun _ _ _ _ _ _ => us_len2 fun _ _ => rfl
  have m10 := PySem.W.mg_of X G a10
  have F11 := fun_mk (st := sLawParts) l11 c11 k11
  have b11 := F11.binds (ps := ["_law_e"]) fun _ _ _ _ _ _ => us_len1 fun _ => rfl
  have m11 := PySem.W.mg_of X G a11
  have F12 := fun_mk (st := sWith) l12 c12 k12
  have b12 := F12.binds (ps := ["_law_e", "_law_inner"]) fun _ _ _ _ _ _ => us_len2 fun _ _ => rfl
  have m12 := PySem.W.mg_of X G a12
  have F13 := fun_mk (st := sNodes) l13 c13 k13
  have b13 := F13.binds (ps := ["_law_e"]) fun _ _ _ _ _ _ => us_len1 fun _ => rfl
  have m13 := PySem.W.mg_of X G a13
  have F14 := fun_mk (st := sLawWork) l14 c14 k14
  have b14 := F14.binds (ps := ["_law_e", "_law_works"]) fun _ _ _ _ _ _ => us_len2 fun _ _ => rfl
  have m14 := PySem.W.mg_of X G a14
  have F15 := fun_mk (st := sRight) l15 c15 k15
  have b15 := F15.binds (ps := ["_law_e", "_law_bound_here"]) fun _ _ _ _ _ _ => us_len2 fun _ _ => rfl
  have m15 := PySem.W.mg_of X G a15
  have F16 := fun_mk (st := sLeaf) l16 c16 k16
  have b16 := F16.binds (ps := ["_law_feed_here", "_law_world_here", "_law_bound_here"]) fun _ _ _ _ _ _ => us_len3 fun _ _ _ => rfl
  have m16 := PySem.W.mg_of X G a16
  have F17 := fun_mk (st := sTurned) l17 c17 k17
  have b17 := F17.binds (ps := ["_law_e", "_law_names_here", "_law_others"]) fun _ _ _ _ _ _ => us_len3 fun _ _ _ => rfl
  have m17 := PySem.W.mg_of X G a17
  have F18 := fun_mk (st := sSpoilt) l18 c18 k18
  have b18 := F18.binds (ps := ["_law_e", "_law_at", "_law_leaf_here"]) fun _ _ _ _ _ _ => us_len3 fun _ _ _ => rfl
  have m18 := PySem.W.mg_of X G a18
  have F19 := fun_mk (st := sCopied) l19 c19 k19
  have b19 := F19.binds (ps := ["_law_feed_here", "_law_world_here", "_law_bound_here", "_law_below", "_law_times"]) fun _ _ _ _ _ _ => us_len5 fun _ _ _ _ _ => rfl
  have m19 := PySem.W.mg_of X G a19
  have F20 := fun_mk (st := sBound) l20 c20 k20
  have b20 := F20.binds (ps := ["_law_feed_here", "_law_world_here", "_law_bound_here", "_law_below", "_law_times", "_law_kind"]) fun _ _ _ _ _ _ => us_len6 fun _ _ _ _ _ _ => rfl
  have m20 := PySem.W.mg_of X G a20
  have F21 := fun_mk (st := sCalled) l21 c21 k21
  have b21 := F21.binds (ps := ["_law_feed_here", "_law_world_here", "_law_bound_here", "_law_below", "_law_times"]) fun _ _ _ _ _ _ => us_len5 fun _ _ _ _ _ => rfl
  have m21 := PySem.W.mg_of X G a21
  have F22 := fun_mk (st := sExpr) l22 c22 k22
  have b22 := F22.binds (ps := ["_law_feed_here", "_law_world_here", "_law_bound_here", "_law_below", "_law_times"]) fun _ _ _ _ _ _ => us_len5 fun _ _ _ _ _ => rfl
  have m22 := PySem.W.mg_of X G a22
  have F23 := fun_mk (st := sWorld) l23 c23 k23
  have b23 := F23.binds (ps := ["_law_names_here", "_law_lets", "_law_functions", "_law_works", "_law_room", "_law_toil"]) fun _ _ _ _ _ _ => us_len6 fun _ _ _ _ _ _ => rfl
  have m23 := PySem.W.mg_of X G a23
  have F24 := fun_mk (st := sSeeds) l24 c24 k24
  have b24 := F24.binds (ps := ["_law_feed_here", "_law_world_here", "_law_many"]) fun _ _ _ _ _ _ => us_len3 fun _ _ _ => rfl
  have m24 := PySem.W.mg_of X G a24
  have F25 := fun_mk (st := sProgram) l25 c25 k25
  have b25 := F25.binds (ps := ["_law_feed_here", "_law_room"]) fun _ _ _ _ _ _ => us_len2 fun _ _ => rfl
  have m25 := PySem.W.mg_of X G a25
  have F26 := fun_mk (st := sDrawn) l26 c26 k26
  have b26 := F26.binds (ps := ["_law_feed_here", "_law_room"]) fun _ _ _ _ _ _ => us_len2 fun _ _ => rfl
  have m26 := PySem.W.mg_of X G a26
  have F27 := fun_mk (st := sWords) l27 c27 k27
  have b27 := F27.binds (ps := ["_law_e"]) fun _ _ _ _ _ _ => us_len1 fun _ => rfl
  have m27 := PySem.W.mg_of X G a27
  have F28 := fun_mk (st := sLines) l28 c28 k28
  have b28 := F28.binds (ps := ["_law_program_here"]) fun _ _ _ _ _ _ => us_len1 fun _ => rfl
  have m28 := PySem.W.mg_of X G a28
  have F29 := fun_mk (st := sLaw) l29 c29 k29
  have z_isinstance := PySem.W.mg_none_of X G q_isinstance
  have z_int := PySem.W.mg_none_of X G q_int
  have z_bool := PySem.W.mg_none_of X G q_bool
  have z_tuple := PySem.W.mg_none_of X G q_tuple
  have z_len := PySem.W.mg_none_of X G q_len
  have z_list := PySem.W.mg_none_of X G q_list
  have z_range := PySem.W.mg_none_of X G q_range
  have z_sum := PySem.W.mg_none_of X G q_sum
  have z_all := PySem.W.mg_none_of X G q_all
  have z_dict := PySem.W.mg_none_of X G q_dict
  have z_str := PySem.W.mg_none_of X G q_str
  have T0 : Txt0 mg := ⟨z_len, z_list, z_range⟩
  have T : TxtT mg := ⟨z_isinstance, z_int, z_bool, z_tuple, z_len⟩
  have KI : Kits K := kits_of kt_NoneType_int kt_bool_int kt_int_int kt_str_int kt_tuple_int kt_list_int kt_NoneType_bool kt_bool_bool kt_int_bool kt_str_bool kt_tuple_bool kt_list_bool kt_NoneType_tuple kt_bool_tuple kt_int_tuple kt_str_tuple kt_tuple_tuple kt_list_tuple
  have U : Helpers K mg f6 f8 _ _ := ⟨T0, F6, b6, m6, F8, b8, m8⟩
  have HWW : HW K mg f11 f12 _ _ := ⟨T, KI, F11, b11, m11, F12, b12, m12⟩
  have GG : Gen K mg ⟨f6, f8, f7, f16, f11, f12, f13, f14, f15, f17, f18, _, _, _, _, _, _, _, _, _, _, _⟩ := ⟨U, HWW, ⟨F7, b7, m7⟩, ⟨F16, b16, m16⟩, ⟨F13, b13, m13⟩, ⟨F14, b14, m14⟩, ⟨F15, b15, m15⟩, ⟨F17, b17, m17⟩, ⟨F18, b18, m18⟩, z_sum, z_all⟩
  have EE : Exp K mg ⟨_, f22, f20, f21, f19, _, _, _, _⟩ := ⟨GG, ⟨F22, b22, m22⟩, ⟨F20, b20, m20⟩, ⟨F21, b21, m21⟩, ⟨F19, b19, m19⟩, z_dict⟩
  have PP : Pr K mg ⟨_, f10, f9, f23, f24, _, _, _, _⟩ := ⟨EE, ⟨F10, b10, m10⟩, ⟨F9, b9, m9⟩, ⟨F23, b23, m23⟩, ⟨F24, b24, m24⟩⟩
  have LL : Lw K mg ⟨_, f5, f25, f26, f1, f0, f2, f3, f4, f27, f28, _, _, _, _, _, _, _, _, _, _⟩ := ⟨PP, ⟨F5, b5, m5⟩, ⟨F25, b25, m25⟩, ⟨F26, b26, m26⟩, ⟨F1, b1, m1⟩, ⟨F0, b0, m0⟩, ⟨F2, b2, m2⟩, ⟨F3, b3, m3⟩, ⟨F4, b4, m4⟩, ⟨F27, b27, m27⟩, ⟨F28, b28, m28⟩, ⟨kt_tuple_str, kt_str_str⟩, z_str, z_list⟩
  refine ⟨PySem.W.fnOf "law" "law" (defArgs sLaw) (defBody sLaw) (defScope sLaw) .none kV29 dc29 pm29 an29 cd29 ct29, fun s v => .of_eq rfl, fun base _ _ => ?_⟩
  exact ok_law F29 LL
theorem walk {l : PySem.W.OpenLaw} {q : Program} {loose : List Str} {XP : (Str → Option Value) → Heap → Prop} {YP : World → Heap → Prop} {d : DefRec} {K : Params → PySem.W.Frag} (hn : l.most = some 63) (hdf : d.params.defaults = [])
    (hY : ∀ (w : World) (h : Heap), YP w h → (K w.params).In h)
    (F : ∀ (w : World) (mg : Str → Option Value) (fa : Addr) (h : Heap), (K w.params).In h → h.Ns mainGlobals mg → mg d.name = some (.ref fa) →
      ∃ fd : FuncData, (∀ (s : Shared) (u : Value), BindsTo s fd ⟨[u], []⟩ [("_law_script", u)]) ∧ ∀ base : Heap, (K w.params).In base → base.Ns mainGlobals mg → FnOk l.prog w (K w.params) mg base CX0 24 fa fd ["_law_script"] (spLaw (K w.params))) :
    PySem.W.WalkO q loose XP YP l.row.toRowW d [] (fun f vs => PySem.call f vs) :=
  L2.walk_of (n := 63) (k := 24) (x := "_law_script") (CX := fun _ => CX0) (sp := fun w => spLaw (K w.params)) hn (by decide) hdf ⟨rfl, rfl, by decide, by decide⟩ hY F (fun _ _ a ns hl _ hS => ⟨a, ns, rfl, hS, hl, fun _ => rfl⟩) fun _ _ _ _ _ z => z
end K54

set_option Elab.async false
set_option linter.all false
set_option maxRecDepth 100000
set_option maxHeartbeats 4000000
namespace K54
open PySem L2
end K54
open PySem PySem.W PyProof.Rows
set_option maxRecDepth 100000 in
set_option maxHeartbeats 0 in
theorem PySem.Challenge.cw_likepieces_k54_texts_shown_holds : PySem.Challenge.rw_likepieces_k54_texts_shown.Holds := by
  w_on
  refine holds_law K54.hdS fun sd => ?_
  refine holds_open (q := K54.hdQ) (loose := K54.hdL) (Yf := K54.hdH.obs) (Ya := K54.hdH.val)
    (XP := XL K54.hdQ []) (YP := InK K54.hdK) (N := K54.hdN) K54.hdT K54.hdH.of
    K54.hdH.keeps (fun s e => xl_of s (Bool.and_eq_true_iff.mp e).1) XL.keeps (by rfl) (by rfl)
    (by rfl) (fun s e => recFacts_of (Bool.and_eq_true_iff.mp e).2) (by rfl) sd (by decide +kernel)
    ⟨rfl, rfl, rfl, rfl, rfl, by decide +kernel⟩ ?hw ?hc
  (case hw => w_witness2)
  k_fill
  refine K54.walk (l := PySem.Challenge.rw_likepieces_k54_texts_shown) rfl rfl (K := K54.hdK) (fun w h Y => Y) ?F
  case F =>
    intro w mg fa h KX G hmg
    refine' K54.all_mk KX G hmg ?a0 ?l0 ?c0 ?k0 ?a1 ?l1 ?c1 ?k1 ?a2 ?l2 ?c2 ?k2 ?a3 ?l3 ?c3 ?k3 ?a4 ?l4 ?c4 ?k4 ?a5 ?l5 ?c5 ?k5 ?a6 ?l6 ?c6 ?k6 ?a7 ?l7 ?c7 ?k7 ?a8 ?l8 ?c8 ?k8 ?a9 ?l9 ?c9 ?k9 ?a10 ?l10 ?c10 ?k10 ?a11 ?l11 ?c11 ?k11 ?a12 ?l12 ?c12 ?k12 ?a13 ?l13 ?c13 ?k13 ?a14 ?l14 ?c14 ?k14 ?a15 ?l15 ?c15 ?k15 ?a16 ?l16 ?c16 ?k16 ?a17 ?l17 ?c17 ?k17 ?a18 ?l18 ?c18 ?k18 ?a19 ?l19 ?c19 ?k19 ?a20 ?l20 ?c20 ?k20 ?a21 ?l21 ?c21 ?k21 ?a22 ?l22 ?c22 ?k22 ?a23 ?l23 ?c23 ?k23 ?a24 ?l24 ?c24 ?k24 ?a25 ?l25 ?c25 ?k25 ?a26 ?l26 ?c26 ?k26 ?a27 ?l27 ?c27 ?k27 ?a28 ?l28 ?c28 ?k28 ?a29 ?l29 ?c29 ?k29 ?q_isinstance ?q_int ?q_bool ?q_tuple ?q_len ?q_list ?q_range ?q_sum ?q_all ?q_dict ?q_str ?kt_NoneType_int ?kt_bool_int ?kt_int_int ?kt_str_int ?kt_tuple_int ?kt_list_int ?kt_NoneType_bool ?kt_bool_bool ?kt_int_bool ?kt_str_bool ?kt_tuple_bool ?kt_list_bool ?kt_NoneType_tuple ?kt_bool_tuple ?kt_int_tuple ?kt_str_tuple ?kt_tuple_tuple ?kt_list_tuple ?kt_tuple_str ?kt_str_str
    (case a0 => k_is)
    (case l0 => k_is)
    (case c0 => k_is)
    (case k0 => k_is)
    (case a1 => k_is)
    (case l1 => k_is)
    (case c1 => k_is)
    (case k1 => k_is)
    (case a2 => k_is)
    (case l2 => k_is)
    (case c2 => k_is)
    (case k2 => k_is)
    (case a3 => k_is)
    (case l3 => k_is)
    (case c3 => k_is)
    (case k3 => k_is)
    (case a4 => k_is)
    (case l4 => k_is)
    (case c4 => k_is)
    (case k4 => k_is)
    (case a5 => k_is)
    (case l5 => k_is)
    (case c5 => k_is)
    (case k5 => k_is)
    (case a6 => k_is)
    (case l6 => k_is)
    (case c6 => k_is)
    (case k6 => k_is)
    (case a7 => k_is)
    (case l7 => k_is)
    (case c7 => k_is)
    (case k7 => k_is)
    (case a8 => k_is)
    (case l8 => k_is)
    (case c8 => k_is)
    (case k8 => k_is)
    (case a9 => k_is)
    (case l9 => k_is)
    (case c9 => k_is)
    (case k9 => k_is)
    (case a10 => k_is)
    (case l10 => k_is)
    (case c10 => k_is)
    (case k10 => k_is)
    (case a11 => k_is)
    (case l11 => k_is)
    (case c11 => k_is)
    (case k11 => k_is)
    (case a12 => k_is)
    (case l12 => k_is)
    (case c12 => k_is)
    (case k12 => k_is)
    (case a13 => k_is)
    (case l13 => k_is)
    (case c13 => k_is)
    (case k13 => k_is)
    (case a14 => k_is)
    (case l14 => k_is)
    (case c14 => k_is)
    (case k14 => k_is)
    (case a15 => k_is)
    (case l15 => k_is)
    (case c15 => k_is)
    (case k15 => k_is)
    (case a16 => k_is)
    (case l16 => k_is)
    (case c16 => k_is)
    (case k16 => k_is)
    (case a17 => k_is)
    (case l17 => k_is)
    (case c17 => k_is)
    (case k17 => k_is)
    (case a18 => k_is)
    (case l18 => k_is)
    (case c18 => k_is)
    (case k18 => k_is)
    (case a19 => k_is)
    (case l19 => k_is)
    (case c19 => k_is)
    (case k19 => k_is)
    (case a20 => k_is)
    (case l20 => k_is)
    (case c20 => k_is)
    (case k20 => k_is)
    (case a21 => k_is)
    (case l21 => k_is)
    (case c21 => k_is)
    (case k21 => k_is)
    (case a22 => k_is)
    (case l22 => k_is)
    (case c22 => k_is)
    (case k22 => k_is)
    (case a23 => k_is)
    (case l23 => k_is)
    (case c23 => k_is)
    (case k23 => k_is)
    (case a24 => k_is)
    (case l24 => k_is)
    (case c24 => k_is)
    (case k24 => k_is)
    (case a25 => k_is)
    (case l25 => k_is)
    (case c25 => k_is)
    (case k25 => k_is)
    (case a26 => k_is)
    (case l26 => k_is)
    (case c26 => k_is)
    (case k26 => k_is)
    (case a27 => k_is)
    (case l27 => k_is)
    (case c27 => k_is)
    (case k27 => k_is)
    (case a28 => k_is)
    (case l28 => k_is)
    (case c28 => k_is)
    (case k28 => k_is)
    (case a29 => k_is)
    (case l29 => k_is)
    (case c29 => k_is)
    (case k29 => k_is)
    (case q_isinstance => k_is)
    (case q_int => k_is)
    (case q_bool => k_is)
    (case q_tuple => k_is)
    (case q_len => k_is)
    (case q_list => k_is)
    (case q_range => k_is)
    (case q_sum => k_is)
    (case q_all => k_is)
    (case q_dict => k_is)
    (case q_str => k_is)
    (case kt_NoneType_int => first | k_is | rfl | decide)
    (case kt_bool_int => first | k_is | rfl | decide)
    (case kt_int_int => first | k_is | rfl | decide)
    (case kt_str_int => first | k_is | rfl | decide)
    (case kt_tuple_int => first | k_is | rfl | decide)
    (case kt_list_int => first | k_is | rfl | decide)
    (case kt_NoneType_bool => first | k_is | rfl | decide)
    (case kt_bool_bool => first | k_is | rfl | decide)
    (case kt_int_bool => first | k_is | rfl | decide)
    (case kt_str_bool => first | k_is | rfl | decide)
    (case kt_tuple_bool => first | k_is | rfl | decide)
    (case kt_list_bool => first | k_is | rfl | decide)
    (case kt_NoneType_tuple => first | k_is | rfl | decide)
    (case kt_bool_tuple => first | k_is | rfl | decide)
    (case kt_int_tuple => first | k_is | rfl | decide)
    (case kt_str_tuple => first | k_is | rfl | decide)
    (case kt_tuple_tuple => first | k_is | rfl | decide)
    (case kt_list_tuple => first | k_is | rfl | decide)
    (case kt_tuple_str => first | k_is | rfl | decide)
    (case kt_str_str => first | k_is | rfl | decide)

