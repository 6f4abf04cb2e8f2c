import PyProof.Rows.All
import Wide.All
import OpenK.AllK
import Wide.FinOn
import Lean
import PyProof.EqAt
import PyProof.EqKinds
import PyProof.TupleCall
import PyProof.NeKinds
import PyProof.Rows.SortStr
import PyProof.Rows.SeqMore
import PyProof.Rows.CatFin
import PyProof.MeetsStr
import PyProof.Rows.SumAny
import PyProof.Rows.SortShell
import PyProof.Rows.SetFrom
import PyProof.DictWalks
import PyProof.Rows.SortReads
import KE.KDictSum
import PyProof.ZipIter
import PyProof.Rows.ZipGen
import PyProof.TupleOfGen
import PyProof.TupleOfStr
import KE.KIsAll
import PySem.Challenge.RW_likepieces_k36_traits_told
import PyProof.Rows.Range3
import PyProof.Rows.ReprOcc
import PyProof.Rows.StrAscii
import PyProof.Rows.StrJoin2
import PyProof.AttrMissSeq
import KE.KDictOf
import PyProof.DictCompW
open List (all_cons all_eq_true all_map any_cons any_eq_true append_assoc append_nil cons_append dropLast_concat_getLast drop_zero eq_nil_of_length_eq_zero filterMap_cons filter_append filter_cons flatMap_append flatMap_cons flatten_cons foldl_append getElem_mem getLastD_eq_getLast? length_append length_cons length_drop length_filter_le length_map length_nil length_range length_reverse length_singleton length_take lookup_cons map_append map_cons map_drop map_map map_nil map_take mem_append mem_append_left mem_append_right mem_cons mem_cons_of_mem mem_cons_self mem_filter mem_filterMap mem_flatMap mem_iff_getElem? mem_map mem_of_getElem? mem_of_mem_drop mem_of_mem_take mem_range mem_singleton nil_append nodup_cons nodup_nil not_mem_nil of_mem_zip pairwise_cons reverse_cons size_toArray take_add_one take_append_drop take_append_of_le_length take_left take_length take_of_length_le take_zero)
set_option Elab.async false
set_option linter.all false
set_option maxRecDepth 100000
set_option maxHeartbeats 4000000
namespace L2
open PySem
def Z0o (s:Stmt):Arguments:=match s with
 | .FunctionDef _ a _ _ _ _ _ _ _ _=>a
 |_=>{ posonlyargs:=[],args:=[],vararg:=none,kwonlyargs:=[],kw_defaults:=[],kwarg:=none,defaults:=[] }
def Z0n (s:Stmt):List Stmt:=match s with
 | .FunctionDef _ _ b _ _ _ _ _ _ _=>b
 |_=>[]
def Z04 (s:Stmt):Scope:=match s with
 | .FunctionDef _ _ _ _ _ _ sc _ _ _=>sc
 |_=>{ kind:=.function,names:=[],isGenerator:=false,isCoroutine:=false }
end L2
namespace K36
open PySem L2
def top (i:Nat):Stmt:=PySem.Challenge.pw_likepieces_k36_traits_told.main.body.getD i (.Pass ⟨0,0,0,0⟩)
abbrev eT:Obj:=⟨(.type "tuple"),none,(.seq #[] 0),#[]⟩
abbrev eF (n:Str)(i:Nat)(r:Addr):Obj:=⟨(.type "function"),none,(.func (PySem.W.fnOf n n (Z0o (top i)) (Z0n (top i)) (Z04 (top i)) .none .none .none (.str "likepieces.trees" 187) none (.ref r) .none)),#[]⟩
abbrev eC (n:Str)(a b c:Tok)(l k f:Int)(r s:Addr)(v w:Value)(t:Addr)(m:Int)(d:Tok):Obj:=⟨(.type "code"),none,(.fields #[(.str n a),(.str n b),(.str "/claim/cut.py" c),(.int l 0),(.int k 0),(.int 0 0),(.int 0 0),(.int f 0),(.ref r),(.bool true),(.int 181 0),(.ref s),.none,v,w,(.ref t),(.int m 0),(.int l 0),(.str "/claim/cut.py" d)]),#[]⟩
def hdQ:Program:={ PySem.Challenge.pw_likepieces_k36_traits_told with main:={ PySem.Challenge.pw_likepieces_k36_traits_told.main with body:=[top 1,top 2,top 3,top 4,top 5,top 6,top 7,top 9,top 10,top 12,top 13,top 14,top 16,top 17,top 18,top 19,top 20,top 21,top 22,top 24,top 25,top 26,top 27,top 28,top 29,top 30,top 31,top 32,top 33,top 34,top 35,top 36,top 37,top 38,top 39,top 40,top 41,top 42,top 43,top 44,top 45,top 46,top 47,top 48,top 49,top 50] } }
def hdK:Params->W.Frag:=fun P=>
 (nat_lit 2,⟨.none,none,(.dict #[] 0),#[]⟩) ::
 (nat_lit 3,⟨(.type "dict"),none,(.dict #[⟨(PySem.PyData.keyHash P "__name__"),(.str "__name__" 165),(.str "law_likepieces_k36_traits_told" 323)⟩,⟨(PySem.PyData.keyHash P "__doc__"),(.str "__doc__" 166),.none⟩,⟨(PySem.PyData.keyHash P "__package__"),(.str "__package__" 167),.none⟩,⟨(PySem.PyData.keyHash P "__loader__"),(.str "__loader__" 168),(.builtin "__main__.__loader__#opaque")⟩,⟨(PySem.PyData.keyHash P "__spec__"),(.str "__spec__" 169),.none⟩,⟨(PySem.PyData.keyHash P "__annotations__"),(.str "__annotations__" 170),(.ref 6)⟩,⟨(PySem.PyData.keyHash P "__builtins__"),(.str "__builtins__" 171),(.ref 4)⟩,⟨(PySem.PyData.keyHash P "__file__"),(.str "__file__" 173),(.str "/claim/cut.py" 172)⟩,⟨(PySem.PyData.keyHash P "__cached__"),(.str "__cached__" 174),.none⟩,⟨(PySem.PyData.keyHash P "NODE"),(.str "NODE" 190),(.str "node" 189)⟩,⟨(PySem.PyData.keyHash P "OPENED"),(.str "OPENED" 192),(.str "opened" 191)⟩,⟨(PySem.PyData.keyHash P "CLOSED"),(.str "CLOSED" 194),(.str "closed" 193)⟩,⟨(PySem.PyData.keyHash P "head"),(.str "head" 200),(.ref 19)⟩,⟨(PySem.PyData.keyHash P "parts"),(.str "parts" 206),(.ref 24)⟩,⟨(PySem.PyData.keyHash P "steps"),(.str "steps" 212),(.ref 29)⟩,⟨(PySem.PyData.keyHash P "built"),(.str "built" 224),(.ref 36)⟩,⟨(PySem.PyData.keyHash P "own_number"),(.str "own_number" 235),(.ref 43)⟩,⟨(PySem.PyData.keyHash P "owned"),(.str "owned" 247),(.ref 50)⟩,⟨(PySem.PyData.keyHash P "bare_head"),(.str "bare_head" 257),(.ref 57)⟩,⟨(PySem.PyData.keyHash P "bare_rows"),(.str "bare_rows" 263),(.ref 62)⟩,⟨(PySem.PyData.keyHash P "bare"),(.str "bare" 270),(.ref 69)⟩,⟨(PySem.PyData.keyHash P "NOTHING"),(.str "NOTHING" 273),(.ref 72)⟩,⟨(PySem.PyData.keyHash P "names_together"),(.str "names_together" 279),(.ref 77)⟩,⟨(PySem.PyData.keyHash P "together"),(.str "together" 285),(.ref 82)⟩,⟨(PySem.PyData.keyHash P "node_traits"),(.str "node_traits" 296),(.ref 89)⟩,⟨(PySem.PyData.keyHash P "form_traits"),(.str "form_traits" 302),(.ref 94)⟩,⟨(PySem.PyData.keyHash P "known_traits"),(.str "known_traits" 313),(.ref 101)⟩,⟨(PySem.PyData.keyHash P "traits"),(.str "traits" 322),(.ref 108)⟩,⟨(PySem.PyData.keyHash P "_law_feed"),(.str "_law_feed" 331),(.ref 115)⟩,⟨(PySem.PyData.keyHash P "_law_draw"),(.str "_law_draw" 343),(.ref 122)⟩,⟨(PySem.PyData.keyHash P "_law_value"),(.str "_law_value" 351),(.ref 129)⟩,⟨(PySem.PyData.keyHash P "_law_spelled"),(.str "_law_spelled" 361),(.ref 136)⟩,⟨(PySem.PyData.keyHash P "_law_name"),(.str "_law_name" 376),(.ref 143)⟩,⟨(PySem.PyData.keyHash P "_law_names"),(.str "_law_names" 386),(.ref 150)⟩,⟨(PySem.PyData.keyHash P "_law_parts"),(.str "_law_parts" 392),(.ref 155)⟩,⟨(PySem.PyData.keyHash P "_law_with"),(.str "_law_with" 398),(.ref 160)⟩,⟨(PySem.PyData.keyHash P "_law_nodes"),(.str "_law_nodes" 404),(.ref 165)⟩,⟨(PySem.PyData.keyHash P "_law_work"),(.str "_law_work" 410),(.ref 170)⟩,⟨(PySem.PyData.keyHash P "_law_right"),(.str "_law_right" 416),(.ref 175)⟩,⟨(PySem.PyData.keyHash P "_law_leaf"),(.str "_law_leaf" 427),(.ref 182)⟩,⟨(PySem.PyData.keyHash P "_law_turned"),(.str "_law_turned" 433),(.ref 187)⟩,⟨(PySem.PyData.keyHash P "_law_spoilt"),(.str "_law_spoilt" 445),(.ref 194)⟩,⟨(PySem.PyData.keyHash P "_law_copied"),(.str "_law_copied" 451),(.ref 199)⟩,⟨(PySem.PyData.keyHash P "_law_bound"),(.str "_law_bound" 457),(.ref 204)⟩,⟨(PySem.PyData.keyHash P "_law_called"),(.str "_law_called" 463),(.ref 209)⟩,⟨(PySem.PyData.keyHash P "_law_expr"),(.str "_law_expr" 469),(.ref 214)⟩,⟨(PySem.PyData.keyHash P "_law_world"),(.str "_law_world" 481),(.ref 221)⟩,⟨(PySem.PyData.keyHash P "_law_seeds"),(.str "_law_seeds" 493),(.ref 228)⟩,⟨(PySem.PyData.keyHash P "_law_setting"),(.str "_law_setting" 499),(.ref 233)⟩,⟨(PySem.PyData.keyHash P "_law_bare"),(.str "_law_bare" 505),(.ref 238)⟩,⟨(PySem.PyData.keyHash P "_law_seen"),(.str "_law_seen" 518),(.ref 245)⟩,⟨(PySem.PyData.keyHash P "_law_called_by"),(.str "_law_called_by" 529),(.ref 252)⟩,⟨(PySem.PyData.keyHash P "_law_traits"),(.str "_law_traits" 535),(.ref 257)⟩,⟨(PySem.PyData.keyHash P "_law_alike"),(.str "_law_alike" 544),(.ref 264)⟩,⟨(PySem.PyData.keyHash P "law"),(.str "law" 562),(.ref 271)⟩] 55),#[]⟩) ::
 (nat_lit 15,eT) ::
 (nat_lit 18,eC "head" 195 196 197 5 1 3 15 16 .none .none 17 198 199) ::
 (nat_lit 19,eF "head" 4 18) ::
 (nat_lit 20,eT) ::
 (nat_lit 23,eC "parts" 201 202 203 7 1 3 20 21 .none .none 22 204 205) ::
 (nat_lit 24,eF "parts" 5 23) ::
 (nat_lit 25,eT) ::
 (nat_lit 28,eC "steps" 207 208 209 9 1 3 25 26 .none .none 27 210 211) ::
 (nat_lit 29,eF "steps" 6 28) ::
 (nat_lit 30,eT) ::
 (nat_lit 32,⟨(.type "tuple"),none,(.seq #[(.str "rows" 216),(.str "done" 217),(.str "lead" 218),(.str "many" 219),(.str "start" 220),(.str "inner" 221)] 0),#[]⟩) ::
 (nat_lit 33,eT) ::
 (nat_lit 35,eC "built" 213 214 215 21 1 3 30 31 (.ref 32) (.ref 33) 34 222 223) ::
 (nat_lit 36,eF "built" 7 35) ::
 (nat_lit 37,eT) ::
 (nat_lit 39,⟨(.type "tuple"),none,(.seq #[(.str "node" 230),(.str "lets" 231),(.str "level" 232)] 0),#[]⟩) ::
 (nat_lit 40,eT) ::
 (nat_lit 42,eC "own_number" 227 228 229 30 3 3 37 38 (.ref 39) (.ref 40) 41 233 234) ::
 (nat_lit 43,⟨(.type "function"),none,(.func (PySem.W.fnOf "own_number" "own_number" (Z0o (top 9)) (Z0n (top 9)) (Z04 (top 9)) .none .none .none (.str "likepieces.names" 225) none (.ref 42) .none)),#[]⟩) ::
 (nat_lit 44,eT) ::
 (nat_lit 46,⟨(.type "tuple"),none,(.seq #[(.str "e" 239),(.str "rows" 240),(.str "lets" 241),(.str "level" 242),(.str "deed" 243),(.str "node" 244)] 0),#[]⟩) ::
 (nat_lit 47,eT) ::
 (nat_lit 49,eC "owned" 236 237 238 34 1 3 44 45 (.ref 46) (.ref 47) 48 245 246) ::
 (nat_lit 50,⟨(.type "function"),none,(.func (PySem.W.fnOf "owned" "owned" (Z0o (top 10)) (Z0n (top 10)) (Z04 (top 10)) .none .none .none (.str "likepieces.names" 225) none (.ref 49) .none)),#[]⟩) ::
 (nat_lit 51,eT) ::
 (nat_lit 53,⟨(.type "tuple"),none,(.seq #[(.str "node" 253),(.str "own" 254)] 0),#[]⟩) ::
 (nat_lit 54,eT) ::
 (nat_lit 56,eC "bare_head" 250 251 252 49 2 3 51 52 (.ref 53) (.ref 54) 55 255 256) ::
 (nat_lit 57,⟨(.type "function"),none,(.func (PySem.W.fnOf "bare_head" "bare_head" (Z0o (top 12)) (Z0n (top 12)) (Z04 (top 12)) .none .none .none (.str "likepieces.bares" 248) none (.ref 56) .none)),#[]⟩) ::
 (nat_lit 58,eT) ::
 (nat_lit 61,eC "bare_rows" 258 259 260 55 1 3 58 59 .none .none 60 261 262) ::
 (nat_lit 62,⟨(.type "function"),none,(.func (PySem.W.fnOf "bare_rows" "bare_rows" (Z0o (top 13)) (Z0n (top 13)) (Z04 (top 13)) .none .none .none (.str "likepieces.bares" 248) none (.ref 61) .none)),#[]⟩) ::
 (nat_lit 63,eT) ::
 (nat_lit 65,⟨(.type "tuple"),none,(.seq #[(.str "e" 267)] 0),#[]⟩) ::
 (nat_lit 66,eT) ::
 (nat_lit 68,eC "bare" 264 265 266 57 1 3 63 64 (.ref 65) (.ref 66) 67 268 269) ::
 (nat_lit 69,⟨(.type "function"),none,(.func (PySem.W.fnOf "bare" "bare" (Z0o (top 14)) (Z0n (top 14)) (Z04 (top 14)) .none .none .none (.str "likepieces.bares" 248) none (.ref 68) .none)),#[]⟩) ::
 (nat_lit 70,eT) ::
 (nat_lit 71,eT) ::
 (nat_lit 72,⟨(.type "tuple"),none,(.seq #[(.ref 70),(.ref 71),(.bool false),(.bool false),(.bool false)] 0),#[]⟩) ::
 (nat_lit 73,eT) ::
 (nat_lit 76,eC "names_together" 274 275 276 61 1 3 73 74 .none .none 75 277 278) ::
 (nat_lit 77,⟨(.type "function"),none,(.func (PySem.W.fnOf "names_together" "names_together" (Z0o (top 17)) (Z0n (top 17)) (Z04 (top 17)) .none .none .none (.str "likepieces.traits" 271) none (.ref 76) .none)),#[]⟩) ::
 (nat_lit 78,eT) ::
 (nat_lit 81,eC "together" 280 281 282 63 1 3 78 79 .none .none 80 283 284) ::
 (nat_lit 82,⟨(.type "function"),none,(.func (PySem.W.fnOf "together" "together" (Z0o (top 18)) (Z0n (top 18)) (Z04 (top 18)) .none .none .none (.str "likepieces.traits" 271) none (.ref 81) .none)),#[]⟩) ::
 (nat_lit 83,eT) ::
 (nat_lit 85,⟨(.type "tuple"),none,(.seq #[(.str "known" 289),(.str "node" 290),(.str "held" 291),(.str "word" 292),(.str "by" 293)] 0),#[]⟩) ::
 (nat_lit 86,eT) ::
 (nat_lit 88,eC "node_traits" 286 287 288 67 3 3 83 84 (.ref 85) (.ref 86) 87 294 295) ::
 (nat_lit 89,⟨(.type "function"),none,(.func (PySem.W.fnOf "node_traits" "node_traits" (Z0o (top 19)) (Z0n (top 19)) (Z04 (top 19)) .none .none .none (.str "likepieces.traits" 271) none (.ref 88) .none)),#[]⟩) ::
 (nat_lit 90,eT) ::
 (nat_lit 93,eC "form_traits" 297 298 299 83 3 3 90 91 .none .none 92 300 301) ::
 (nat_lit 94,⟨(.type "function"),none,(.func (PySem.W.fnOf "form_traits" "form_traits" (Z0o (top 20)) (Z0n (top 20)) (Z04 (top 20)) .none .none .none (.str "likepieces.traits" 271) none (.ref 93) .none)),#[]⟩) ::
 (nat_lit 95,eT) ::
 (nat_lit 97,⟨(.type "tuple"),none,(.seq #[(.str "program" 306),(.str "known" 307),(.str "name" 308),(.str "params" 309),(.str "body" 310)] 0),#[]⟩) ::
 (nat_lit 98,eT) ::
 (nat_lit 100,eC "known_traits" 303 304 305 85 1 3 95 96 (.ref 97) (.ref 98) 99 311 312) ::
 (nat_lit 101,⟨(.type "function"),none,(.func (PySem.W.fnOf "known_traits" "known_traits" (Z0o (top 21)) (Z0n (top 21)) (Z04 (top 21)) .none .none .none (.str "likepieces.traits" 271) none (.ref 100) .none)),#[]⟩) ::
 (nat_lit 102,eT) ::
 (nat_lit 104,⟨(.type "tuple"),none,(.seq #[(.str "program" 317),(.str "b" 318),(.str "held" 319)] 0),#[]⟩) ::
 (nat_lit 105,eT) ::
 (nat_lit 107,eC "traits" 314 315 316 90 3 3 102 103 (.ref 104) (.ref 105) 106 320 321) ::
 (nat_lit 108,⟨(.type "function"),none,(.func (PySem.W.fnOf "traits" "traits" (Z0o (top 22)) (Z0n (top 22)) (Z04 (top 22)) .none .none .none (.str "likepieces.traits" 271) none (.ref 107) .none)),#[]⟩) ::
 (nat_lit 109,eT) ::
 (nat_lit 111,⟨(.type "tuple"),none,(.seq #[(.str "_law_script" 328)] 0),#[]⟩) ::
 (nat_lit 112,eT) ::
 (nat_lit 114,eC "_law_feed" 325 326 327 93 1 3 109 110 (.ref 111) (.ref 112) 113 329 330) ::
 (nat_lit 115,⟨(.type "function"),none,(.func (PySem.W.fnOf "_law_feed" "_law_feed" (Z0o (top 24)) (Z0n (top 24)) (Z04 (top 24)) .none .none .none (.str "law_likepieces_k36_traits_told" 323) none (.ref 114) .none)),#[]⟩) ::
 (nat_lit 116,eT) ::
 (nat_lit 118,⟨(.type "tuple"),none,(.seq #[(.str "_law_feed_here" 335),(.str "_law_many" 336),(.str "_law_found" 337),(.str "_law_at" 338),(.str "_law_cell" 339),(.str "_law_number" 340)] 0),#[]⟩) ::
 (nat_lit 119,eT) ::
 (nat_lit 121,eC "_law_draw" 332 333 334 95 2 3 116 117 (.ref 118) (.ref 119) 120 341 342) ::
 (nat_lit 122,⟨(.type "function"),none,(.func (PySem.W.fnOf "_law_draw" "_law_draw" (Z0o (top 25)) (Z0n (top 25)) (Z04 (top 25)) .none .none .none (.str "law_likepieces_k36_traits_told" 323) none (.ref 121) .none)),#[]⟩) ::
 (nat_lit 123,eT) ::
 (nat_lit 125,⟨(.type "tuple"),none,(.seq #[(.str "_law_feed_here" 347),(.str "_law_way" 348)] 0),#[]⟩) ::
 (nat_lit 126,eT) ::
 (nat_lit 128,eC "_law_value" 344 345 346 112 1 3 123 124 (.ref 125) (.ref 126) 127 349 350) ::
 (nat_lit 129,⟨(.type "function"),none,(.func (PySem.W.fnOf "_law_value" "_law_value" (Z0o (top 26)) (Z0n (top 26)) (Z04 (top 26)) .none .none .none (.str "law_likepieces_k36_traits_told" 323) none (.ref 128) .none)),#[]⟩) ::
 (nat_lit 130,eT) ::
 (nat_lit 132,⟨(.type "tuple"),none,(.seq #[(.str "_law_number" 355),(.str "_law_long" 356),(.str "_law_word" 357),(.str "_law_k" 358)] 0),#[]⟩) ::
 (nat_lit 133,eT) ::
 (nat_lit 135,eC "_law_spelled" 352 353 354 119 2 3 130 131 (.ref 132) (.ref 133) 134 359 360) ::
 (nat_lit 136,⟨(.type "function"),none,(.func (PySem.W.fnOf "_law_spelled" "_law_spelled" (Z0o (top 27)) (Z0n (top 27)) (Z04 (top 27)) .none .none .none (.str "law_likepieces_k36_traits_told" 323) none (.ref 135) .none)),#[]⟩) ::
 (nat_lit 137,eT) ::
 (nat_lit 139,⟨(.type "tuple"),none,(.seq #[(.str "_law_feed_here" 365),(.str "_law_taken" 366),(.str "_law_words" 367),(.str "_law_way" 368),(.str "_law_long" 369),(.str "_law_number" 370),(.str "_law_name_here" 371),(.str "_law_word" 372),(.str "_law_at" 373)] 0),#[]⟩) ::
 (nat_lit 140,eT) ::
 (nat_lit 142,eC "_law_name" 362 363 364 125 2 3 137 138 (.ref 139) (.ref 140) 141 374 375) ::
 (nat_lit 143,⟨(.type "function"),none,(.func (PySem.W.fnOf "_law_name" "_law_name" (Z0o (top 28)) (Z0n (top 28)) (Z04 (top 28)) .none .none .none (.str "law_likepieces_k36_traits_told" 323) none (.ref 142) .none)),#[]⟩) ::
 (nat_lit 144,eT) ::
 (nat_lit 146,⟨(.type "tuple"),none,(.seq #[(.str "_law_feed_here" 380),(.str "_law_many" 381),(.str "_law_names_here" 382),(.str "_law_k" 383)] 0),#[]⟩) ::
 (nat_lit 147,eT) ::
 (nat_lit 149,eC "_law_names" 377 378 379 147 2 3 144 145 (.ref 146) (.ref 147) 148 384 385) ::
 (nat_lit 150,⟨(.type "function"),none,(.func (PySem.W.fnOf "_law_names" "_law_names" (Z0o (top 29)) (Z0n (top 29)) (Z04 (top 29)) .none .none .none (.str "law_likepieces_k36_traits_told" 323) none (.ref 149) .none)),#[]⟩) ::
 (nat_lit 151,eT) ::
 (nat_lit 154,eC "_law_parts" 387 388 389 152 1 3 151 152 .none .none 153 390 391) ::
 (nat_lit 155,⟨(.type "function"),none,(.func (PySem.W.fnOf "_law_parts" "_law_parts" (Z0o (top 30)) (Z0n (top 30)) (Z04 (top 30)) .none .none .none (.str "law_likepieces_k36_traits_told" 323) none (.ref 154) .none)),#[]⟩) ::
 (nat_lit 156,eT) ::
 (nat_lit 159,eC "_law_with" 393 394 395 154 2 3 156 157 .none .none 158 396 397) ::
 (nat_lit 160,⟨(.type "function"),none,(.func (PySem.W.fnOf "_law_with" "_law_with" (Z0o (top 31)) (Z0n (top 31)) (Z04 (top 31)) .none .none .none (.str "law_likepieces_k36_traits_told" 323) none (.ref 159) .none)),#[]⟩) ::
 (nat_lit 161,eT) ::
 (nat_lit 164,eC "_law_nodes" 399 400 401 156 1 3 161 162 .none .none 163 402 403) ::
 (nat_lit 165,⟨(.type "function"),none,(.func (PySem.W.fnOf "_law_nodes" "_law_nodes" (Z0o (top 32)) (Z0n (top 32)) (Z04 (top 32)) .none .none .none (.str "law_likepieces_k36_traits_told" 323) none (.ref 164) .none)),#[]⟩) ::
 (nat_lit 166,eT) ::
 (nat_lit 169,eC "_law_work" 405 406 407 158 2 3 166 167 .none .none 168 408 409) ::
 (nat_lit 170,⟨(.type "function"),none,(.func (PySem.W.fnOf "_law_work" "_law_work" (Z0o (top 33)) (Z0n (top 33)) (Z04 (top 33)) .none .none .none (.str "law_likepieces_k36_traits_told" 323) none (.ref 169) .none)),#[]⟩) ::
 (nat_lit 171,eT) ::
 (nat_lit 174,eC "_law_right" 411 412 413 165 2 3 171 172 .none .none 173 414 415) ::
 (nat_lit 175,⟨(.type "function"),none,(.func (PySem.W.fnOf "_law_right" "_law_right" (Z0o (top 34)) (Z0n (top 34)) (Z04 (top 34)) .none .none .none (.str "law_likepieces_k36_traits_told" 323) none (.ref 174) .none)),#[]⟩) ::
 (nat_lit 176,eT) ::
 (nat_lit 178,⟨(.type "tuple"),none,(.seq #[(.str "_law_feed_here" 420),(.str "_law_world_here" 421),(.str "_law_bound_here" 422),(.str "_law_way" 423),(.str "_law_some" 424)] 0),#[]⟩) ::
 (nat_lit 179,eT) ::
 (nat_lit 181,eC "_law_leaf" 417 418 419 171 3 3 176 177 (.ref 178) (.ref 179) 180 425 426) ::
 (nat_lit 182,⟨(.type "function"),none,(.func (PySem.W.fnOf "_law_leaf" "_law_leaf" (Z0o (top 35)) (Z0n (top 35)) (Z04 (top 35)) .none .none .none (.str "law_likepieces_k36_traits_told" 323) none (.ref 181) .none)),#[]⟩) ::
 (nat_lit 183,eT) ::
 (nat_lit 186,eC "_law_turned" 428 429 430 179 3 3 183 184 .none .none 185 431 432) ::
 (nat_lit 187,⟨(.type "function"),none,(.func (PySem.W.fnOf "_law_turned" "_law_turned" (Z0o (top 36)) (Z0n (top 36)) (Z04 (top 36)) .none .none .none (.str "law_likepieces_k36_traits_told" 323) none (.ref 186) .none)),#[]⟩) ::
 (nat_lit 188,eT) ::
 (nat_lit 190,⟨(.type "tuple"),none,(.seq #[(.str "_law_e" 437),(.str "_law_at" 438),(.str "_law_leaf_here" 439),(.str "_law_inner" 440),(.str "_law_k" 441),(.str "_law_long" 442)] 0),#[]⟩) ::
 (nat_lit 191,eT) ::
 (nat_lit 193,eC "_law_spoilt" 434 435 436 183 3 3 188 189 (.ref 190) (.ref 191) 192 443 444) ::
 (nat_lit 194,⟨(.type "function"),none,(.func (PySem.W.fnOf "_law_spoilt" "_law_spoilt" (Z0o (top 37)) (Z0n (top 37)) (Z04 (top 37)) .none .none .none (.str "law_likepieces_k36_traits_told" 323) none (.ref 193) .none)),#[]⟩) ::
 (nat_lit 195,eT) ::
 (nat_lit 198,eC "_law_copied" 446 447 448 194 5 3 195 196 .none .none 197 449 450) ::
 (nat_lit 199,⟨(.type "function"),none,(.func (PySem.W.fnOf "_law_copied" "_law_copied" (Z0o (top 38)) (Z0n (top 38)) (Z04 (top 38)) .none .none .none (.str "law_likepieces_k36_traits_told" 323) none (.ref 198) .none)),#[]⟩) ::
 (nat_lit 200,eT) ::
 (nat_lit 203,eC "_law_bound" 452 453 454 212 6 3 200 201 .none .none 202 455 456) ::
 (nat_lit 204,⟨(.type "function"),none,(.func (PySem.W.fnOf "_law_bound" "_law_bound" (Z0o (top 39)) (Z0n (top 39)) (Z04 (top 39)) .none .none .none (.str "law_likepieces_k36_traits_told" 323) none (.ref 203) .none)),#[]⟩) ::
 (nat_lit 205,eT) ::
 (nat_lit 208,eC "_law_called" 458 459 460 223 5 3 205 206 .none .none 207 461 462) ::
 (nat_lit 209,⟨(.type "function"),none,(.func (PySem.W.fnOf "_law_called" "_law_called" (Z0o (top 40)) (Z0n (top 40)) (Z04 (top 40)) .none .none .none (.str "law_likepieces_k36_traits_told" 323) none (.ref 208) .none)),#[]⟩) ::
 (nat_lit 210,eT) ::
 (nat_lit 213,eC "_law_expr" 464 465 466 232 5 3 210 211 .none .none 212 467 468) ::
 (nat_lit 214,⟨(.type "function"),none,(.func (PySem.W.fnOf "_law_expr" "_law_expr" (Z0o (top 41)) (Z0n (top 41)) (Z04 (top 41)) .none .none .none (.str "law_likepieces_k36_traits_told" 323) none (.ref 213) .none)),#[]⟩) ::
 (nat_lit 215,eT) ::
 (nat_lit 217,⟨(.type "tuple"),none,(.seq #[(.str "_law_names_here" 473),(.str "_law_lets" 474),(.str "_law_functions" 475),(.str "_law_works" 476),(.str "_law_room" 477),(.str "_law_toil" 478)] 0),#[]⟩) ::
 (nat_lit 218,eT) ::
 (nat_lit 220,eC "_law_world" 470 471 472 259 6 3 215 216 (.ref 217) (.ref 218) 219 479 480) ::
 (nat_lit 221,⟨(.type "function"),none,(.func (PySem.W.fnOf "_law_world" "_law_world" (Z0o (top 42)) (Z0n (top 42)) (Z04 (top 42)) .none .none .none (.str "law_likepieces_k36_traits_told" 323) none (.ref 220) .none)),#[]⟩) ::
 (nat_lit 229,eT) ::
 (nat_lit 232,eC "_law_setting" 494 495 496 270 2 3 229 230 .none .none 231 497 498) ::
 (nat_lit 233,⟨(.type "function"),none,(.func (PySem.W.fnOf "_law_setting" "_law_setting" (Z0o (top 44)) (Z0n (top 44)) (Z04 (top 44)) .none .none .none (.str "law_likepieces_k36_traits_told" 323) none (.ref 232) .none)),#[]⟩) ::
 (nat_lit 234,eT) ::
 (nat_lit 237,eC "_law_bare" 500 501 502 290 2 3 234 235 .none .none 236 503 504) ::
 (nat_lit 238,⟨(.type "function"),none,(.func (PySem.W.fnOf "_law_bare" "_law_bare" (Z0o (top 45)) (Z0n (top 45)) (Z04 (top 45)) .none .none .none (.str "law_likepieces_k36_traits_told" 323) none (.ref 237) .none)),#[]⟩) ::
 (nat_lit 239,eT) ::
 (nat_lit 241,⟨(.type "tuple"),none,(.seq #[(.str "_law_b" 509),(.str "_law_holds" 510),(.str "_law_called_here" 511),(.str "_law_found" 512),(.str "_law_params" 513),(.str "_law_body" 514),(.str "_law_part" 515)] 0),#[]⟩) ::
 (nat_lit 242,eT) ::
 (nat_lit 244,eC "_law_seen" 506 507 508 296 3 3 239 240 (.ref 241) (.ref 242) 243 516 517) ::
 (nat_lit 245,⟨(.type "function"),none,(.func (PySem.W.fnOf "_law_seen" "_law_seen" (Z0o (top 46)) (Z0n (top 46)) (Z04 (top 46)) .none .none .none (.str "law_likepieces_k36_traits_told" 323) none (.ref 244) .none)),#[]⟩) ::
 (nat_lit 246,eT) ::
 (nat_lit 248,⟨(.type "tuple"),none,(.seq #[(.str "_law_functions" 522),(.str "_law_called_here" 523),(.str "_law_name_here" 524),(.str "_law_params" 525),(.str "_law_body" 526)] 0),#[]⟩) ::
 (nat_lit 249,eT) ::
 (nat_lit 251,eC "_law_called_by" 519 520 521 304 1 3 246 247 (.ref 248) (.ref 249) 250 527 528) ::
 (nat_lit 252,⟨(.type "function"),none,(.func (PySem.W.fnOf "_law_called_by" "_law_called_by" (Z0o (top 47)) (Z0n (top 47)) (Z04 (top 47)) .none .none .none (.str "law_likepieces_k36_traits_told" 323) none (.ref 251) .none)),#[]⟩) ::
 (nat_lit 253,eT) ::
 (nat_lit 256,eC "_law_traits" 530 531 532 309 1 3 253 254 .none .none 255 533 534) ::
 (nat_lit 257,⟨(.type "function"),none,(.func (PySem.W.fnOf "_law_traits" "_law_traits" (Z0o (top 48)) (Z0n (top 48)) (Z04 (top 48)) .none .none .none (.str "law_likepieces_k36_traits_told" 323) none (.ref 256) .none)),#[]⟩) ::
 (nat_lit 258,eT) ::
 (nat_lit 260,⟨(.type "tuple"),none,(.seq #[(.str "_law_found" 539),(.str "_law_due" 540),(.str "_law_k" 541)] 0),#[]⟩) ::
 (nat_lit 261,eT) ::
 (nat_lit 263,eC "_law_alike" 536 537 538 317 2 3 258 259 (.ref 260) (.ref 261) 262 542 543) ::
 (nat_lit 264,⟨(.type "function"),none,(.func (PySem.W.fnOf "_law_alike" "_law_alike" (Z0o (top 49)) (Z0n (top 49)) (Z04 (top 49)) .none .none .none (.str "law_likepieces_k36_traits_told" 323) none (.ref 263) .none)),#[]⟩) ::
 (nat_lit 265,eT) ::
 (nat_lit 267,⟨(.type "tuple"),none,(.seq #[(.str "_law_script" 548),(.str "_law_feed_here" 549),(.str "_law_functions" 550),(.str "_law_world_here" 551),(.str "_law_program" 552),(.str "_law_called_here" 553),(.str "_law_k" 554),(.str "_law_pool" 555),(.str "_law_at" 556),(.str "_law_holds" 557),(.str "_law_b" 558),(.str "_law_due" 559)] 0),#[]⟩) ::
 (nat_lit 268,eT) ::
 (nat_lit 270,eC "law" 545 546 547 324 1 3 265 266 (.ref 267) (.ref 268) 269 560 561) ::
 (nat_lit 271,⟨(.type "function"),none,(.func (PySem.W.fnOf "law" "law" (Z0o (top 50)) (Z0n (top 50)) (Z04 (top 50)) .none .none .none (.str "law_likepieces_k36_traits_told" 323) none (.ref 270) .none)),#[]⟩) :: []
def hdA:List Addr:=[2,3,15,18,19,20,23,24,25,28,29,30,32,33,35,36,37,39,40,42,43,44,46,47,49,50,51,53,54,56,57,58,61,62,63,65,66,68,69,70,71,72,73,76,77,78,81,82,83,85,86,88,89,90,93,94,95,97,98,100,101,102,104,105,107,108,109,111,112,114,115,116,118,119,121,122,123,125,126,128,129,130,132,133,135,136,137,139,140,142,143,144,146,147,149,150,151,154,155,156,159,160,161,164,165,166,169,170,171,174,175,176,178,179,181,182,183,186,187,188,190,191,193,194,195,198,199,200,203,204,205,208,209,210,213,214,215,217,218,220,221,229,232,233,234,237,238,239,241,242,244,245,246,248,249,251,252,253,256,257,258,260,261,263,264,265,267,268,270,271]
abbrev hdL:List Str:=[]
abbrev hdN:Nat:=2784
abbrev hdH:PySem.W.Hook:=PySem.W.kHook hdK hdA (fun _=>by kernel_rfl)
theorem hdS:PySem.Challenge.rw_likepieces_k36_traits_told.wellSaid=true:=by decide+kernel
set_option maxHeartbeats 0 in
open PySem.W.Fast in
theorem hdT:PySem.W.LeftO (PySem.Challenge.rw_likepieces_k36_traits_told).row.toRowW.prog hdQ hdL (fun s=>PySem.W.xlAt hdQ [] s&&PySem.W.recOk (PySem.W.RowW.records (PySem.Challenge.rw_likepieces_k36_traits_told).row.toRowW) s) (PySem.W.Hook.obs hdH) (PySem.W.Hook.val hdH) hdN:=by
 intro w
 unfold PySem.W.openEnds PySem.W.fencedOpening PySem.W.topFrom
 rw[te10274390034422433532,te1435165496053646825,te14289696077712309145,te14082659384304107361,te4187177175401517315,te14364793385576792824,te8920871248978507458,te5923862056798008813]
 kernel_rfl
end K36
namespace L2
open PySem PySem.Spec PyProof.Rows
abbrev Key:=Sum Int Str
def Zdf:Key->Value->Bool
 | .inl k,v=>Value.isInt k v
 | .inr x,v=>Value.isStrOf x v
def Zqi (w:World):Key->Int
 | .inl k=>hashInt k
 | .inr x=>hashStr w x
theorem Z1k:∀{k:Key} {v:Value},Zdf k v=true->(∃i t,k=Sum.inl i/\v=Value.int i t)∨(∃x t,k=Sum.inr x/\v=Value.str x t)
 | .inl i,v,h=>by
  obtain⟨t,e⟩:=Value.isInt_shape (k:=i) (v:=v) h
  exact .inl ⟨i,t,rfl,e⟩
 | .inr x,v,h=>by
  obtain⟨t,e⟩:=Value.isStrOf_shape (x:=x) (v:=v) h
  exact .inr ⟨x,t,rfl,e⟩
theorem Zep (i:Int)(t:Tok):Zdf (.inl i) (.int i t)=true:=by simp [Zdf,Value.isInt]
theorem Zeq (x:Str)(t:Tok):Zdf (.inr x) (.str x t)=true:=by simp [Zdf,Value.isStrOf]
theorem Zml (a b:Int):decide ((Sum.inl a:Key)=Sum.inl b)=(a==b):=by
 by_cases e:a=b
 ·subst e;simp
 ·have h:¬ (Sum.inl a:Key)=Sum.inl b:=fun q=>e (Sum.inl.inj q)
  rw[decide_eq_false h]
  exact(beq_eq_false_iff_ne.mpr e).symm
theorem Zmm (a b:Str):decide ((Sum.inr a:Key)=Sum.inr b)=decide (a=b):=by
 by_cases e:a=b
 ·subst e;simp
 ·have h:¬ (Sum.inr a:Key)=Sum.inr b:=fun q=>e (Sum.inr.inj q)
  rw[decide_eq_false h,decide_eq_false e]
theorem Zmn (a:Int)(b:Str):decide ((Sum.inl a:Key)=Sum.inr b)=false:=decide_eq_false (fun q=>nomatch q)
theorem Zmo (a:Str)(b:Int):decide ((Sum.inr a:Key)=Sum.inl b)=false:=decide_eq_false (fun q=>nomatch q)
def Z1l (prog:Program)(w:World):PySem.KeyKind prog w Key where
 is:=Zdf
 hash:=Zqi w
 inj:=fun v a b ha hb=>by
  rcases Z1k ha with ⟨i,t,rfl,rfl⟩|⟨x,t,rfl,rfl⟩
  ·rcases Z1k hb with ⟨j,u,rfl,e⟩|⟨y,u,rfl,e⟩
   ·injection e with e1 _;rw[e1]
   ·exact nomatch e
  ·rcases Z1k hb with ⟨j,u,rfl,e⟩|⟨y,u,rfl,e⟩
   ·exact nomatch e
   ·injection e with e1 _;rw[e1]
 byValue:=fun k v h=>by
  rcases Z1k h with ⟨i,t,rfl,rfl⟩|⟨x,t,rfl,rfl⟩ <;> rfl
 pyHash:=fun hv h=>by
  rcases Z1k hv with ⟨i,t,rfl,rfl⟩|⟨x,t,rfl,rfl⟩
  ·exact wpAny_pyHash_int h
  ·exact wpAny_pyHash_str h
 eqBool:=fun hu hv h=>by
  rcases Z1k hu with ⟨i,t,rfl,rfl⟩|⟨x,t,rfl,rfl⟩
  ·rcases Z1k hv with ⟨j,u,rfl,rfl⟩|⟨y,u,rfl,rfl⟩
   ·rw[Zml] at h;exact wpAny_eqBool_int h
   ·rw[Zmn] at h;exact SeqAt.EqAt.int_str i t y u _ _ _ _ h
  ·rcases Z1k hv with ⟨j,u,rfl,rfl⟩|⟨y,u,rfl,rfl⟩
   ·rw[Zmo] at h;exact SeqAt.EqAt.str_int x t j u _ _ _ _ h
   ·rw[Zmm] at h;exact wpAny_eqBool_str h
 «strs» := fun k x t v h => by
  rcases Z1k h with ⟨i,u,rfl,e⟩|⟨y,u,rfl,e⟩
  ·exact nomatch e
  ·injection e with e1 _
   subst e1
   cases v <;> rfl
theorem Zb0 (prog:Program)(w:World)(i:Int)(t:Tok):(Z1l prog w).is (.inl i) (.int i t)=true:=Zep i t
theorem Zb1 (prog:Program)(w:World)(x:Str)(t:Tok):(Z1l prog w).is (.inr x) (.str x t)=true:=Zeq x t
inductive V where
 |non|bl (b:Bool)|int (i:Int)|str (x:Str)|byt (b:Array UInt8)|flt (b:UInt64)|ref (a:Addr)|ty (n:String)
 deriving DecidableEq
def RelV:V->Value->Prop
 | .non,u=>u=Value.none
 | .bl b,u=>u=Value.bool b
 | .int i,u=>∃t,u=Value.int i t
 | .str x,u=>∃t,u=Value.str x t
 | .byt b,u=>∃t,u=Value.bytes b t
 | .flt b,u=>∃t,u=Value.float b t
 | .ref a,u=>u=Value.ref a
 | .ty n,u=>u=Value.type n
abbrev Vals:List V->List Value->Prop:=Paired RelV
theorem Vals.length {xs:List V}{us:List Value}(r:Vals xs us):xs.length=us.length:=Paired.length r
theorem Vals.get:∀{xs:List V} {us:List Value} {i:Nat} {x:V},Vals xs us->xs[i]? = some x->∃u,us[i]? = some u/\RelV x u
 |_,_,_,_,.nil,e=>by simp at e
 |_,_,0,_,.cons r _,e=>by simp at e;subst e;exact⟨_,rfl,r⟩
 |_,_,i+1,x,.cons _ t,e=>by
  obtain⟨u,h1,h2⟩:=Vals.get (i:=i) (x:=x) t (by simpa using e)
  exact⟨u,by simpa using h1,h2⟩
theorem Vals.set {x:V}{u:Value}(r:RelV x u):∀{xs:List V} {us:List Value} (i:Nat),Vals xs us->Vals (xs.set i x) (us.set i u)
 |_,_,_,.nil=>.nil
 |_,_,0,.cons _ t=>.cons r t
 |_,_,i+1,.cons q t=>.cons q (Vals.set r i t)
theorem Vals.append:∀{xs ys:List V} {us ws:List Value},Vals xs us->Vals ys ws->Vals (xs++ys) (us++ws)
 |_,_,_,_,.nil,s=>s
 |_,_,_,_,.cons r t,s=>.cons r (Vals.append t s)
theorem Vals.take:∀{xs:List V} {us:List Value} (n:Nat),Vals xs us->Vals (xs.take n) (us.take n)
 |_,_,0,_=>.nil
 |_,_,_+1,.nil=>.nil
 |_,_,n+1,.cons r t=>.cons r (Vals.take n t)
theorem Vals.drop:∀{xs:List V} {us:List Value} (n:Nat),Vals xs us->Vals (xs.drop n) (us.drop n)
 |_,_,0,r=>r
 |_,_,_+1,.nil=>.nil
 |_,_,n+1,.cons _ t=>Vals.drop n t
def RelO:Option V->Option Value->Prop
 |some v,some u=>RelV v u
 |none,none=>True
 |_,_=>False
def KV {κ : Type}:List (κ × V)->List (κ × Value)->Prop:=Paired fun(p : κ × V) (q : κ × Value)=>p.1=q.1/\RelV p.2 q.2
def kV:Key->V
 | .inl i=>.int i
 | .inr x=>.str x
inductive HO where
 |lst (xs:List V)
 |tup (xs:List V)
 |dK (kvs:List (Key×V))|dT (kvs:List (List Key×V))
 |set (S:Int->Bool) (n:Nat)
 |ins (C dx:Addr) (fs:List (Str×V))
 |own (x:Addr)
 |xd (fs:List (Str×V))
 |met (f x:Addr)
 |rng (lo hi:Int)
 |frz (o:Obj) (u:HO)
 |tbl (ps:Array Value)
 |ext (φ : Heap->Prop)
abbrev Hp:=Addr->Option HO
def upd (H:Hp)(a:Addr)(o:HO):Hp:=fun b=>if b=a then some o else H b
theorem Z00 {H:Hp}{a:Addr}{o:HO}:upd H a o a=some o:=by unfold upd;rw[if_pos rfl]
theorem Z0c {H:Hp}{a b:Addr}{o:HO}(h:b≠a):upd H a o b=H b:=by unfold upd;rw[if_neg h]
theorem Z3c {H:Hp}{a b:Addr}{o u:HO}(h:H a=some o)(h':H b=some u)(d:o≠u):a≠b:=by
 intro e;subst e;rw[h] at h';exact d (Option.some.inj h')
theorem Z0j {H:Hp}{a b:Addr}{o:HO}(h:H a=some o)(h':H b=none):a≠b:=by
 intro e;subst e;rw[h] at h';cases h'
section
variable (P:Program)(w:World)
def ObjOk (H:Hp)(h:Heap)(a:Addr):HO->Prop
 | .lst xs=>xs.length<=sizeLine/\∃(its:List Value) (n:Nat),Vals xs its/\h.get? a=some { cls:=.type "list",data:=.seq its.toArray n }
 | .tup xs=>xs.length<=sizeLine/\∃its:List Value,Vals xs its/\IsTup h a its.toArray
 | .dK kvs=>kvs.length<=sizeLine/\(a==sysModules)=false/\∃vs,KV kvs vs/\h.DictOf (Z1l P w) a vs
 | .dT kvs=>kvs.length<=sizeLine/\(a==sysModules)=false/\∃xs:List (List Key×Addr×Value),
   Paired (fun(p:List Key×V) (q:List Key×Addr×Value)=>p.1=q.1/\H q.2.1=some (.tup (p.1.map kV))/\RelV p.2 q.2.2) kvs xs ∧
   ∃o es ep,h.get? a=some o/\o.ExactDict/\o.data = .dict es ep/\es.toList=xs.map (entryOfKey (tupleKind (Z1l P w)))/\(xs.map (·.1)).Nodup
 | .set S n=>h.SetOf (intKind P w) a S n
 | .ins C dx fs=>H dx=some (.own a)/\fs.length<=1000/\dx≠a/\h.get? a=some (PySem.W.instObj C dx) ∧
   ∃mA,h.Ns1 dx mA/\(∀f,RelO (fs.lookup f) (mA f))/\PySem.Within mA (fs.map (·.1))
 | .own _=>∃o,h.get? a=some o
 | .xd fs=>∃mA,h.Ns1 a mA/\∀f,RelO (fs.lookup f) (mA f)
 | .rng lo hi=>∃t u v,h.get? a=some { cls:=.type "range",data:=.fields #[.int lo t,.int hi u,.int 1 v] }
 | .frz o u=>h.get? a=some o/\ObjOk H h a u
 | .tbl ps=>h.get? a=some { cls:=.none,data:=.fields ps }
 | .met f x=>h.get? a=some (PySem.W.methodObj (.ref f) (.ref x))
 | .ext φ => φ h/\(∃o,h.get? a=some o)/\∀h1 h2:Heap,φ h1->(∀o,h1.get? a=some o->h2.get? a=some o) -> φ h2
def HOk (H:Hp)(h:Heap):Prop:=∀a o,H a=some o->ObjOk P w H h a o
end
section
variable {P:Program}{w:World}{H H':Hp}{h h':Heap}{a:Addr}{o:HO}
theorem ObjOk.lt (x:ObjOk P w H h a o):a<h.objs.size:=by
 cases o with
 |lst xs=>obtain⟨_,_,_,_,e⟩:=x;exact Heap.lt_size e
 |tup xs=>obtain⟨_,_,_,p⟩:=x;exact p.lt
 |dK kvs=>obtain⟨_,_,_,_,o,_,_,e,_⟩:=x;exact Heap.lt_size e
 |dT kvs=>obtain⟨_,_,_,_,o,_,_,e,_⟩:=x;exact Heap.lt_size e
 |set S n=>obtain⟨o,_,_,_,e,_⟩:=x;exact Heap.lt_size e
 |ins C dx fs=>obtain⟨_,_,_,e,_⟩:=x;exact Heap.lt_size e
 |own y=>obtain⟨_,e⟩:=x;exact Heap.lt_size e
 |xd fs=>obtain⟨_,⟨_,_,_,e,_⟩,_⟩:=x;exact Heap.lt_size e
 |rng lo hi=>obtain⟨_,_,_,e⟩:=x;exact Heap.lt_size e
 |frz ob u=>obtain⟨e,_⟩:=x;exact Heap.lt_size e
 |tbl ps=>exact Heap.lt_size (show h.get? a=some _ from x)
 |met f y=>exact Heap.lt_size (show h.get? a=some _ from x)
 |ext φ => obtain⟨_,⟨_,e⟩,_⟩:=x;exact Heap.lt_size e
theorem Paired.mapP {α β : Type}{F G : α -> β -> Prop}:∀{l₁:List α} {l₂:List β},Paired F l₁ l₂->(∀a b,F a b->G a b)->Paired G l₁ l₂
 |_,_,.nil,_=>.nil
 |_,_,.cons r t,f=>.cons (f _ _ r) (Paired.mapP t f)
theorem ObjOk.stay (x:ObjOk P w H h a o)(k:∀b u,(b=a∨H b=some (.own a))->h.get? b=some u->h'.get? b=some u)
  (ho:∀b,H b=some (.own a)->H' b=some (.own a)) (ht:∀b xs,H b=some (.tup xs)->H' b=some (.tup xs)):ObjOk P w H' h' a o:=by
 induction o with
 |lst xs=>obtain⟨z,its,n,r,e⟩:=x;exact⟨z,its,n,r,k _ _ (.inl rfl) e⟩
 |tup xs=>obtain⟨z,its,r,ob,e,c⟩:=x;exact⟨z,its,r,ob,k _ _ (.inl rfl) e,c⟩
 |dK kvs=>obtain⟨z,y,vs,r,ob,es,ep,e,c⟩:=x;exact⟨z,y,vs,r,ob,es,ep,k _ _ (.inl rfl) e,c⟩
 |dT kvs=>
  obtain⟨z,y,xs,r,ob,es,ep,e,c⟩:=x
  exact⟨z,y,xs,Paired.mapP r fun p q z=>⟨z.1,ht _ _ z.2.1,z.2.2⟩,ob,es,ep,k _ _ (.inl rfl) e,c⟩
 |set S n=>obtain⟨ob,es,ep,t,e,c⟩:=x;exact⟨ob,es,ep,t,k _ _ (.inl rfl) e,c⟩
 |ins C dx fs=>
  obtain⟨d,z,ne,e,mA,⟨od,es,ep,e2,c⟩,r⟩:=x
  exact⟨ho _ d,z,ne,k _ _ (.inl rfl) e,mA,⟨od,es,ep,k _ _ (.inr d) e2,c⟩,r⟩
 |own y=>obtain⟨ob,e⟩:=x;exact⟨ob,k _ _ (.inl rfl) e⟩
 |xd fs=>obtain⟨mA,⟨od,es,ep,e,c⟩,r⟩:=x;exact⟨mA,⟨od,es,ep,k _ _ (.inl rfl) e,c⟩,r⟩
 |rng lo hi=>obtain⟨t,u,v,e⟩:=x;exact⟨t,u,v,k _ _ (.inl rfl) e⟩
 |frz ob u ih=>obtain⟨e,q⟩:=x;exact⟨k _ _ (.inl rfl) e,ih q⟩
 |tbl ps=>
  have e:h.get? a=some { cls:=.none,data:=.fields ps }:=x
  show h'.get? a=some { cls:=.none,data:=.fields ps }
  exact k a _ (.inl rfl) e
 |met f y=>
  have e:h.get? a=some (PySem.W.methodObj (.ref f) (.ref y)):=x
  show h'.get? a=some (PySem.W.methodObj (.ref f) (.ref y))
  exact k a _ (.inl rfl) e
 |ext φ => obtain⟨p,⟨o,e⟩,st⟩:=x;exact⟨st _ _ p fun o q=>k _ _ (.inl rfl) q,⟨o,k _ _ (.inl rfl) e⟩,st⟩
theorem HOk.lt (x:HOk P w H h)(e:H a=some o):a<h.objs.size:=(x a o e).lt
theorem HOk.fresh (x:HOk P w H h)(e:h.objs.size<=a):H a=none:=by
 cases q:H a with
 |none=>rfl
 |some u=>exact absurd (Nat.lt_of_lt_of_le (x.lt q) e) (Nat.lt_irrefl _)
theorem HOk.kept (x:HOk P w H h)(k:∀b u,h.get? b=some u->h'.get? b=some u):HOk P w H h':=fun a o e=>
 (x a o e).stay (fun b u _ q=>k b u q) (fun _ q=>q) fun _ _ q=>q
theorem HOk.laid (x:HOk P w H h)(k:∀b u,h.get? b=some u->h'.get? b=some u)(hp:h.objs.size<=a)(new:ObjOk P w (upd H a o) h' a o):HOk P w (upd H a o) h':=fun b u e=>by
 have hn:=x.fresh hp
 by_cases hb:b=a
 ·subst hb;rw[Z00] at e;cases e;exact new
 ·rw[Z0c hb] at e
  exact(x b u e).stay (fun c v _ q=>k c v q) (fun c q=>by rw[Z0c (Z0j q hn)];exact q) fun c xs q=>by rw[Z0c (Z0j q hn)];exact q
end
def Rd (H:Hp)(a:Addr)(u:HO):Prop:=H a=some u∨∃o,H a=some (.frz o u)
theorem Rd.of {H:Hp}{a:Addr}{u:HO}(h:H a=some u):Rd H a u:=.inl h
theorem Rd.ok {P:Program}{w:World}{H:Hp}{h:Heap}{a:Addr}{u:HO}(r:Rd H a u)(x:HOk P w H h):ObjOk P w H h a u:=by
 rcases r with r|⟨o,r⟩
 ·exact x a u r
 ·obtain⟨_,q⟩:=x a _ r
  exact q
def Mut:Option HO->Prop
 |some (.lst _)=>True
 |some (.dK _)=>True
 |some (.dT _)=>True
 |some (.set _ _)=>True
 |some (.ins _ _ _)=>True
 |some (.ext _)=>True
 |_=>False
section
variable {P:Program}{w:World}{H:Hp}{h h':Heap}{x e:Addr}{o':HO}
theorem HOk.write (ok:HOk P w H h)(mu:Mut (H x))(he:e=x∨H e=some (.own x))(k:∀b u,b≠e->h.get? b=some u->h'.get? b=some u)(heo:∃u,h'.get? e=some u)
  (new:ObjOk P w (upd H x o') h' x o'):HOk P w (upd H x o') h':=fun b u q=>by
 have nown:∀c y,H c=some (.own y)->c≠x:=fun c y r z=>by subst z;rw[r] at mu;exact mu
 have ntup:∀c xs,H c=some (.tup xs)->c≠x:=fun c xs r z=>by subst z;rw[r] at mu;exact mu
 by_cases hb:b=x
 ·subst hb;rw[Z00] at q;cases q;exact new
 ·rw[Z0c hb] at q
  by_cases hbe:b=e
  ·have q':H b=some (.own x):=by
    rcases he with z|z
    ·exact absurd (hbe.trans z) hb
    ·rw[hbe];exact z
   rw[q] at q';cases q'
   obtain⟨v,hv⟩:=heo
   exact⟨v,by rw[hbe];exact hv⟩
  ·refine(ok b u q).stay (fun c v hc r=>k c v ?_ r) (fun c r=>by rw[Z0c (nown c b r)];exact r) fun c xs r=>by rw[Z0c (ntup c xs r)];exact r
   rcases hc with rfl|hc
   ·exact hbe
   ·rintro rfl
    rcases he with z|z
    ·exact nown c b hc z
    ·rw[hc] at z;cases z;exact hb rfl
end
structure Un (fs ex:List Addr)(H H':Hp)(h h':Heap):Prop where
 keep:∀b o,h.get? b=some o->H b=none->b∉fs->b∉ex->h'.get? b=some o
 slot:∀b o,h.get? b=some o->H b=none->b∈fs->b∉ex->∃sl,h'.get? b=some { o with slots:=sl }
 free:∀b o,h.get? b=some o->H b=none->b∉ex->H' b=none
 there:∀b o,h.get? b=some o->b∉ex->∃o',h'.get? b=some o'
 tups:∀b xs,H b=some (.tup xs)->H' b=some (.tup xs)
 frzs:∀b o u,H b=some (.frz o u)->H' b=some (.frz o u)
 tbls:∀b ps,H b=some (.tbl ps)->∃more,H' b=some (.tbl (ps++more))
section
variable {fs fs' ex ex':List Addr}{H H1 H2:Hp}{h h1 h2 h':Heap}{a x e:Addr}{o:HO}
theorem Un.any (u:Un fs ex H H1 h h1){b:Addr}{ob:Obj}(q:h.get? b=some ob)(n:H b=none)(hx:b∉ex):∃sl,h1.get? b=some { ob with slots:=sl }:=by
 by_cases hb:b∈fs
 ·exact u.slot b ob q n hb hx
 ·exact⟨ob.slots,u.keep b ob q n hb hx⟩
theorem Un.kept (k:∀b u,h.get? b=some u->h'.get? b=some u):Un fs ex H H h h':=
 ⟨fun b ob q _ _ _=>k b ob q,fun b ob q _ _ _=>⟨ob.slots,k b ob q⟩,fun _ _ _ n _=>n,fun b ob q _=>⟨ob,k b ob q⟩,fun _ _ q=>q,fun _ _ _ q=>q,fun _ ps q=>⟨#[],by rw[q];simp⟩⟩
theorem Un.refl:Un fs ex H H h h:=Un.kept fun _ _ q=>q
theorem Un.laid (k:∀b u,h.get? b=some u->h'.get? b=some u)(hp:h.objs.size<=a)(hn:H a=none):Un fs ex H (upd H a o) h h' where
 keep:=fun b u q _ _ _=>k b u q
 slot:=fun b u q _ _ _=>⟨u.slots,k b u q⟩
 free:=fun b u q n _=>by rw[Z0c (Nat.ne_of_lt (Nat.lt_of_lt_of_le (Heap.lt_size q) hp))];exact n
 there:=fun b u q _=>⟨u,k b u q⟩
 tups:=fun b xs q=>by rw[Z0c (Z0j q hn)];exact q
 frzs:=fun b u xs q=>by rw[Z0c (Z0j q hn)];exact q
 tbls:=fun b ps q=>⟨#[],by rw[Z0c (Z0j q hn),q];simp⟩
theorem Un.write (mu:Mut (H x))(he:e=x∨H e=some (.own x))(k:∀b u,b≠e->h.get? b=some u->h'.get? b=some u)(heo:∃u,h'.get? e=some u):Un fs ex H (upd H x o) h h':=by
 have hx:∀b,H b=none->b≠x:=fun b n z=>by subst z;rw[n] at mu;exact mu
 have hb:∀b,H b=none->b≠e:=fun b n z=>by
  subst z
  rcases he with r|r
  ·exact hx b n r
  ·rw[n] at r;cases r
 have hm:∀b u,H b=some u->¬Mut (some u)->b≠x:=fun b u q nm z=>by subst z;rw[q] at mu;exact nm mu
 refine⟨fun b u q n _ _=>k b u (hb b n) q,fun b u q n _ _=>⟨u.slots,k b u (hb b n) q⟩,fun b u q n _=>by rw[Z0c (hx b n)];exact n,fun b u q _=>?_,
  fun b xs q=>by rw[Z0c (hm b _ q fun z=>z)];exact q,fun b u xs q=>by rw[Z0c (hm b _ q fun z=>z)];exact q,fun b ps q=>⟨#[],by rw[Z0c (hm b _ q fun z=>z),q];simp⟩⟩
 by_cases hbe:b=e
 ·subst hbe;exact heo
 ·exact⟨u,k b u hbe q⟩
end
def trk (h:Heap)(H:Hp):List Addr:=(List.range h.objs.size).filter fun a=>(H a).isSome
def Zho (h:Heap)(H:Hp):Heap:=PySem.W.hideAll h (trk h H)
theorem Zer (h:Heap)(H:Hp):(Zho h H).objs.size=h.objs.size:=PySem.W.hideAll_size _ _
theorem Zhp {h:Heap}{H:Hp}{b:Addr}{o:Obj}(e:h.get? b=some o)(n:H b=none):(Zho h H).get? b=some o:=
 PySem.W.hideAll_get _ e fun hm=>by
  have q:(H b).isSome=true:=(mem_filter.mp hm).2
  rw[n] at q;simp at q
theorem Zkh {h:Heap}{H:Hp}{b:Addr}{o:Obj}(e:(Zho h H).get? b=some o):h.get? b=some o/\H b=none:=by
 have e':h.get? b=some o:=PySem.W.of_hideAll (trk h H) e
 refine⟨e',?_⟩
 cases q:H b with
 |none=>rfl
 |some x=>
  have hm:b∈trk h H:=mem_filter.mpr ⟨mem_range.mpr (Heap.lt_size e'),by simp [q]⟩
  have z:(Zho h H).get? b=none:=PySem.W.hideAll_none (trk h H) hm
  rw[z] at e;cases e
structure Mod (K:W.Frag)(mg:Str->Option Value)(base:Heap):Prop where
 kin:K.In base
 glob:base.Ns mainGlobals mg
 blt:∃mb,base.Ns builtinsNs mb/\∀x:Str,x≠"__name__"->mb x=bootBuiltins x
 nolimit:base.NoLimit
structure Cx where
 prog:Program
 w:World
 K:W.Frag
 mg:Str->Option Value
 base:Heap
 A:Around
 N:List Str
 s₀:Shared
 H₀:Hp
 env:Env
 outer:List Env
 stack:List Env
 ex:List Addr
 fn:Str->Bool
 calm:Bool
 pn:List (Addr×Obj)
 xe:Value->Shared->Prop
def frs (l:List Env):List Addr:=l.filterMap (·.frame)
abbrev Cx.fs (X:Cx):List Addr:=frs X.outer
def Vis (sc:Scope)(x:Str):Prop:=sc.names.lookup x=some .local∨sc.names.lookup x=some .cell∨sc.names.lookup x=some .free
def Loc (sc:Scope)(x:Str):Prop:=sc.names.lookup x=some .local∨sc.names.lookup x=some .cell
def Zqj (env:Env)(h:Heap)(m:Str->Option Value)(x:Str)(u:Value):Prop:=
 (env.kindOf x=some .local/\m x=some u)∨((env.kindOf x=some .cell∨env.kindOf x=some .free)/\∃c,env.cells.lookup x=some c/\h.IsCell c (some u))
structure Cx.Ok (X:Cx):Prop where
 mod:Mod X.K X.mg X.base
 kind:X.env.scope.kind = .function
 glob:X.env.globals=mainGlobals
 blt:X.env.builtins=builtinsNs
 above:X.s₀.heap.objs.size<=X.env.locals
 inj:∀x y c,X.env.cells.lookup x=some c->X.env.cells.lookup y=some c->x=y
 has:∀x,(X.env.kindOf x=some .cell∨X.env.kindOf x=some .free)->∃c,X.env.cells.lookup x=some c
 cab:∀x c,X.fn x=true->X.env.cells.lookup x=some c->X.s₀.heap.objs.size<=c
 hd:X.calm=true->X.A.handled=none
 frames:X.A.frames=some X.stack
 stk:X.stack=X.outer∨(X.stack=X.env::X.outer/\X.env.frame=some X.env.locals)
 exf:∀b∈X.ex,b≠X.env.locals/\∀x c,X.env.cells.lookup x=some c->c≠b
 bs:∀b o,X.base.get? b=some o->X.s₀.heap.get? b=some o/\X.H₀ b=none
 bsz:X.base.objs.size<=X.s₀.heap.objs.size
 noex:∀b o,X.base.get? b=some o->b∉X.ex
 exfs:∀b∈X.ex,b∉X.fs
 funs:X.s₀.heap.FunFrames X.base X.outer
 frf:∀b∈X.fs,X.H₀ b=none
structure Inv (X:Cx)(pins:List (Addr×Obj))(σ:List (Option V))(H:Hp)(s:Shared):Prop where
 ok:X.Ok
 os:s.os=X.s₀.os
 bare:AllBare s.gens
 base:Un X.fs X.ex X.H₀ H X.s₀.heap s.heap
 loc:∃m,s.heap.Ns X.env.locals m/\∀(i:Nat) (x:Str) (v:V),X.N[i]? = some x->σ[i]? = some (some v)->Vis X.env.scope x->∃u,RelV v u/\Zqj X.env s.heap m x u
 cell:∀x c,X.env.cells.lookup x=some c->∃v,s.heap.IsCell c v
 free:H X.env.locals=none
 freeC:∀x c,X.env.cells.lookup x=some c->H c=none
 pin:∀p∈X.pn++pins,s.heap.get? p.1=some p.2/\H p.1=none/\p.1≠X.env.locals/\p.1∉X.fs/\∀v,p.2.data ≠ .cell v
 hok:HOk X.prog X.w H s.heap
 len:σ.length=X.N.length
section
variable {X:Cx}{pins:List (Addr×Obj)}{σ:List (Option V)}{H H':Hp}{s:Shared}{h':Heap}
theorem Cx.Ok.nofr (ok:X.Ok){b:Addr}{o:Obj}(e:X.base.get? b=some o):b∉X.fs:=fun hb=>by
 have:=(ok.funs.mem hb).1
 rw[e] at this;cases this
theorem Inv.bs (I:Inv X pins σ H s):∀b o,X.base.get? b=some o->s.heap.get? b=some o/\H b=none:=fun b o e=>
 ⟨I.base.keep b o (I.ok.bs b o e).1 (I.ok.bs b o e).2 (I.ok.nofr e) (I.ok.noex b o e),I.base.free b o (I.ok.bs b o e).1 (I.ok.bs b o e).2 (I.ok.noex b o e)⟩
theorem Inv.bk (I:Inv X pins σ H s):∀b o,X.base.get? b=some o->s.heap.get? b=some o:=fun b o e=>(I.bs b o e).1
theorem Inv.mod (I:Inv X pins σ H s):Mod X.K X.mg X.base:=I.ok.mod
theorem Inv.kIn (I:Inv X pins σ H s):X.K.In s.heap:=I.ok.mod.kin.keeps I.bk
theorem Inv.lt (I:Inv X pins σ H s):X.env.locals<s.heap.objs.size:=let ⟨_,hn,_⟩:=I.loc;hn.lt
theorem Inv.sz (I:Inv X pins σ H s):X.s₀.heap.objs.size<=s.heap.objs.size:=Nat.le_trans I.ok.above (Nat.le_of_lt I.lt)
theorem Inv.nofs (I:Inv X pins σ H s){a:Addr}(h:s.heap.objs.size<=a):a∉X.fs:=fun hb=>by
 obtain⟨_,o,ho,_⟩:=I.ok.funs.mem hb
 exact absurd (Nat.lt_of_lt_of_le (Heap.lt_size ho) (Nat.le_trans I.sz h)) (Nat.lt_irrefl _)
theorem Inv.cne (I:Inv X pins σ H s):∀x c,X.env.cells.lookup x=some c->c≠X.env.locals:=fun x c e z=>by
 obtain⟨v,o,ho,hd⟩:=I.cell x c e
 obtain⟨m,⟨o',es,ep,ho',hd',_⟩,_⟩:=I.loc
 rw[z,ho'] at ho;cases ho;rw[hd'] at hd;cases hd
theorem Inv.funs (I:Inv X pins σ H s):s.heap.FunFrames X.base X.outer:=by
 have all:∀(l:List Env),(∀b∈frs l,b∈X.fs)->X.s₀.heap.FunFrames X.base l->s.heap.FunFrames X.base l:=by
  intro l
  induction l with
  |nil=>intro _ _;trivial
  |cons env r ih=>
   intro hs hl
   obtain⟨hk,⟨L,o,hf,hn,ho,hd⟩,hr⟩:=hl
   have hL:L∈X.fs:=hs L (by unfold frs;rw[filterMap_cons,hf];exact mem_cons_self)
   obtain⟨sl,e⟩:=I.base.slot L o ho (I.ok.frf L hL) hL fun z=>I.ok.exfs L z hL
   exact⟨hk,⟨L,_,hf,hn,e,hd⟩,ih (fun b hb=>hs b (by unfold frs;rw[filterMap_cons,hf];exact mem_cons_of_mem _ hb)) hr⟩
 exact all X.outer (fun _ hb=>hb) I.ok.funs
theorem Inv.stack (I:Inv X pins σ H s):s.heap.FunFrames X.base X.stack:=by
 rcases I.ok.stk with e|⟨e,hf⟩
 ·rw[e];exact I.funs
 ·rw[e]
  obtain⟨m,hn,_⟩:=I.loc
  refine .cons (by rw[I.ok.kind];decide) hf hn ?_ I.funs
  exact Heap.get?_none_of_le (Nat.le_trans I.ok.bsz I.ok.above)
theorem Inv.stkSub (I:Inv X pins σ H s):∀b∈frs X.stack,b∈X.env.locals::X.fs:=fun b hb=>by
 rcases I.ok.stk with e|⟨e,hf⟩
 ·rw[e] at hb;exact mem_cons_of_mem _ hb
 ·rw[e] at hb
  unfold frs at hb
  rw[filterMap_cons,hf] at hb
  exact hb
theorem Inv.stkFree (I:Inv X pins σ H s):∀b∈frs X.stack,H b=none:=fun b hb=>by
 rcases mem_cons.mp (I.stkSub b hb) with e|hb
 ·rw[e];exact I.free
 ·obtain⟨_,o,ho,_⟩:=I.ok.funs.mem hb
  exact I.base.free b o ho (I.ok.frf b hb) fun z=>I.ok.exfs b z hb
theorem Inv.step {g':Array GenState}{t':Nat}{d':Drawn}{ch:List Addr}(I:Inv X pins σ H s)
  (hch:∀b∈ch,(b∈X.ex∨X.s₀.heap.objs.size<=b)/\b≠X.env.locals/\(∀x c,X.env.cells.lookup x=some c->c≠b)/\∀p∈X.pn++pins,p.1≠b)
  (keep:∀b o,b≠X.env.locals->b∉X.fs->b∉ch->s.heap.get? b=some o->H b=none->h'.get? b=some o)
  (slot:∀b o,b≠X.env.locals->b∈X.fs->b∉ch->s.heap.get? b=some o->H b=none->∃sl,h'.get? b=some { o with slots:=sl }) (free:∀b o,b∉ch->s.heap.get? b=some o->H b=none->H' b=none)
  (there:∀b o,b∉ch->s.heap.get? b=some o->∃o',h'.get? b=some o')
  (tups:∀b xs,H b=some (.tup xs)->H' b=some (.tup xs)) (frzs:∀b o u,H b=some (.frz o u)->H' b=some (.frz o u)) (tbls:∀b ps,H b=some (.tbl ps)->∃more,H' b=some (.tbl (ps++more)))
  (ns:∀m,s.heap.Ns X.env.locals m->h'.Ns X.env.locals m) (hok:HOk X.prog X.w H' h') (hg:AllBare g'):
  Inv X pins σ H' { s with heap:=h',gens:=g',drawn:=d',toks:=t' }:=by
 have neL:∀b o,X.s₀.heap.get? b=some o->b≠X.env.locals:=fun b o e=>Nat.ne_of_lt (Nat.lt_of_lt_of_le (Heap.lt_size e) I.ok.above)
 have neC:∀b o,X.s₀.heap.get? b=some o->b∉X.ex->b∉ch:=fun b o e hx hb=>by
  rcases(hch b hb).1 with z|z
  ·exact hx z
  ·exact absurd (Nat.lt_of_lt_of_le (Heap.lt_size e) z) (Nat.lt_irrefl _)
 have cellK:∀x c,X.env.cells.lookup x=some c->∀v,s.heap.IsCell c v->h'.IsCell c v:=fun x c e v ⟨o,ho,hd⟩=>by
  have nch:c∉ch:=fun z=>(hch c z).2.2.1 x c e rfl
  by_cases hc:c∈X.fs
  ·obtain⟨sl,q⟩:=slot c o (I.cne x c e) hc nch ho (I.freeC x c e)
   exact⟨_,q,hd⟩
  ·exact⟨o,keep c o (I.cne x c e) hc nch ho (I.freeC x c e),hd⟩
 refine⟨I.ok,I.os,hg,⟨fun b o e n hb hx=>?_,fun b o e n hb hx=>?_,fun b o e n hx=>?_,fun b o e hx=>?_,fun b xs e=>tups b xs (I.base.tups b xs e),fun b o xs e=>frzs b o xs (I.base.frzs b o xs e),fun b ps e=>?_⟩,?_,fun x c e=>?_,?_,fun x c e=>?_,fun p hp=>?_,hok,I.len⟩
 ·exact keep b o (neL b o e) hb (neC b o e hx) (I.base.keep b o e n hb hx) (I.base.free b o e n hx)
 ·obtain⟨sl,e1⟩:=I.base.slot b o e n hb hx
  obtain⟨sl',e2⟩:=slot b _ (neL b o e) hb (neC b o e hx) e1 (I.base.free b o e n hx)
  exact⟨sl',e2⟩
 ·obtain⟨o',e1⟩:=I.base.there b o e hx
  exact free b o' (neC b o e hx) e1 (I.base.free b o e n hx)
 ·obtain⟨o',e1⟩:=I.base.there b o e hx
  exact there b o' (neC b o e hx) e1
 ·obtain⟨m1,e1⟩:=I.base.tbls b ps e
  obtain⟨m2,e2⟩:=tbls b _ e1
  exact⟨m1++m2,by rw[e2,Array.append_assoc]⟩
 ·obtain⟨m,hn,hl⟩:=I.loc
  refine⟨m,ns m hn,fun i x v e1 e2 e3=>?_⟩
  obtain⟨u,r,l⟩:=hl i x v e1 e2 e3
  refine⟨u,r,?_⟩
  rcases l with l|⟨k,c,e,z⟩
  ·exact .inl l
  ·exact .inr ⟨k,c,e,cellK x c e _ z⟩
 ·obtain⟨v,z⟩:=I.cell x c e
  exact⟨v,cellK x c e v z⟩
 ·obtain⟨m,⟨o,_,_,ho,_⟩,_⟩:=I.loc
  exact free _ o (fun z=>(hch _ z).2.1 rfl) ho I.free
 ·obtain⟨v,o,ho,hd⟩:=I.cell x c e
  exact free c o (fun z=>(hch c z).2.2.1 x c e rfl) ho (I.freeC x c e)
 ·obtain⟨e,n,ne,nf,d⟩:=I.pin p hp
  have nch:p.1∉ch:=fun z=>(hch p.1 z).2.2.2 p hp rfl
  exact⟨keep p.1 p.2 ne nf nch e n,free p.1 p.2 nch e n,ne,nf,d⟩
theorem Inv.un {t':Nat}(I:Inv X pins σ H s)(u:Un X.fs [] H H' s.heap h')(hok:HOk X.prog X.w H' h'):Inv X pins σ H' { s with heap:=h',toks:=t' }:=by
 obtain⟨m,⟨o,es,ep,ho,r⟩,_⟩:=id I.loc
 obtain⟨sl,hL⟩:=u.any ho I.free (by simp)
 exact I.step (g':=s.gens) (d':=s.drawn) (ch:=[]) (fun _ z=>nomatch z) (fun b o _ hb _ e n=>u.keep b o e n hb (by simp)) (fun b o _ hb _ e n=>u.slot b o e n hb (by simp)) (fun b o _ e n=>u.free b o e n (by simp)) (fun b o _ e=>u.there b o e (by simp)) u.tups u.frzs u.tbls (fun m' hm=>by
  obtain⟨o',es',ep',ho',r'⟩:=hm
  rw[ho] at ho';cases ho'
  exact⟨_,es',ep',hL,r'⟩) hok I.bare
theorem Inv.call {g':Array GenState}{t':Nat}{d':Drawn}{ch:List Addr}(I:Inv X pins σ H s)(u:Un (frs X.stack) ch H H' s.heap h')(hok:HOk X.prog X.w H' h')(hg:AllBare g')
  (hch:∀b∈ch,(b∈X.ex∨X.s₀.heap.objs.size<=b)/\b≠X.env.locals/\(∀x c,X.env.cells.lookup x=some c->c≠b)/\∀p∈X.pn++pins,p.1≠b):
  Inv X pins σ H' { s with heap:=h',gens:=g',drawn:=d',toks:=t' }:=by
 obtain⟨m,⟨o,es,ep,ho,r⟩,_⟩:=id I.loc
 obtain⟨sl,hL⟩:=u.any ho I.free fun z=>(hch _ z).2.1 rfl
 exact I.step (ch:=ch) hch (fun b o hL hb hc e n=>u.keep b o e n (fun z=>(mem_cons.mp (I.stkSub b z)).elim hL hb) hc) (fun b o _ _ hc e n=>u.any e n hc) (fun b o hc e n=>u.free b o e n hc) (fun b o hc e=>u.there b o e hc) u.tups u.frzs u.tbls (fun m' hm=>by
  obtain⟨o',es',ep',ho',r'⟩:=hm
  rw[ho] at ho';cases ho'
  exact⟨_,es',ep',hL,r'⟩) hok hg
theorem Inv.turned {t':Nat}{it:Addr}(I:Inv X pins σ H s)(k:∀b o,b≠it->s.heap.get? b=some o->h'.get? b=some o)(hn:H it=none)(hL:it≠X.env.locals)
  (h1:it∈X.ex∨X.s₀.heap.objs.size<=it) (h2:∀x c,X.env.cells.lookup x=some c->c≠it) (h3:∀p∈X.pn++pins,p.1≠it):Inv X pins σ H { s with heap:=h',toks:=t' }:=by
 have nit:∀b u,H b=some u->b≠it:=fun b u e z=>by rw[z,hn] at e;cases e
 refine I.step (g':=s.gens) (d':=s.drawn) (ch:=[it]) (fun b hb=>?_) (fun b o _ _ hc e _=>k b o (fun z=>hc (by simp [z])) e) (fun b o _ _ hc e _=>⟨o.slots,k b o (fun z=>hc (by simp [z])) e⟩) (fun _ _ _ _ n=>n)
  (fun b o hc e=>⟨o,k b o (fun z=>hc (by simp [z])) e⟩) (fun _ _ e=>e) (fun _ _ _ e=>e) (fun b ps e=>⟨#[],by rw[e];simp⟩) (fun m hm=>?_) (fun b u e=>?_) I.bare
 ·have e:b=it:=by simpa using hb
  subst e
  exact⟨h1,hL,h2,h3⟩
 ·obtain⟨o,es,ep,ho,r⟩:=hm
  exact⟨o,es,ep,k _ o (Ne.symm hL) ho,r⟩
 ·refine(I.hok b u e).stay (fun c v hc q=>k c v ?_ q) (fun _ q=>q) fun _ _ q=>q
  rcases hc with z|z
  ·rw[z];exact nit b u e
  ·exact nit c _ z
theorem Inv.tok (I:Inv X pins σ H s)(t:Nat):Inv X pins σ H { s with toks:=t }:=I.un (h':=s.heap) (t':=t) Un.refl I.hok
theorem Inv.kept {t':Nat}(I:Inv X pins σ H s)(k:∀b u,s.heap.get? b=some u->h'.get? b=some u):Inv X pins σ H { s with heap:=h',toks:=t' }:=I.un (Un.kept k) (I.hok.kept k)
theorem Inv.laid {a:Addr}{o:HO}{t':Nat}(I:Inv X pins σ H s)(k:∀b u,s.heap.get? b=some u->h'.get? b=some u)(hp:s.heap.objs.size<=a)(new:ObjOk X.prog X.w (upd H a o) h' a o):
  Inv X pins σ (upd H a o) { s with heap:=h',toks:=t' }:=I.un (Un.laid k hp (I.hok.fresh hp)) (I.hok.laid k hp new)
theorem Inv.write {x e:Addr}{o:HO}{t':Nat}(I:Inv X pins σ H s)(mu:Mut (H x))(he:e=x∨H e=some (.own x))(k:∀b u,b≠e->s.heap.get? b=some u->h'.get? b=some u)(heo:∃u,h'.get? e=some u)
  (new:ObjOk X.prog X.w (upd H x o) h' x o):Inv X pins σ (upd H x o) { s with heap:=h',toks:=t' }:=I.un (Un.write mu he k heo) (I.hok.write mu he k heo new)
theorem Inv.pins_of {pins':List (Addr×Obj)}(I:Inv X pins σ H s)(h:∀p∈pins',s.heap.get? p.1=some p.2/\H p.1=none/\p.1≠X.env.locals/\p.1∉X.fs/\∀v,p.2.data ≠ .cell v):Inv X pins' σ H s:=
 ⟨I.ok,I.os,I.bare,I.base,I.loc,I.cell,I.free,I.freeC,fun p hp=>(mem_append.mp hp).elim (fun z=>I.pin p (mem_append_left _ z)) (h p),I.hok,I.len⟩
theorem Zbx {N:List Str}(hN:N.Nodup){i j:Nat}{x:Str}(a:N[i]? = some x)(b:N[j]? = some x):i=j:=by
 obtain⟨h1,e1⟩:=List.getElem?_eq_some_iff.mp a
 obtain⟨h2,e2⟩:=List.getElem?_eq_some_iff.mp b
 exact(List.getElem_inj hN).mp (e1.trans e2.symm)
theorem Z9j {M:Model}{A:Around}{E:Value->Shared->Prop}{i:Nat}{x:Str}{v:V}{u:Value}{Q:Unit->Shared->Prop}(I:Inv X pins σ H s)(hN:X.N.Nodup)(hi:X.N[i]? = some x)(hx:Loc X.env.scope x)(r:RelV v u)
  (h:∀s',Inv X pins (σ.set i (some v)) H s'->(∃a,Heap.SameBut a s.heap s'.heap/\(a=X.env.locals∨X.env.cells.lookup x=some a))->Q () s') (hf:X.fn x=true∨X.env.scope.names.lookup x=some .local:=by first|exact .inl rfl|exact .inr rfl|assumption):wpAny M A (storeName X.env x u) Q E s:=by
 obtain⟨m,hn,hl⟩:=id I.loc
 have hcls:(X.env.scope.kind == .class||(X.env.scope.kind == .module&&X.env.locals != X.env.globals))=false:=by rw[I.ok.kind];rfl
 have hiσ:i<σ.length:=by rw[I.len];exact(List.getElem?_eq_some_iff.mp hi).1
 have cne:=I.cne
 have tracked:∀{a:Addr} {h':Heap},(∃o,s.heap.get? a=some o/\H a=none)->Heap.SameBut a s.heap h'->HOk X.prog X.w H h':=fun {a h'} ha hs b ob e=>by
  obtain⟨_,_,hfree⟩:=ha
  refine(I.hok b ob e).stay (fun c w' hc q=>(hs.2 c ?_).trans q) (fun _ q=>q) fun _ _ q=>q
  rintro rfl
  rcases hc with rfl|hc
  ·rw[hfree] at e;cases e
  ·rw[hfree] at hc;cases hc
 rcases hx with hk|hk
 ·refine wpAny_storeName_local hk hn (fun h' hn' hs=>?_) hcls
  obtain⟨oL,_,_,hoL,_⟩:=id hn
  refine h _ ⟨I.ok,I.os,I.bare,⟨fun b o e n hb hx=>?_,fun b o e n hb hx=>?_,I.base.free,fun b o e hx=>?_,I.base.tups,I.base.frzs,I.base.tbls⟩,⟨_,hn',fun j y v' e1 e2 e3=>?_⟩,fun y c e=>?_,I.free,I.freeC,fun p hp=>?_,tracked ⟨oL,hoL,I.free⟩ hs,by simpa using I.len⟩ ⟨_,hs,.inl rfl⟩
  ·exact(hs.2 b (Nat.ne_of_lt (Nat.lt_of_lt_of_le (Heap.lt_size e) I.ok.above))).trans (I.base.keep b o e n hb hx)
  ·obtain⟨sl,e1⟩:=I.base.slot b o e n hb hx
   exact⟨sl,(hs.2 b (Nat.ne_of_lt (Nat.lt_of_lt_of_le (Heap.lt_size e) I.ok.above))).trans e1⟩
  ·obtain⟨o',e1⟩:=I.base.there b o e hx
   exact⟨o',(hs.2 b (Nat.ne_of_lt (Nat.lt_of_lt_of_le (Heap.lt_size e) I.ok.above))).trans e1⟩
  ·by_cases hj:j=i
   ·subst hj
    rw[hi] at e1;cases e1
    rw[List.getElem?_set_self hiσ] at e2
    cases e2
    exact⟨u,r,.inl ⟨hk,by simp⟩⟩
   ·rw[List.getElem?_set_ne (Ne.symm hj)] at e2
    obtain⟨u',r',q⟩:=hl j y v' e1 e2 e3
    refine⟨u',r',?_⟩
    rcases q with ⟨k,e⟩|⟨k,c,e,z⟩
    ·refine .inl ⟨k,?_⟩
     have:y≠x:=fun e=>hj (Zbx hN e1 (e▸hi))
     simp [this,e]
    ·exact .inr ⟨k,c,e,z.sameBut hs (cne y c e)⟩
  ·obtain⟨w',z⟩:=I.cell y c e
   exact⟨w',z.sameBut hs (cne y c e)⟩
  ·obtain⟨e,n,ne,nf,d⟩:=I.pin p hp
   exact⟨(hs.2 p.1 ne).trans e,n,ne,nf,d⟩
 ·have hfn:X.fn x=true:=by
   rcases hf with z|z
   ·exact z
   ·rw[z] at hk;cases hk
  obtain⟨c,hc⟩:=I.ok.has x (.inl hk)
  obtain⟨w',z⟩:=I.cell x c hc
  refine wpAny_storeName_cell I.ok.kind hk hc z (fun h' hc' hs=>?_)
  obtain⟨oc,hoc,hocd⟩:=id z
  refine h { s with heap:=h' } ⟨I.ok,I.os,I.bare,⟨fun b o e n hb hx=>?_,fun b o e n hb hx=>?_,I.base.free,fun b o e hx=>?_,I.base.tups,I.base.frzs,I.base.tbls⟩,⟨m,hn.sameBut hs (Ne.symm (cne x c hc)),fun j y v' e1 e2 e3=>?_⟩,fun y c' e=>?_,I.free,I.freeC,fun p hp=>?_,tracked ⟨oc,hoc,I.freeC x c hc⟩ hs,by simpa using I.len⟩ ⟨c,hs,.inr hc⟩
  ·exact(hs.2 b (Nat.ne_of_lt (Nat.lt_of_lt_of_le (Heap.lt_size e) (I.ok.cab x c hfn hc)))).trans (I.base.keep b o e n hb hx)
  ·obtain⟨sl,e1⟩:=I.base.slot b o e n hb hx
   exact⟨sl,(hs.2 b (Nat.ne_of_lt (Nat.lt_of_lt_of_le (Heap.lt_size e) (I.ok.cab x c hfn hc)))).trans e1⟩
  ·obtain⟨o',e1⟩:=I.base.there b o e hx
   exact⟨o',(hs.2 b (Nat.ne_of_lt (Nat.lt_of_lt_of_le (Heap.lt_size e) (I.ok.cab x c hfn hc)))).trans e1⟩
  ·by_cases hj:j=i
   ·subst hj
    rw[hi] at e1;cases e1
    rw[List.getElem?_set_self hiσ] at e2
    cases e2
    exact⟨u,r,.inr ⟨.inl hk,c,hc,hc'⟩⟩
   ·rw[List.getElem?_set_ne (Ne.symm hj)] at e2
    obtain⟨u',r',q⟩:=hl j y v' e1 e2 e3
    refine⟨u',r',?_⟩
    rcases q with q|⟨k,c',e,z'⟩
    ·exact .inl q
    ·refine .inr ⟨k,c',e,z'.sameBut hs ?_⟩
     rintro rfl
     exact hj (Zbx hN e1 (I.ok.inj _ _ _ e hc▸hi))
  ·by_cases hcc:c'=c
   ·subst hcc;exact⟨_,hc'⟩
   ·obtain⟨w2,z2⟩:=I.cell y c' e
    exact⟨w2,z2.sameBut hs hcc⟩
  ·obtain⟨e,n,ne,nf,d⟩:=I.pin p hp
   refine⟨(hs.2 p.1 ?_).trans e,n,ne,nf,d⟩
   intro q
   rw[q,hoc] at e
   have q':oc=p.2:=Option.some.inj e
   exact d w' (by rw[<- q'];exact hocd)
theorem Z8f {M:Model}{A:Around}{E:Value->Shared->Prop}{i:Nat}{x:Str}{v:V}{u:Value}{Q:Unit->Shared->Prop}(I:Inv X pins σ H s)(hN:X.N.Nodup)(hi:X.N[i]? = some x)(hx:Loc X.env.scope x)(r:RelV v u)
  (h:∀s',Inv X pins (σ.set i (some v)) H s'->Q () s') (hf:X.fn x=true∨X.env.scope.names.lookup x=some .local:=by first|exact .inl rfl|exact .inr rfl|assumption):wpAny M A (storeName X.env x u) Q E s:=
 Z9j I hN hi hx r (fun s' I' _=>h s' I') hf
theorem Inv.call' {s':Shared}{ch:List Addr}(I:Inv X pins σ H s)(ho:s'.os=s.os)(u:Un (frs X.stack) ch H H' s.heap s'.heap)(hok:HOk X.prog X.w H' s'.heap)(hg:AllBare s'.gens)
  (hch:∀b∈ch,(b∈X.ex∨X.s₀.heap.objs.size<=b)/\b≠X.env.locals/\(∀x c,X.env.cells.lookup x=some c->c≠b)/\∀p∈X.pn++pins,p.1≠b):Inv X pins σ H' s':=by
 obtain⟨h',g',d',t',o'⟩:=s'
 have e:o'=s.os:=ho
 subst e
 exact I.call (g':=g') (t':=t') (d':=d') u hok hg hch
end
abbrev XK:=Value->Option Addr->Hp->Prop
abbrev St:=List (Option V)
abbrev VK:=V->Hp->Prop
abbrev TE:=St->Hp->VK->Prop
abbrev TT:=St->Hp->(Bool->Hp->Prop)->Prop
abbrev TA:=St->Hp->(List V->Hp->Prop)->Prop
structure Ends where
 nx:St->Hp->Prop
 rt:VK
 bk:St->Hp->Prop:=fun _ _=>False
 ct:St->Hp->Prop:=fun _ _=>False
abbrev TS:=Ends->St->Hp->Prop
def EP (X:Cx)(pins:List (Addr×Obj))(σ:St)(Q:VK)(u:Value)(s':Shared):Prop:=∃v H',Inv X pins σ H' s'/\RelV v u/\Q v H'
def TP (X:Cx)(pins:List (Addr×Obj))(σ:St)(Q:Bool->Hp->Prop)(b:Bool)(s':Shared):Prop:=∃H',Inv X pins σ H' s'/\Q b H'
def AP (X:Cx)(pins:List (Addr×Obj))(σ:St)(Q:List V->Hp->Prop)(us:List Value)(s':Shared):Prop:=∃vs H',Inv X pins σ H' s'/\Vals vs us/\Q vs H'
def SP (X:Cx)(pins:List (Addr×Obj))(D:Ends)(f:Flow)(s':Shared):Prop:=
 match f with
 | .next=>∃ σ' H',Inv X pins σ' H' s'/\D.nx σ' H'
 | .brk=>∃ σ' H',Inv X pins σ' H' s'/\D.bk σ' H'
 | .cont=>∃ σ' H',Inv X pins σ' H' s'/\D.ct σ' H'
 | .ret u=>∃v σ' H',Inv X pins σ' H' s'/\RelV v u/\D.rt v H'
def PE (X:Cx)(e:Expr)(t:TE):Prop:=
 ∀(pins:List (Addr×Obj)) (s:Shared) (σ:St) (H:Hp) (Q:VK),Inv X pins σ H s->t σ H Q->wpAny (model X.prog X.w) X.A (eval e X.env) (EP X pins σ Q) X.xe s
def PT (X:Cx)(e:Expr)(t:TT):Prop:=
 ∀(pins:List (Addr×Obj)) (s:Shared) (σ:St) (H:Hp) (Q:Bool->Hp->Prop),Inv X pins σ H s->t σ H Q->wpAny (model X.prog X.w) X.A (isTrue e X.env (eval e X.env)) (TP X pins σ Q) X.xe s
def PW (X:Cx)(e:Expr)(t:TT):Prop:=
 ∀(whole:Sem Value) (pins:List (Addr×Obj)) (s:Shared) (σ:St) (H:Hp) (Q:Bool->Hp->Prop),Inv X pins σ H s->t σ H Q->wpAny (model X.prog X.w) X.A (isTrue e X.env whole) (TP X pins σ Q) X.xe s
theorem PW.pt {X:Cx}{e:Expr}{t:TT}(h:PW X e t):PT X e t:=h _
def PA (X:Cx)(es:List Expr)(t:TA):Prop:=
 ∀(pos:Pos) (pins:List (Addr×Obj)) (s:Shared) (σ:St) (H:Hp) (Q:List V->Hp->Prop),Inv X pins σ H s->t σ H Q->wpAny (model X.prog X.w) X.A (spliced (backTo pos (starEach es X.env))) (AP X pins σ Q) X.xe s
def PS (X:Cx)(st:Stmt)(t:TS):Prop:=
 ∀(pins:List (Addr×Obj)) (s:Shared) (σ:St) (H:Hp) (D:Ends),Inv X pins σ H s->t D σ H->wpAny (model X.prog X.w) X.A (exec st X.env) (SP X pins D) X.xe s
def PSs (X:Cx)(st:List Stmt)(t:TS):Prop:=
 ∀(pins:List (Addr×Obj)) (s:Shared) (σ:St) (H:Hp) (D:Ends),Inv X pins σ H s->t D σ H->wpAny (model X.prog X.w) X.A (execs st X.env) (SP X pins D) X.xe s
theorem thn {α : Type}{t:Sem α}{Q Q' : α -> Shared->Prop}{M:Model}{A:Around}{E:Value->Shared->Prop}{s:Shared}(h:wpAny M A t Q E s)(hQ:∀a s,Q a s->Q' a s):wpAny M A t Q' E s:=wpAny_mono h hQ fun _ _ x=>x
section
variable {X:Cx}
inductive tVar (i:Nat)(σ:St)(H:Hp)(Q:VK):Prop
 |mk (v:_) (_:σ[i]? = some (some v)) (_:Q v H):tVar i σ H Q
def tC (v:V):TE:=fun _ H Q=>Q v H
theorem Zmp {i:Nat}{x:Str}{pos:Pos}(hN:X.N[i]? = some x)(hv:Vis X.env.scope x)(hd:(x==("__debug__":Str))=false:=by decide)(hcd:(x==("__classdict__":Str))=false:=by decide):PE X (.Name x pos) (tVar i):=by
 intro pins s σ H Q I h
 obtain⟨v,e,h⟩:=h
 obtain⟨m,hn,hl⟩:=I.loc
 obtain⟨u,r,l⟩:=hl i x v hN e hv
 have fin:EP X pins σ Q u s:=⟨v,H,I,r,h⟩
 rcases l with ⟨hk,hm⟩|⟨hk,c,hc,hcell⟩
 ·exact wpAny_Name (wpAny_loadName_local I.ok.kind hk hn hm fin) hd
 ·rcases hk with hk|hk
  ·exact wpAny_Name (wpAny_loadName_cell I.ok.kind hk hc hcell fin) hd
  ·exact wpAny_Name (wpAny_loadName_free I.ok.kind hk hc hcell fin hcd) hd
theorem Z03 {i j pos}:PE X (.Constant (.int i) j pos) (tC (.int i)):=fun _ _ _ H _ I h=>wpAny_Constant_int ⟨.int i,H,I.tok _,⟨_,rfl⟩,h⟩
theorem Z34 {b j pos}:PE X (.Constant (.bool b) j pos) (tC (.bl b)):=fun _ _ _ H _ I h=>Constant_bool ⟨.bl b,H,I,rfl,h⟩
theorem Zmq {j pos}:PE X (.Constant .none j pos) (tC .non):=fun _ _ _ H _ I h=>Constant_none ⟨.non,H,I,rfl,h⟩
theorem Z08 {x j pos}:PE X (.Constant (.str x) j pos) (tC (.str x)):=fun _ _ _ H _ I h=>Calls.Constant_str ⟨.str x,H,I.tok _,⟨_,rfl⟩,h⟩
def Gl (X:Cx)(x:Str):Prop:=X.env.kindOf x=some .globalImplicit
theorem Zes {E:Value->Shared->Prop}{pins:List (Addr×Obj)}{s:Shared}{σ:St}{H:Hp}{x:Str}{u:Value}{pos:Pos}{Q:Value->Shared->Prop}(I:Inv X pins σ H s)(hg:Gl X x)(hm:X.mg x=some u)(h:Q u s)
  (hd:(x==("__debug__":Str))=false:=by decide):wpAny (model X.prog X.w) X.A (eval (.Name x pos) X.env) Q E s:=
 Calls.Name_function_global I.ok.kind hg (Calls.loadGlobal_global (by rw[I.ok.glob];exact I.mod.glob.keeps I.bk) hm h) hd
theorem Z9k {E:Value->Shared->Prop}{pins:List (Addr×Obj)}{s:Shared}{σ:St}{H:Hp}{x:Str}{u:Value}{pos:Pos}{Q:Value->Shared->Prop}(I:Inv X pins σ H s)(hg:Gl X x)(hm:X.mg x=none)(hv:bootBuiltins x=some u)(h:Q u s)
  (hn:x≠"__name__":=by decide) (hd:(x==("__debug__":Str))=false:=by decide):wpAny (model X.prog X.w) X.A (eval (.Name x pos) X.env) Q E s:=by
 obtain⟨mb,h1,h2⟩:=I.mod.blt
 exact Calls.Name_function_global I.ok.kind hg (Calls.loadGlobal_builtin (by rw[I.ok.glob];exact I.mod.glob.keeps I.bk) hm (by rw[I.ok.blt];exact h1.keeps I.bk) ((h2 x hn).trans hv) h) hd
theorem Z3r {x:Str}{v:V}{u:Value}{pos:Pos}(hg:Gl X x)(hm:X.mg x=some u)(r:RelV v u)(hd:(x==("__debug__":Str))=false:=by decide):PE X (.Name x pos) (tC v):=
 fun _ _ _ H _ I h=>Zes I hg hm ⟨v,H,I,r,h⟩ hd
theorem Z4s {x:Str}{v:V}{u:Value}{pos:Pos}(hg:Gl X x)(hm:X.mg x=none)(hv:bootBuiltins x=some u)(r:RelV v u)(hn:x≠"__name__":=by decide)(hd:(x==("__debug__":Str))=false:=by decide):PE X (.Name x pos) (tC v):=
 fun _ _ _ H _ I h=>Z9k I hg hm hv ⟨v,H,I,r,h⟩ hn hd
variable {a b:Expr}{ta tb:TE}{pos:Pos}
def tB (t:TE):TT:=fun σ H Q=>t σ H fun x H1=>∃c,x = .bl c/\Q c H1
theorem Z5z {e:Expr}{t:TE}(h:PE X e t)(he:∀whole,isTrue e X.env whole=(do let v ← whole;standAt e.pos;holding [v] (truthy v)):=by intro _;rfl):PT X e (tB t):=by
 intro pins s σ H Q I hw
 refine isTrue_plain (thn (h pins s σ H _ I hw) fun v s1 ⟨x,H1,I1,r1,q1⟩=>?_) (he _)
 obtain⟨d,rfl,q⟩:=q1
 cases r1
 exact wpAny_truthy_bool ⟨H1,I1,q⟩
variable {tA tB':TT}{rest:List Expr}
def Zqk (t u:TT):TT:=fun σ H Q=>t σ H fun c H1=>if c=true then u σ H1 Q else Q false H1
def tOr (t u:TT):TT:=fun σ H Q=>t σ H fun c H1=>if c=true then Q true H1 else u σ H1 Q
def Zql (t:TT):TT:=fun σ H Q=>t σ H fun c H1=>Q (!c) H1
theorem Z2v (ha:PT X a tA):PW X (.BoolOp .And [a] pos) tA:=by
 intro wh pins s σ H Q I h
 refine isTrue_and (thn (ha pins s σ H Q I h) fun c s1 e=>?_)
 cases c with
 |true=>exact isTrue_and_nil e
 |false=>exact e
theorem Z60 (ha:PT X a tA):PW X (.BoolOp .Or [a] pos) tA:=by
 intro wh pins s σ H Q I h
 refine isTrue_or (thn (ha pins s σ H Q I h) fun c s1 e=>?_)
 cases c with
 |false=>exact isTrue_or_nil e
 |true=>exact e
theorem Z41 (ha:PT X a tA)(hb:PW X (.BoolOp .And (b::rest) pos) tB'):PW X (.BoolOp .And (a::b::rest) pos) (Zqk tA tB'):=by
 intro wh pins s σ H Q I h
 refine isTrue_and (thn (ha pins s σ H _ I h) fun c s1 ⟨H1,I1,q1⟩=>?_)
 cases c with
 |true=>exact hb wh pins s1 σ H1 Q I1 q1
 |false=>exact⟨H1,I1,q1⟩
theorem Z66 (ha:PT X a tA)(hb:PW X (.BoolOp .Or (b::rest) pos) tB'):PW X (.BoolOp .Or (a::b::rest) pos) (tOr tA tB'):=by
 intro wh pins s σ H Q I h
 refine isTrue_or (thn (ha pins s σ H _ I h) fun c s1 ⟨H1,I1,q1⟩=>?_)
 cases c with
 |true=>exact⟨H1,I1,q1⟩
 |false=>exact hb wh pins s1 σ H1 Q I1 q1
theorem Z7l (ha:PT X a tA):PT X (.UnaryOp .Not a pos) (Zql tA):=by
 intro pins s σ H Q I h
 exact isTrue_not (ha pins s σ H (fun c H1=>Q (!c) H1) I h)
def Zot (ta tb:TE):TE:=fun σ H Q=>ta σ H fun x H1=>∃c,x = .bl c/\if c=true then tb σ H1 Q else Q (.bl false) H1
def Zqm (ta tb:TE):TE:=fun σ H Q=>ta σ H fun x H1=>∃c,x = .bl c/\if c=true then Q (.bl true) H1 else tb σ H1 Q
theorem Zet {op}{t:TE}(h:PE X a t):PE X (.BoolOp op [a] pos) t:=fun pins s σ H Q I hw=>BoolOp_one (h pins s σ H Q I hw)
theorem Zmr (ha:PE X a ta)(hb:PE X (.BoolOp .And (b::rest) pos) tb):PE X (.BoolOp .And (a::b::rest) pos) (Zot ta tb):=by
 intro pins s σ H Q I h
 refine BoolOp_and (thn (ha pins s σ H _ I h) fun v s1 ⟨x,H1,I1,r1,q1⟩=>?_)
 obtain⟨c,rfl,q1⟩:=q1
 cases r1
 refine wpAny_truthy_bool ?_
 cases c with
 |true=>exact hb pins s1 σ H1 Q I1 q1
 |false=>exact⟨.bl false,H1,I1,rfl,q1⟩
theorem Zms (ha:PE X a ta)(hb:PE X (.BoolOp .Or (b::rest) pos) tb):PE X (.BoolOp .Or (a::b::rest) pos) (Zqm ta tb):=by
 intro pins s σ H Q I h
 refine BoolOp_or (thn (ha pins s σ H _ I h) fun v s1 ⟨x,H1,I1,r1,q1⟩=>?_)
 obtain⟨c,rfl,q1⟩:=q1
 cases r1
 refine wpAny_truthy_bool ?_
 cases c with
 |false=>exact hb pins s1 σ H1 Q I1 q1
 |true=>exact⟨.bl true,H1,I1,rfl,q1⟩
end
def SqL (K:W.Frag)(H:Hp)(a:Addr)(xs:List V):Prop:=
 Rd H a (.lst xs) ∨
  ∃(o:Obj) (its:Array Value) (n:Nat),K.lookup a=some o/\o.cls = .type "list"/\o.dict=none/\o.data = .seq its n/\its.size<=sizeLine/\Vals xs its.toList
def SqT (K:W.Frag)(H:Hp)(a:Addr)(xs:List V):Prop:=
 Rd H a (.tup xs) ∨
  ∃(o:Obj) (its:Array Value) (n:Nat),K.lookup a=some o/\o.cls = .type "tuple"/\o.data = .seq its n/\its.size<=sizeLine/\Vals xs its.toList
def Zqn:Value->Option V
 | .none=>some .non
 | .bool b=>some (.bl b)
 | .int i _=>some (.int i)
 | .str x _=>some (.str x)
 | .bytes b _=>some (.byt b)
 | .float b _=>some (.flt b)
 | .ref a=>some (.ref a)
 | .type n=>some (.ty n)
 |_=>none
theorem RelV.abs {x:V}{u:Value}(r:RelV x u):Zqn u=some x:=by
 cases x with
 |non=>cases r;rfl
 |bl _=>cases r;rfl
 |int _=>obtain⟨t,rfl⟩:=r;rfl
 |str _=>obtain⟨t,rfl⟩:=r;rfl
 |byt _=>obtain⟨t,rfl⟩:=r;rfl
 |flt _=>obtain⟨t,rfl⟩:=r;rfl
 |ref _=>cases r;rfl
 |ty _=>cases r;rfl
theorem RelV.inj {x y:V}{u:Value}(r:RelV x u)(q:RelV y u):x=y:=Option.some.inj (r.abs.symm.trans q.abs)
theorem Vals.inj:∀{xs ys:List V} {us:List Value},Vals xs us->Vals ys us->xs=ys
 |_,_,_,.nil,.nil=>rfl
 |_,_,_,.cons r t,.cons r' t'=>by rw[r.inj r',Vals.inj t t']
section
variable {X:Cx}{pins:List (Addr×Obj)}{σ:St}{H:Hp}{s:Shared}{a:Addr}{xs ys:List V}
theorem SqL.of {K:W.Frag}(h:H a=some (.lst xs)):SqL K H a xs:=.inl (.inl h)
theorem SqT.of {K:W.Frag}(h:H a=some (.tup xs)):SqT K H a xs:=.inl (.inl h)
theorem Inv.list (I:Inv X pins σ H s)(h:SqL X.K H a xs):∃its:List Value,Vals xs its/\PlainL s.heap a its.toArray/\xs.length<=sizeLine:=by
 rcases h with h|⟨o,its,n,hk,hc,hd,hs,hz,r⟩
 ·obtain⟨z,its,n,r,e⟩:=h.ok I.hok
  exact⟨its,r,⟨_,n,e,rfl,rfl,rfl⟩,z⟩
 ·refine⟨its.toList,r,⟨o,n,I.kIn a o hk,hc,hd,by simpa using hs⟩,?_⟩
  have e:=r.length
  simp only [Array.length_toList] at e
  omega
theorem Inv.tuple (I:Inv X pins σ H s)(h:SqT X.K H a xs):∃its:List Value,Vals xs its/\IsTup s.heap a its.toArray/\xs.length<=sizeLine:=by
 rcases h with h|⟨o,its,n,hk,hc,hs,hz,r⟩
 ·obtain⟨z,its,r,p⟩:=h.ok I.hok
  exact⟨its,r,p,z⟩
 ·refine⟨its.toList,r,⟨o,I.kIn a o hk,hc,n,by simpa using hs⟩,?_⟩
  have e:=r.length
  simp only [Array.length_toList] at e
  omega
theorem Inv.list_inj (I:Inv X pins σ H s)(h:SqL X.K H a xs)(h':SqL X.K H a ys):xs=ys:=by
 obtain⟨its,r,⟨o,n,e,_,_,d⟩,_⟩:=I.list h
 obtain⟨its',r',⟨o',n',e',_,_,d'⟩,_⟩:=I.list h'
 rw[e] at e';cases e'
 rw[d] at d'
 injection d' with d1 _
 have:its=its':=by simpa using congrArg Array.toList d1
 subst this
 exact r.inj r'
theorem Inv.tuple_inj (I:Inv X pins σ H s)(h:SqT X.K H a xs)(h':SqT X.K H a ys):xs=ys:=by
 obtain⟨its,r,⟨o,e,_,n,d⟩,_⟩:=I.tuple h
 obtain⟨its',r',⟨o',e',_,n',d'⟩,_⟩:=I.tuple h'
 rw[e] at e';cases e'
 rw[d] at d'
 injection d' with d1 _
 have:its=its':=by simpa using congrArg Array.toList d1
 subst this
 exact r.inj r'
end
abbrev Cx.wish (X:Cx)(E:Value->Shared->Prop):Cx:={ X with xe:=E }
abbrev Cx.nox (X:Cx):Cx:=X.wish fun _ _=>False
theorem Cx.Ok.wish {X:Cx}(ok:X.Ok)(E:Value->Shared->Prop):(X.wish E).Ok:=
 ⟨ok.mod,ok.kind,ok.glob,ok.blt,ok.above,ok.inj,ok.has,ok.cab,ok.hd,ok.frames,ok.stk,ok.exf,ok.bs,ok.bsz,ok.noex,ok.exfs,ok.funs,ok.frf⟩
theorem Cx.Ok.unwish {X:Cx}{E:Value->Shared->Prop}(ok:(X.wish E).Ok):X.Ok:=
 ⟨ok.mod,ok.kind,ok.glob,ok.blt,ok.above,ok.inj,ok.has,ok.cab,ok.hd,ok.frames,ok.stk,ok.exf,ok.bs,ok.bsz,ok.noex,ok.exfs,ok.funs,ok.frf⟩
section
variable {X:Cx}{pins:List (Addr×Obj)}{σ:St}{H:Hp}{s:Shared}{E:Value->Shared->Prop}
theorem Inv.wish (I:Inv X pins σ H s)(E:Value->Shared->Prop):Inv (X.wish E) pins σ H s:=⟨I.ok.wish E,I.os,I.bare,I.base,I.loc,I.cell,I.free,I.freeC,I.pin,I.hok,I.len⟩
theorem Inv.unwish (I:Inv (X.wish E) pins σ H s):Inv X pins σ H s:=⟨I.ok.unwish,I.os,I.bare,I.base,I.loc,I.cell,I.free,I.freeC,I.pin,I.hok,I.len⟩
theorem SP.unwish {D:Ends}{f:Flow}{s':Shared}(h:SP (X.wish E) pins D f s'):SP X pins D f s':=by
 cases f with
 |next=>obtain⟨σ',H',I,q⟩:=h;exact⟨σ',H',I.unwish,q⟩
 |brk=>obtain⟨σ',H',I,q⟩:=h;exact⟨σ',H',I.unwish,q⟩
 |cont=>obtain⟨σ',H',I,q⟩:=h;exact⟨σ',H',I.unwish,q⟩
 |ret u=>obtain⟨v,σ',H',I,r,q⟩:=h;exact⟨v,σ',H',I.unwish,r,q⟩
theorem PSs.nox {st:List Stmt}{t:TS}(h:PSs X.nox st t):PSs X st t:=fun pins s σ H D I hw=>
 wpAny_mono (h pins s σ H D (I.wish _) hw) (fun _ _ q=>q.unwish) fun _ _ z=>False.elim z
end
section
variable {X:Cx}{st:Stmt}{rest:List Stmt}{t u:TS}{e:Expr}{te:TE}{pos:Pos}
def tNext:TS:=fun D σ H=>D.nx σ H
def Zqo (t u:TS):TS:=fun D σ H=>t { D with nx:=u D } σ H
theorem Z0k:PSs X [] tNext:=fun _ _ σ H _ I h=>wpAny_execs_nil ⟨σ,H,I,h⟩
theorem Z05 (h1:PS X st t)(h2:PSs X rest u):PSs X (st::rest) (Zqo t u):=by
 intro pins s σ H D I h
 refine wpAny_execs_cons (thn (h1 pins s σ H { D with nx:=u D } I h) fun f s1 q=>?_)
 cases f with
 |next=>
  obtain⟨σ',H',I',q⟩:=q
  exact h2 pins s1 σ' H' D I' q
 |ret v=>exact q
 |brk=>exact q
 |cont=>exact q
theorem Z07 (h1:PS X st t):PSs X [st] t:=by
 intro pins s σ H D I h
 refine wpAny_execs_cons (thn (h1 pins s σ H D I h) fun f s1 q=>?_)
 cases f with
 |next=>exact wpAny_execs_nil q
 |ret v=>exact q
 |brk=>exact q
 |cont=>exact q
theorem Inv.quiet {pins:List (Addr×Obj)}{σ:St}{H:Hp}{s:Shared}(I:Inv X pins σ H s):interactive X.env=false:=by simp [interactive,I.ok.kind]
def Zou (te:TE):TS:=fun D σ H=>te σ H fun _ H1=>D.nx σ H1
theorem Z42 (he:PE X e te)(hs:swapsWith e none pos.line X.env=pure false:=by rfl):PS X (.Expr e pos) (Zou te):=by
 intro pins s σ H D I h
 exact wpAny_Expr_any (thn (he pins s σ H _ I h) fun v s1 ⟨x,H1,I1,r1,q1⟩=>⟨σ,H1,I1,q1⟩) I.quiet hs
def Zqp (te:TE):TS:=fun D σ H=>te σ H D.rt
theorem Z0h (he:PE X e te):PS X (.Return (some e) pos) (Zqp te):=by
 intro pins s σ H D I h
 exact wpAny_Return_some (thn (he pins s σ H _ I h) fun v s1 ⟨x,H1,I1,r1,q1⟩=>⟨x,σ,H1,I1,r1,q1⟩)
def Zqq (c:TT)(t u:TS):TS:=fun D σ H=>c σ H fun b H1=>if b=true then t D σ H1 else u D σ H1
theorem Z11 {c:Expr}{a b:List Stmt}{tc:TT}(hc:PT X c tc)(ha:PSs X a t)(hb:PSs X b u):PS X (.If c a b pos) (Zqq tc t u):=by
 intro pins s σ H D I h
 refine wpAny_If (thn (hc pins s σ H _ I h) fun d s1 ⟨H1,I1,q1⟩=>?_)
 cases d with
 |true=>exact ha pins s1 σ H1 D I1 q1
 |false=>exact hb pins s1 σ H1 D I1 q1
end
abbrev TG:=V->St->Hp->(St->Hp->Prop)->Prop
abbrev TGs:=List V->St->Hp->(St->Hp->Prop)->Prop
def PG (X:Cx)(target:Expr)(t:TG):Prop:=
 ∀(pins:List (Addr×Obj)) (s:Shared) (σ:St) (H:Hp) (v:V) (u:Value) (Q:St->Hp->Prop),Inv X pins σ H s->RelV v u->t v σ H Q →
  wpAny (model X.prog X.w) X.A (assign target X.env u) (fun _ s'=>∃ σ' H',Inv X pins σ' H' s'/\Q σ' H') X.xe s
def PGs (X:Cx)(ts:List Expr)(t:TGs):Prop:=
 ∀(pins:List (Addr×Obj)) (s:Shared) (σ:St) (H:Hp) (vs:List V) (us:List Value) (Q:St->Hp->Prop),Inv X pins σ H s->Vals vs us->t vs σ H Q →
  wpAny (model X.prog X.w) X.A (assignInOrder ((assignEach ts X.env).map (·.2)) us) (fun _ s'=>∃ σ' H',Inv X pins σ' H' s'/\Q σ' H') X.xe s
abbrev TSet:=V->V->V->Hp->(Hp->Prop)->Prop
def Zq7 (X:Cx)(t:TSet):Prop:=
 ∀(pins:List (Addr×Obj)) (s:Shared) (σ:St) (H:Hp) (o i v:V) (ov iv u:Value) (Q:Hp->Prop),Inv X pins σ H s->RelV o ov->RelV i iv->RelV v u->t o i v H Q →
  wpAny (model X.prog X.w) X.A (setItem ov iv u) (fun _ s'=>∃H',Inv X pins σ H' s'/\Q H') X.xe s
abbrev TIp:=V->V->Hp->VK->Prop
def PIp (X:Cx)(op:Operator)(t:TIp):Prop:=
 ∀(pins:List (Addr×Obj)) (s:Shared) (σ:St) (H:Hp) (x y:V) (v u:Value) (Q:VK),Inv X pins σ H s->RelV x v->RelV y u->t x y H Q →
  wpAny (model X.prog X.w) X.A (inplaceOp op v u) (EP X pins σ Q) X.xe s
section
variable {X:Cx}{pos:Pos}
def Z9l (i:Nat):TG:=fun v σ H Q=>Q (σ.set i (some v)) H
theorem Z0l {i:Nat}{x:Str}(hN:X.N.Nodup)(hi:X.N[i]? = some x)(hx:Loc X.env.scope x)(hf:X.fn x=true∨X.env.scope.names.lookup x=some .local:=by first|exact .inl rfl|exact .inr rfl|assumption):PG X (.Name x pos) (Z9l i):=by
 intro pins s σ H v u Q I r h
 exact wpAny_assign_Name (Z8f I hN hi hx r (fun s' I'=>⟨_,H,I',h⟩) hf)
def gNil:TGs:=fun vs σ H Q=>vs = []/\Q σ H
def Zki (t:TG)(u:TGs):TGs:=fun vs σ H Q=>∃v r,vs=v::r/\t v σ H fun σ' H'=>u r σ' H' Q
theorem Z3s:PGs X [] gNil:=by
 intro pins s σ H vs us Q I r h
 obtain⟨e,h⟩:=h
 subst e
 cases r
 exact assignInOrder_nil ⟨σ,H,I,h⟩
theorem Z17 {e:Expr}{es:List Expr}{t:TG}{u:TGs}(h1:PG X e t)(h2:PGs X es u)
  (hs:(assignEach (e::es) X.env).map (·.2)=assign e X.env::(assignEach es X.env).map (·.2):=by rfl):PGs X (e::es) (Zki t u):=by
 intro pins s σ H vs us Q I r h
 obtain⟨v,vr,e1,h⟩:=h
 subst e1
 cases r with
 |cons r rr=>
  rw[hs]
  refine assignInOrder_cons (thn (h1 pins s σ H _ _ _ I r h) fun _ s1 ⟨σ1,H1,I1,q1⟩=>?_)
  exact h2 pins s1 σ1 H1 _ _ Q I1 rr q1
inductive gTup (K:W.Frag)(n:Nat)(t:TGs)(v:V)(σ:St)(H:Hp)(Q:(St->Hp->Prop)):Prop
 |mk (a xs:_) (_:v = .ref a) (_:SqT K H a xs) (_:xs.length=n) (_:t xs σ H Q):gTup K n t v σ H Q
theorem Z4y {es:List Expr}{k:Nat}{t:TGs}{n:Nat}(hc:X.calm=true)(h:PGs X es t)
  (hn:(assignEach es X.env).length=n:=by rfl) (hst:(assignEach es X.env).findIdx? (·.1)=none:=by rfl):PG X (.Tuple es k pos) (gTup X.K n t):=by
 intro pins s σ H v u Q I r hw
 obtain⟨a,xs,e1,hq,hl,hw⟩:=hw
 subst e1
 cases r
 obtain⟨its,rv,ht,hz⟩:=I.tuple hq
 refine assign_Tuple_tuple (I.ok.hd hc) ht (by simp [hn,<- hl,rv.length]) hst fun h' hx=>?_
 have I1:Inv X pins σ H { s with heap:=h' }:=I.kept (t':=s.toks) fun b o e=>hx b o (Nat.ne_of_lt (Heap.lt_size e)) e
 exact h pins _ σ H xs _ Q I1 (by simpa using rv) hw
def Zqr (to ti:TE)(t:TSet):TG:=fun v σ H Q=>to σ H fun o H1=>ti σ H1 fun i H2=>t o i v H2 fun H3=>Q σ H3
theorem Zmt {o i:Expr}{to ti:TE}{t:TSet}(ho:PE X o to)(hi:PE X i ti)(hs:Zq7 X t)
  (ha:∀v,assign (.Subscript o i pos) X.env v=(do
   let ov ← holding [v] (eval o X.env)
   let iv ← holding [v,ov] (eval i X.env)
   standAt pos
   holding [v,ov,iv] (setItem ov iv v)
   release [v,ov,iv] []):=by intro _;rfl):PG X (.Subscript o i pos) (Zqr to ti t):=by
 intro pins s σ H v u Q I r h
 rw[ha]
 refine wpAny_bind (wpAny_holding (thn (ho pins s σ H _ I h) fun ov s1 ⟨x,H1,I1,r1,q1⟩=>?_))
 refine wpAny_bind (wpAny_holding (thn (hi pins s1 σ H1 _ I1 q1) fun iv s2 ⟨y,H2,I2,r2,q2⟩=>?_))
 refine wpAny_bind (wpAny_standAt (wpAny_bind (wpAny_holding (thn (hs pins s2 σ H2 x y v ov iv u _ I2 r1 r2 r q2) fun _ s3 ⟨H3,I3,q3⟩=>?_))))
 exact wpAny_release ⟨σ,H3,I3,q3⟩
def Zon (te:TE)(g:TG):TS:=fun D σ H=>te σ H fun x H1=>g x σ H1 D.nx
theorem Z9m {tg e:Expr}{te:TE}{g:TG}(he:PE X e te)(hg:PG X tg g)(hs:swapsWithSole [tg] e pos.line X.env=pure false:=by rfl)(hw:swappedStores [tg] e X.env=pure none:=by rfl)
  (h1:(assignEach [tg] X.env).map (·.2) = [assign tg X.env]:=by rfl):PS X (.Assign [tg] e pos) (Zon te g):=by
 intro pins s σ H D I h
 refine wpAny_Assign_stores (thn (he pins s σ H _ I h) fun v s1 ⟨x,H1,I1,r1,q1⟩=>?_) hs hw
 rw[h1]
 exact thn (hg pins s1 σ H1 x v _ I1 r1 q1) fun _ s2 q=>q
theorem Z0a {i:Nat}{x:Str}{e:Expr}{te:TE}{pos':Pos}(hN:X.N.Nodup)(hi:X.N[i]? = some x)(hx:Loc X.env.scope x)(he:PE X e te)(hs:swapsWith e (some (.Name x pos')) pos.line X.env=pure false:=by rfl)(hf:X.fn x=true∨X.env.scope.names.lookup x=some .local:=by first|exact .inl rfl|exact .inr rfl|assumption):
  PS X (.Assign [.Name x pos'] e pos) (Zon te (Z9l i)):=by
 intro pins s σ H D I h
 refine wpAny_Assign_Name (thn (he pins s σ H _ I h) fun v s1 ⟨y,H1,I1,r1,q1⟩=>?_) hs
 exact Z8f I1 hN hi hx r1 (fun s2 I2=>⟨_,H1,I2,q1⟩) hf
def Zqs (i:Nat)(te:TE)(ti:TIp):TS:=fun D σ H=>∃x,σ[i]? = some (some x)/\te σ H fun y H1=>ti x y H1 fun z H2=>D.nx (σ.set i (some z)) H2
theorem Zjt {i:Nat}{x:Str}{e:Expr}{te:TE}{op:Operator}{ti:TIp}{pos':Pos}(hN:X.N.Nodup)(hi:X.N[i]? = some x)(hx:Loc X.env.scope x)(he:PE X e te)(ho:PIp X op ti)(hf:X.fn x=true∨X.env.scope.names.lookup x=some .local:=by first|exact .inl rfl|exact .inr rfl|assumption):
  PS X (.AugAssign (.Name x pos') op e pos) (Zqs i te ti):=by
 intro pins s σ H D I h
 obtain⟨v,e1,h⟩:=h
 obtain⟨m,hn,hl⟩:=I.loc
 have vis:Vis X.env.scope x:=by rcases hx with k|k;exact .inl k;exact .inr (.inl k)
 obtain⟨u,r,l⟩:=hl i x v hi e1 vis
 refine wpAny_AugAssign_Name ?_
 have go:wpAny (model X.prog X.w) X.A (eval e X.env) (fun w s₂=>wpAny (model X.prog X.w) X.A (inplaceOp op u w) (fun r s₃=>wpAny (model X.prog X.w) X.A (storeName X.env x r) (fun _=>SP X pins D .next) X.xe s₃) X.xe s₂) X.xe s:=by
  refine thn (he pins s σ H _ I h) fun w s1 ⟨y,H1,I1,r1,q1⟩=>?_
  refine thn (ho pins s1 σ H1 v y u w _ I1 r r1 q1) fun z s2 ⟨zv,H2,I2,r2,q2⟩=>?_
  exact Z8f I2 hN hi hx r2 (fun s3 I3=>⟨_,H2,I3,q2⟩) hf
 rcases l with ⟨hk,hm⟩|⟨hk,c,hc,hcell⟩
 ·exact wpAny_loadName_local I.ok.kind hk hn hm go
 ·rcases hk with hk|hk
  ·exact wpAny_loadName_cell I.ok.kind hk hc hcell go
  ·rcases hx with k|k
   ·have:X.env.scope.names.lookup x=some .free:=hk
    rw[k] at this;cases this
   ·have:X.env.scope.names.lookup x=some .free:=hk
    rw[k] at this;cases this
def ipI (f:Int->Int->Int):TIp:=fun x y H Q=>∃i j,x = .int i/\y = .int j/\Q (.int (f i j)) H
theorem Zmu:PIp X .Add (ipI fun i j=>i+j):=by
 intro pins s σ H x y v u Q I r1 r2 h
 obtain⟨i,j,e1,e2,q⟩:=h
 subst e1;subst e2
 obtain⟨t,rfl⟩:=r1
 obtain⟨t',rfl⟩:=r2
 exact iadd_int ⟨.int _,H,I.tok _,⟨_,rfl⟩,q⟩
theorem Zmv:PIp X .Sub (ipI fun i j=>i-j):=by
 intro pins s σ H x y v u Q I r1 r2 h
 obtain⟨i,j,e1,e2,q⟩:=h
 subst e1;subst e2
 obtain⟨t,rfl⟩:=r1
 obtain⟨t',rfl⟩:=r2
 exact isub_int ⟨.int _,H,I.tok _,⟨_,rfl⟩,q⟩
inductive tWhile (c:TT)(tb:TS)(D:Ends)(σ:St)(H:Hp):Prop
 |mk (W:Nat->St->Hp->Prop) (_:(∃m,W m σ H)) (_:∀m σ H,W m σ H->c σ H fun b H1=>if b=true then ∃N:St->Hp->Prop,(∀ σ' H',N σ' H'->∃m',m'<m/\W m' σ' H')/\tb { D with nx:=N,ct:=N,bk:=D.nx } σ H1 else D.nx σ H1):tWhile c tb D σ H
theorem Zby {c:Expr}{body:List Stmt}{tc:TT}{tb:TS}(hp:PassesOwn (model X.prog X.w) X.A X.env X.xe)(hc:PT X c tc)(hb:PSs X body tb):PS X (.While c body [] pos) (tWhile tc tb):=by
 intro pins s σ H D I h
 obtain⟨W,⟨m0,w0⟩,turn⟩:=h
 refine wpAny_While (codeAny_whileLoop (fun n s'=>∃ σ' H',Inv X pins σ' H' s'/\W n σ' H') ?_ m0 ⟨σ,H,I,w0⟩)
 rintro n s1 ⟨σ1,H1,I1,w1⟩
 refine wpAny_passesOwn hp (thn (hc pins s1 σ1 H1 _ I1 (turn n σ1 H1 w1)) fun b s2 ⟨H2,I2,q2⟩=>?_)
 cases b with
 |true=>
  obtain⟨N,hN,q2⟩:=q2
  rw[if_pos rfl]
  refine wpAny_passesOwn hp (thn (hb pins s2 σ1 H2 _ I2 q2) fun f s3 q3=>?_)
  cases f with
  |next=>
   obtain⟨σ3,H3,I3,n3⟩:=q3
   obtain⟨m',hm,w3⟩:=hN σ3 H3 n3
   exact⟨m',hm,σ3,H3,I3,w3⟩
  |cont=>
   obtain⟨σ3,H3,I3,n3⟩:=q3
   obtain⟨m',hm,w3⟩:=hN σ3 H3 n3
   exact⟨m',hm,σ3,H3,I3,w3⟩
  |brk=>exact q3
  |ret v=>exact q3
 |false=>
  rw[if_neg Bool.false_ne_true]
  exact wpAny_execs_nil ⟨σ1,H2,I2,q2⟩
end
structure It where
 go:Nat->Hp->Prop
 yld:Nat->Hp->V->Hp->Prop
 stop:Nat->Hp->Prop
def Z4m (X:Cx)(pins:List (Addr×Obj))(H:Hp)(b:Addr):Prop:=
 H b=none/\b≠X.env.locals/\b∉X.fs/\(b∈X.ex∨X.s₀.heap.objs.size<=b)/\(∀x c,X.env.cells.lookup x=some c->c≠b)/\∀p∈X.pn++pins,p.1≠b
theorem Inv.fpOk {X:Cx}{pins:List (Addr×Obj)}{σ:St}{H H':Hp}{s:Shared}{b:Addr}(I:Inv X pins σ H s)(hb:s.heap.objs.size<=b)(hn:H' b=none):Z4m X pins H' b:=by
 refine⟨hn,Nat.ne_of_gt (Nat.lt_of_lt_of_le I.lt hb),I.nofs hb,.inr (Nat.le_trans I.sz hb),fun x c e z=>?_,fun p hp z=>?_⟩
 ·obtain⟨v,q⟩:=I.cell x c e
  exact absurd (Nat.lt_of_lt_of_le q.lt (by rw[z];exact hb)) (Nat.lt_irrefl _)
 ·exact absurd (Nat.lt_of_lt_of_le (Heap.lt_size (I.pin p hp).1) (by rw[z];exact hb)) (Nat.lt_irrefl _)
structure Turn (P:Program)(w:World)(K:W.Frag)(tg:Expr)(J:It)(fp:List Addr)(it:Addr)(tn:Nat->Heap->Prop):Prop where
 mem:it∈fp
 obj:∀i h,tn i h->∀b∈fp,∃o,h.get? b=some o/\∀v,o.data ≠ .cell v
 keep:∀i h h',tn i h->(∀b∈fp,∀o,h.get? b=some o->h'.get? b=some o)->tn i h'
 item:∀(X:Cx),X.prog=P->X.w=w->X.K=K->X.calm=true->∀(i:Nat) (pins:List (Addr×Obj)) (s:Shared) (σ:St) (H:Hp) (E:Value->Shared->Prop),Inv X pins σ H s->(∀b∈fp,Z4m X pins H b)->tn i s.heap->J.go i H →
  wpAny (model P w) X.A (pyNext (.ref it)) (fun r s1=>∃u,r=some u ∧
   wpAny (model P w) X.A (letOwnedTupleGo tg (.ref it) u) (fun _ s2=>∃x H',Inv X pins σ H' s2/\RelV x u/\J.yld i H x H'/\tn (i+1) s2.heap/\∀b∈fp,H' b=none) E s1) E s
 done:∀(X:Cx),X.prog=P->X.w=w->X.K=K->X.calm=true->∀(i:Nat) (pins:List (Addr×Obj)) (s:Shared) (σ:St) (H:Hp) (E:Value->Shared->Prop),Inv X pins σ H s->(∀b∈fp,Z4m X pins H b)->tn i s.heap->J.stop i H →
  wpAny (model P w) X.A (pyNext (.ref it)) (fun r s1=>r=none/\Inv X pins σ H s1) E s
 self:∀(A:Around) (i:Nat) (s:Shared) (Q:Value->Shared->Prop) (E:Value->Shared->Prop),tn i s.heap->Q (.ref it) s->wpAny (model P w) A (pyIter (.ref it)) Q E s
abbrev TI:=St->Hp->(It->Hp->Prop)->Prop
def PIE (X:Cx)(pins:List (Addr×Obj))(σ:St)(tg:Expr)(R:It->Hp->Prop)(itv:Value)(s2:Shared):Prop:=
 ∃(it:Addr) (fp:List Addr) (tn:Nat->Heap->Prop) (J:It) (H':Hp),itv = .ref it/\Inv X pins σ H' s2/\Turn X.prog X.w X.K tg J fp it tn/\tn 0 s2.heap/\(∀b∈fp,Z4m X pins H' b)/\R J H'
def PI (X:Cx)(tg iter:Expr)(wi:TI):Prop:=
 ∀(pins:List (Addr×Obj)) (s:Shared) (σ:St) (H:Hp) (R:It->Hp->Prop),Inv X pins σ H s->wi σ H R →
  wpAny (model X.prog X.w) X.A (eval iter X.env) (fun v s1=>wpAny (model X.prog X.w) X.A (pyIter v) (PIE X pins σ tg R) X.xe s1) X.xe s
theorem Zhq {M:Model}{A:Around}{E:Value->Shared->Prop}{s:Shared}{tg:Expr}{it:Addr}{u:Value}{o:Obj}{n:String}{vs:Array Value}{Q:Unit->Shared->Prop}(ho:s.heap.get? it=some o)(hc:o.cls = .type n)(hd:o.data = .fields vs)
  (hn : ["enumerate","zip","dict_itemiterator","dict_reverseitemiterator","odict_iterator","itertools.zip_longest","itertools.pairwise"].contains n=false) (hQ:Q () s):wpAny M A (letOwnedTupleGo tg (.ref it) u) Q E s:=by
 unfold letOwnedTupleGo
 cases tg <;> first
  |exact wpAny_pure hQ
  | (cases u <;> first
    |exact wpAny_pure hQ
    | (refine wpAny_bind (wpAny_load ho ?_)
       rw[hc,hd]
       show wpAny M A (if (["enumerate","zip","dict_itemiterator","dict_reverseitemiterator","odict_iterator","itertools.zip_longest","itertools.pairwise"].contains n&&vs[0]? == some (rawInt _))=true then _ else _) Q E s
       rw[if_neg (by intro h;rw[hn,Bool.false_and] at h;cases h)]
       exact wpAny_pure hQ))
def Itl (K:W.Frag)(a:Addr):It:=
 ⟨fun i H=>∃xs x,SqL K H a xs/\xs[i]? = some x,fun i H x H'=>H'=H/\∀xs,SqL K H a xs->xs[i]? = some x,fun i H=>∃xs,SqL K H a xs/\xs.length<=i⟩
def Itt (K:W.Frag)(a:Addr):It:=
 ⟨fun i H=>∃xs x,SqT K H a xs/\xs[i]? = some x,fun i H x H'=>H'=H/\∀xs,SqT K H a xs->xs[i]? = some x,fun i H=>∃xs,SqT K H a xs/\xs.length<=i⟩
def Itr (lo:Int)(n:Nat):It:=⟨fun i _=>i<n,fun i H x H'=>H'=H/\x = .int (lo+i),fun i _=>n<=i⟩
theorem Zeu {P:Program}{w:World}{K:W.Frag}{tg:Expr}(a it:Addr):Turn P w K tg (Itl K a) [it] it (fun i h=>h.IsListIter it a i) where
 mem:=by simp
 obj:=fun i h st b hb=>by
  have e:b=it:=by simpa using hb
  subst e
  obtain⟨o,e,c,d⟩:=st
  exact⟨o,e,fun v z=>by rw[d] at z;cases z⟩
 keep:=fun i h h' st k=>st.at fun o e=>k it (by simp) o e
 item:=by
  intro X hP hw hK hc i pins s σ H E I hf st hg
  subst hP hw hK
  obtain⟨xs,x,hq,hx⟩:=hg
  obtain⟨its,rv,p,hz⟩:=I.list hq
  obtain⟨u,hu,ru⟩:=rv.get hx
  obtain⟨f0,f1,f2,f3,f4,f5⟩:=hf it (by simp)
  refine wpAny_pyNext_list_item st p.isList (x:=u) (by simpa using hu) fun h' st' sb=>?_
  have I1:Inv X pins σ H { s with heap:=h' }:=I.turned (t':=s.toks) (fun b o hb e=>(sb.2 b hb).trans e) f0 f1 f3 f4 f5
  obtain⟨o,e,c,d⟩:=id st'
  exact⟨u,rfl,Zhq (s:={ s with heap:=h' }) e c d (by decide) ⟨x,H,I1,ru,⟨rfl,fun ys hy=>by rw[I.list_inj hy hq];exact hx⟩,st',fun b hb=>(hf b hb).1⟩⟩
 done:=by
  intro X hP hw hK hc i pins s σ H E I hf st hg
  subst hP hw hK
  obtain⟨xs,hq,hx⟩:=hg
  obtain⟨its,rv,p,hz⟩:=I.list hq
  obtain⟨f0,f1,f2,f3,f4,f5⟩:=hf it (by simp)
  have hl:=rv.length
  exact wpAny_pyNext_list_end (I.ok.hd hc) st p.isList (by simp;omega) fun h' eb=>⟨rfl,I.turned (t':=s.toks) (fun b o hb e=>eb b o hb e) f0 f1 f3 f4 f5⟩
 self:=fun _ _ _ _ _ st h=>wpAny_pyIter_listiter st h
theorem Zdg {P:Program}{w:World}{K:W.Frag}{tg:Expr}(a it:Addr):Turn P w K tg (Itt K a) [it] it (fun i h=>h.IsTupleIter it a i) where
 mem:=by simp
 obj:=fun i h st b hb=>by
  have e:b=it:=by simpa using hb
  subst e
  obtain⟨o,e,c,d⟩:=st
  exact⟨o,e,fun v z=>by rw[d] at z;cases z⟩
 keep:=fun i h h' st k=>st.at fun o e=>k it (by simp) o e
 item:=by
  intro X hP hw hK hc i pins s σ H E I hf st hg
  subst hP hw hK
  obtain⟨xs,x,hq,hx⟩:=hg
  obtain⟨its,rv,p,hz⟩:=I.tuple hq
  obtain⟨u,hu,ru⟩:=rv.get hx
  obtain⟨f0,f1,f2,f3,f4,f5⟩:=hf it (by simp)
  refine wpAny_pyNext_tuple_item st (show s.heap.IsTuple a its.toArray from p) (x:=u) (by simpa using hu) fun h' st' sb=>?_
  have I1:Inv X pins σ H { s with heap:=h' }:=I.turned (t':=s.toks) (fun b o hb e=>(sb.2 b hb).trans e) f0 f1 f3 f4 f5
  obtain⟨o,e,c,d⟩:=id st'
  exact⟨u,rfl,Zhq (s:={ s with heap:=h' }) e c d (by decide) ⟨x,H,I1,ru,⟨rfl,fun ys hy=>by rw[I.tuple_inj hy hq];exact hx⟩,st',fun b hb=>(hf b hb).1⟩⟩
 done:=by
  intro X hP hw hK hc i pins s σ H E I hf st hg
  subst hP hw hK
  obtain⟨xs,hq,hx⟩:=hg
  obtain⟨its,rv,p,hz⟩:=I.tuple hq
  obtain⟨f0,f1,f2,f3,f4,f5⟩:=hf it (by simp)
  have hl:=rv.length
  exact wpAny_pyNext_tuple_end (I.ok.hd hc) st (show s.heap.IsTuple a its.toArray from p) (by simp;omega) fun h' eb=>⟨rfl,I.turned (t':=s.toks) (fun b o hb e=>eb b o hb e) f0 f1 f3 f4 f5⟩
 self:=fun _ _ _ _ _ st h=>wpAny_pyIter_tupleiter st h
theorem Zdh {P:Program}{w:World}{K:W.Frag}{tg:Expr}(it:Addr)(lo:Int)(n:Nat):Turn P w K tg (Itr lo n) [it] it (fun i h=>IsRangeIter h it (lo+(i:Nat)*1) ((n:Int)-(i:Nat)) 1) where
 mem:=by simp
 obj:=fun i h st b hb=>by
  have e:b=it:=by simpa using hb
  subst e
  exact⟨_,st,fun v z=>by
   have z':Data.fields _=Data.cell v:=z
   cases z'⟩
 keep:=fun i h h' st k=>k it (by simp) _ st
 item:=by
  intro X hP hw hK hc i pins s σ H E I hf st hg
  subst hP hw hK
  obtain⟨f0,f1,f2,f3,f4,f5⟩:=hf it (by simp)
  have W:=Walks.range (prog:=X.prog) (w:=X.w) (I.ok.hd hc) it lo 1 n
  refine W.item i s _ _ hg st fun v h' tk hv st' kk=>?_
  obtain⟨t,rfl⟩:=hv
  have I1:Inv X pins σ H { s with heap:=h',toks:=tk }:=I.turned (fun b o hb e=>kk b o (by simpa using hb) e) f0 f1 f3 f4 f5
  refine⟨_,rfl,Zhq (s:={ s with heap:=h',toks:=tk }) (n:="range_iterator") st' rfl rfl (by decide) ⟨.int (lo+i),H,I1,⟨t,?_⟩,⟨rfl,rfl⟩,st',fun b hb=>(hf b hb).1⟩⟩
  rw[Int.mul_one]
 done:=by
  intro X hP hw hK hc i pins s σ H E I hf st hg
  subst hP hw hK
  obtain⟨f0,f1,f2,f3,f4,f5⟩:=hf it (by simp)
  exact wpAny_pyNext_range_end (I.ok.hd hc) st (by have:n<=i:=hg;omega) fun h' eb=>⟨rfl,I.turned (t':=s.toks) (fun b o hb e=>eb b o hb e) f0 f1 f3 f4 f5⟩
 self:=fun _ _ _ _ _ st h=>wpAny_pyIter_rangeiter st h
section
variable {X:Cx}{tg:Expr}
def Zov (K:W.Frag)(tl:TE):TI:=fun σ H R=>tl σ H fun x H1=>∃a,x = .ref a/\(∃xs,SqL K H1 a xs)/\R (Itl K a) H1
def Zow (K:W.Frag)(tl:TE):TI:=fun σ H R=>tl σ H fun x H1=>∃a,x = .ref a/\(∃xs,SqT K H1 a xs)/\R (Itt K a) H1
theorem Z19 {l:Expr}{tl:TE}(hl:PE X l tl):PI X tg l (Zov X.K tl):=by
 intro pins s σ H R I h
 refine thn (hl pins s σ H _ I h) fun v s1 ⟨x,H1,I1,r1,q1⟩=>?_
 obtain⟨a,e,⟨xs,hq⟩,q⟩:=q1
 subst e
 cases r1
 obtain⟨its,rv,p,hz⟩:=I1.list hq
 refine wpAny_pyIter_list p.isList ?_
 refine⟨s1.heap.objs.size,[s1.heap.objs.size],_,_,H1,rfl,I1.kept (t':=s1.toks) fun b o e=>Heap.get?_push_of_some _ e,Zeu a _,⟨_,Heap.get?_push_size _ rfl,rfl,rfl⟩,fun b hb=>?_,q⟩
 have e:b=s1.heap.objs.size:=by simpa using hb
 subst e
 exact I1.fpOk (Nat.le_refl _) (I1.hok.fresh (Nat.le_refl _))
theorem Z61 {l:Expr}{tl:TE}(hl:PE X l tl):PI X tg l (Zow X.K tl):=by
 intro pins s σ H R I h
 refine thn (hl pins s σ H _ I h) fun v s1 ⟨x,H1,I1,r1,q1⟩=>?_
 obtain⟨a,e,⟨xs,hq⟩,q⟩:=q1
 subst e
 cases r1
 obtain⟨its,rv,p,hz⟩:=I1.tuple hq
 refine wpAny_pyIter_tuple (show s1.heap.IsTuple a its.toArray from p) ?_
 refine⟨s1.heap.objs.size,[s1.heap.objs.size],_,_,H1,rfl,I1.kept (t':=s1.toks) fun b o e=>Heap.get?_push_of_some _ e,Zdg a _,⟨_,Heap.get?_push_size _ rfl,rfl,rfl⟩,fun b hb=>?_,q⟩
 have e:b=s1.heap.objs.size:=by simpa using hb
 subst e
 exact I1.fpOk (Nat.le_refl _) (I1.hok.fresh (Nat.le_refl _))
theorem Zhr {pins:List (Addr×Obj)}{σ:St}{H:Hp}{s:Shared}{R:It->Hp->Prop}{E:Value->Shared->Prop}{lo hi:Int}{t u v:Tok}{tk:Nat}(I:Inv X pins σ H s)(h1 : -(2 ^ 62)<=lo)(h2:lo<2 ^ 62)(h3 : -(2 ^ 62)<=hi)(h4:hi<2 ^ 62)
  (q:R (Itr lo (hi-lo).toNat) H):wpAny (model X.prog X.w) X.A (pyIter (.ref s.heap.objs.size)) (PIE X pins σ tg R) E { s with heap:=s.heap.push { cls:=.type "range",data:=.fields #[.int lo t,.int hi u,.int 1 v] },toks:=tk }:=by
 refine wpAny_pyIter_range (IsRange.new ..) (small_one h1 h2 h3 h4) ?_
 have I1:Inv X pins σ H { s with heap:=s.heap.push { cls:=.type "range",data:=.fields #[.int lo t,.int hi u,.int 1 v] },toks:=tk }:=I.kept fun b o e=>Heap.get?_push_of_some _ e
 refine⟨(s.heap.push { cls:=.type "range",data:=.fields #[.int lo t,.int hi u,.int 1 v] }).objs.size,[(s.heap.push { cls:=.type "range",data:=.fields #[.int lo t,.int hi u,.int 1 v] }).objs.size],_,_,H,rfl,
  I1.kept (t':=tk) fun b o e=>Heap.get?_push_of_some _ e,Zdh _ lo (hi-lo).toNat,?_,fun b hb=>?_,q⟩
 ·have e1:lo+((0:Nat):Int)*1=lo:=by simp
  have e2:(((hi-lo).toNat:Nat):Int)-((0:Nat):Int)=Builtin.Range.rangeSize lo hi 1:=by rw[rangeSize_one];split <;> omega
  show IsRangeIter _ _ (lo+((0:Nat):Int)*1) ((((hi-lo).toNat:Nat):Int)-((0:Nat):Int)) 1
  rw[e1,e2]
  exact Heap.get?_push_size _ rfl
 ·have e:b=(s.heap.push { cls:=.type "range",data:=.fields #[.int lo t,.int hi u,.int 1 v] }).objs.size:=by simpa using hb
  subst e
  exact I1.fpOk (Nat.le_refl _) (I1.hok.fresh (Nat.le_refl _))
def Zox (ta:TA):TI:=fun σ H R=>ta σ H fun vs H1=>∃j:Int,vs = [.int j] /\ -(2 ^ 62)<=j/\j<2 ^ 62/\R (Itr 0 j.toNat) H1
theorem Z2i {a:Expr}{ta:TA}{p pos:Pos}(hg:Gl X "range")(hm:X.mg "range"=none)(ha:PA X [a] ta)(hs:starEach [a] X.env = [(false,eval a X.env)]:=by rfl):PI X tg (.Call (.Name "range" p) [a] [] pos) (Zox ta):=by
 intro pins s σ H R I h
 refine Call_ (Z9k I hg hm boot_range (PyProof.Rows.callWith_type1 (thn (ha pos pins s σ H _ I h) fun us s1 ⟨vs,H1,I1,r1,q1⟩=>?_) hs rfl))
 obtain⟨j,e,q1,q2,q⟩:=q1
 subst e
 cases r1 with
 |cons r rr=>
  cases rr
  obtain⟨t,rfl⟩:=r
  exact call_range_1 (Zhr I1 (by omega) (by omega) q1 q2 (by simpa using q))
def Zqt (wi:TI)(g:TG)(tb:TS):TS:=fun D σ H=>wi σ H fun J H1=>∃W:Nat->Nat->St->Hp->Prop,(∃m,W 0 m σ H1)/\∀i m σ H,W i m σ H →
 (J.stop i H/\D.nx σ H)∨(J.go i H/\∃N:St->Hp->Prop,(∀ σ' H',N σ' H'->∃m',m'<m/\W (i+1) m' σ' H')/\∀x H',J.yld i H x H'->g x σ H' fun σ2 H2=>tb { D with nx:=N,ct:=N,bk:=D.nx } σ2 H2)
def Z4p (fp:List Addr)(h:Heap):List (Addr×Obj):=fp.filterMap fun b=>(h.get? b).map fun o=>(b,o)
theorem Z23 {fp:List Addr}{h:Heap}{b:Addr}{o:Obj}(hb:b∈fp)(e:h.get? b=some o):(b,o)∈Z4p fp h:=mem_filterMap.mpr ⟨b,hb,by rw[e];rfl⟩
theorem Z9n {fp:List Addr}{h:Heap}{p:Addr×Obj}(hp:p∈Z4p fp h):p.1∈fp/\h.get? p.1=some p.2:=by
 obtain⟨b,hb,e⟩:=mem_filterMap.mp hp
 cases q:h.get? b with
 |none=>rw[q] at e;cases e
 |some o=>
  rw[q] at e
  have e':(b,o)=p:=Option.some.inj e
  subst e'
  exact⟨hb,q⟩
theorem Inv.pinned {pins:List (Addr×Obj)}{σ:St}{H:Hp}{s:Shared}{fp:List Addr}(I:Inv X pins σ H s)(hf:∀b∈fp,Z4m X pins H b)(ho:∀b∈fp,∃o,s.heap.get? b=some o/\∀v,o.data ≠ .cell v):Inv X (pins++Z4p fp s.heap) σ H s:=
 I.pins_of fun p hp=>(mem_append.mp hp).elim (fun z=>I.pin p (mem_append_right _ z)) fun z=>by
  obtain⟨hb,e⟩:=Z9n z
  obtain⟨f0,f1,f2,_⟩:=hf p.1 hb
  obtain⟨o,e',d⟩:=ho p.1 hb
  rw[e] at e';cases e'
  exact⟨e,f0,f1,f2,d⟩
theorem Inv.unpinned {pins pl:List (Addr×Obj)}{σ:St}{H:Hp}{s:Shared}(I:Inv X (pins++pl) σ H s):Inv X pins σ H s:=I.pins_of fun p hp=>I.pin p (mem_append_right _ (mem_append_left _ hp))
theorem Z43 {iter:Expr}{body:List Stmt}{wi:TI}{g:TG}{tb:TS}{pos:Pos}(hp:PassesOwn (model X.prog X.w) X.A X.env X.xe)(hc:X.calm=true)(hi:PI X tg iter wi)(hg:PG X tg g)(hb:PSs X body tb)
  (hs:∀x,foldedSetIterable iter X.env x=pure x:=by intro _;rfl):PS X (.For tg iter body [] pos) (Zqt wi g tb):=by
 intro pins s σ H D I h
 refine wpAny_For (thn (hi pins s σ H _ I h) fun v s1 h1=>thn h1 fun itv s2 h2=>?_) hs
 obtain⟨it,fp,tn,J,H2,e,I2,T,st2,f2,W,⟨m0,w0⟩,turn⟩:=h2
 subst e
 have stat:∀{H':Hp},(∀b∈fp,H' b=none)->∀b∈fp,Z4m X pins H' b:=fun hn b hb=>⟨hn b hb,(f2 b hb).2⟩
 refine codeAny_forLoop_any (fun n s'=>∃i σ' H',Inv X pins σ' H' s'/\tn i s'.heap/\(∀b∈fp,H' b=none)/\W i n σ' H') ?_ m0 ⟨0,σ,H2,I2,st2,fun b hb=>(f2 b hb).1,w0⟩
 rintro n s3 ⟨i,σ3,H3,I3,st3,fr3,w3⟩
 rcases turn i n σ3 H3 w3 with ⟨stop,qn⟩|⟨go,N,hN,step⟩
 ·refine wpAny_passesOwn hp (thn (T.done X rfl rfl rfl hc i pins s3 σ3 H3 X.xe I3 (stat fr3) st3 stop) fun r s4 ⟨hr,I4⟩=>?_)
  subst hr
  exact wpAny_execs_nil ⟨σ3,H3,I4,qn⟩
 ·refine wpAny_passesOwn hp (thn (T.item X rfl rfl rfl hc i pins s3 σ3 H3 X.xe I3 (stat fr3) st3 go) fun r s4 ⟨u,hr,h4⟩=>?_)
  subst hr
  refine wpAny_passesOwn hp (thn h4 fun _ s5 ⟨x,H5,I5,r5,y5,st5,fr5⟩=>?_)
  have I5':=I5.pinned (stat fr5) (T.obj _ _ st5)
  refine wpAny_passesOwn hp (thn (hg _ s5 σ3 H5 x u _ I5' r5 (step x H5 y5)) fun _ s6 ⟨σ6,H6,I6,q6⟩=>?_)
  refine wpAny_passesOwn hp (thn (hb _ s6 σ6 H6 _ I6 q6) fun f s7 q7=>?_)
  have again:∀{σ7:St} {H7:Hp},Inv X (pins++Z4p fp s5.heap) σ7 H7 s7->N σ7 H7->∃m,m<n/\∃i σ' H',Inv X pins σ' H' s7/\tn i s7.heap/\(∀b∈fp,H' b=none)/\W i m σ' H':=fun {σ7 H7} I7 n7=>by
   obtain⟨m',hm,w7⟩:=hN σ7 H7 n7
   refine⟨m',hm,i+1,σ7,H7,I7.unpinned,T.keep _ _ _ st5 fun b hb o e=>(I7.pin (b,o) (mem_append_right _ (mem_append_right _ (Z23 hb e)))).1,fun b hb=>?_,w7⟩
   obtain⟨o,e,d⟩:=T.obj _ _ st5 b hb
   exact(I7.pin (b,o) (mem_append_right _ (mem_append_right _ (Z23 hb e)))).2.1
  cases f with
  |next=>obtain⟨σ7,H7,I7,n7⟩:=q7;exact again I7 n7
  |cont=>obtain⟨σ7,H7,I7,n7⟩:=q7;exact again I7 n7
  |brk=>obtain⟨σ7,H7,I7,q7⟩:=q7;exact⟨σ7,H7,I7.unpinned,q7⟩
  |ret v=>obtain⟨x7,σ7,H7,I7,r7,q7⟩:=q7;exact⟨x7,σ7,H7,I7.unpinned,r7,q7⟩
end
theorem Zbz {K:W.Frag}{a:Addr}{xs:List V}{g:TG}{tb:TS}{D:Ends}{σ:St}{H:Hp}(Pv:Nat->St->Hp->Prop)(h0:Pv 0 σ H)(hl:∀i σ H,i<=xs.length->Pv i σ H->SqL K H a xs)
  (hs:∀i x σ H,xs[i]? = some x->Pv i σ H->g x σ H fun σ2 H2=>tb { D with nx:=Pv (i+1),ct:=Pv (i+1),bk:=D.nx } σ2 H2) (hd:∀ σ H,Pv xs.length σ H->D.nx σ H):
  ∃W:Nat->Nat->St->Hp->Prop,(∃m,W 0 m σ H)/\∀i m σ H,W i m σ H →
   ((Itl K a).stop i H/\D.nx σ H)∨((Itl K a).go i H/\∃N:St->Hp->Prop,(∀ σ' H',N σ' H'->∃m',m'<m/\W (i+1) m' σ' H')/\∀x H',(Itl K a).yld i H x H'->g x σ H' fun σ2 H2=>tb { D with nx:=N,ct:=N,bk:=D.nx } σ2 H2):=by
 refine⟨fun i m σ H=>m=xs.length-i/\i<=xs.length/\Pv i σ H,⟨xs.length,by simp,Nat.zero_le _,h0⟩,?_⟩
 rintro i m σ H ⟨rfl,hi,p⟩
 have q:=hl i σ H hi p
 by_cases hlt:i<xs.length
 ·refine .inr ⟨⟨xs,xs[i],q,by simp [hlt]⟩,Pv (i+1),fun σ' H' p'=>⟨xs.length-(i+1),by omega,rfl,hlt,p'⟩,fun x H' y=>?_⟩
  obtain⟨e,y⟩:=y
  subst e
  exact hs i x σ _ (y xs q) p
 ·have e:i=xs.length:=by omega
  subst e
  exact .inl ⟨⟨xs,q,Nat.le_refl _⟩,hd σ H p⟩
theorem Zev {K:W.Frag}{a:Addr}{xs:List V}{g:TG}{tb:TS}{D:Ends}{σ:St}{H:Hp}(Pv:Nat->St->Hp->Prop)(h0:Pv 0 σ H)(hl:∀i σ H,i<=xs.length->Pv i σ H->SqT K H a xs)
  (hs:∀i x σ H,xs[i]? = some x->Pv i σ H->g x σ H fun σ2 H2=>tb { D with nx:=Pv (i+1),ct:=Pv (i+1),bk:=D.nx } σ2 H2) (hd:∀ σ H,Pv xs.length σ H->D.nx σ H):
  ∃W:Nat->Nat->St->Hp->Prop,(∃m,W 0 m σ H)/\∀i m σ H,W i m σ H →
   ((Itt K a).stop i H/\D.nx σ H)∨((Itt K a).go i H/\∃N:St->Hp->Prop,(∀ σ' H',N σ' H'->∃m',m'<m/\W (i+1) m' σ' H')/\∀x H',(Itt K a).yld i H x H'->g x σ H' fun σ2 H2=>tb { D with nx:=N,ct:=N,bk:=D.nx } σ2 H2):=by
 refine⟨fun i m σ H=>m=xs.length-i/\i<=xs.length/\Pv i σ H,⟨xs.length,by simp,Nat.zero_le _,h0⟩,?_⟩
 rintro i m σ H ⟨rfl,hi,p⟩
 have q:=hl i σ H hi p
 by_cases hlt:i<xs.length
 ·refine .inr ⟨⟨xs,xs[i],q,by simp [hlt]⟩,Pv (i+1),fun σ' H' p'=>⟨xs.length-(i+1),by omega,rfl,hlt,p'⟩,fun x H' y=>?_⟩
  obtain⟨e,y⟩:=y
  subst e
  exact hs i x σ _ (y xs q) p
 ·have e:i=xs.length:=by omega
  subst e
  exact .inl ⟨⟨xs,q,Nat.le_refl _⟩,hd σ H p⟩
theorem Z3d {lo:Int}{n:Nat}{g:TG}{tb:TS}{D:Ends}{σ:St}{H:Hp}(Pv:Nat->St->Hp->Prop)(h0:Pv 0 σ H)
  (hs:∀i σ H,i<n->Pv i σ H->g (.int (lo+i)) σ H fun σ2 H2=>tb { D with nx:=Pv (i+1),ct:=Pv (i+1),bk:=D.nx } σ2 H2) (hd:∀ σ H,Pv n σ H->D.nx σ H):
  ∃W:Nat->Nat->St->Hp->Prop,(∃m,W 0 m σ H)/\∀i m σ H,W i m σ H →
   ((Itr lo n).stop i H/\D.nx σ H)∨((Itr lo n).go i H/\∃N:St->Hp->Prop,(∀ σ' H',N σ' H'->∃m',m'<m/\W (i+1) m' σ' H')/\∀x H',(Itr lo n).yld i H x H'->g x σ H' fun σ2 H2=>tb { D with nx:=N,ct:=N,bk:=D.nx } σ2 H2):=by
 refine⟨fun i m σ H=>m=n-i/\i<=n/\Pv i σ H,⟨n,by simp,Nat.zero_le _,h0⟩,?_⟩
 rintro i m σ H ⟨rfl,hi,p⟩
 by_cases hlt:i<n
 ·refine .inr ⟨hlt,Pv (i+1),fun σ' H' p'=>⟨n-(i+1),by omega,rfl,hlt,p'⟩,fun x H' y=>?_⟩
  obtain⟨e,y⟩:=y
  subst e y
  exact hs i σ _ hlt p
 ·have e:i=n:=by omega
  subst e
  exact .inl ⟨Nat.le_refl _,hd σ H p⟩
theorem Zhs {c:TT}{tb:TS}{D:Ends}{σ:St}{H:Hp}(Pv:St->Hp->Prop)(μ : St->Hp->Nat)(h0:Pv σ H)
  (hs:∀ σ H,Pv σ H->c σ H fun b H1=>if b=true then tb { D with nx:=fun σ' H'=>Pv σ' H' /\ μ σ' H' < μ σ H,ct:=fun σ' H'=>Pv σ' H' /\ μ σ' H' < μ σ H,bk:=D.nx } σ H1 else D.nx σ H1)
  (mono:∀ σ H Q Q',(∀b H1,Q b H1->Q' b H1)->c σ H Q->c σ H Q'):tWhile c tb D σ H:=by
 refine⟨fun m σ H=>m = μ σ H/\Pv σ H,⟨_,rfl,h0⟩,?_⟩
 rintro m σ H ⟨rfl,p⟩
 refine mono σ H _ _ (fun b H1 q=>?_) (hs σ H p)
 cases b with
 |true=>exact⟨_,fun σ' H' ⟨p',l⟩=>⟨_,l,rfl,p'⟩,q⟩
 |false=>exact q
abbrev R2:=V->V->Hp->VK->Prop
def OpR (X:Cx)(f:Value->Value->Sem Value)(r:R2):Prop:=
 ∀(pins:List (Addr×Obj)) (s:Shared) (σ:St) (H:Hp) (x y:V) (v u:Value) (Q:VK),Inv X pins σ H s->RelV x v->RelV y u->r x y H Q →
  wpAny (model X.prog X.w) X.A (f v u) (EP X pins σ Q) X.xe s
def UnR (X:Cx)(f:Value->Sem Value)(r:V->Hp->VK->Prop):Prop:=
 ∀(pins:List (Addr×Obj)) (s:Shared) (σ:St) (H:Hp) (x:V) (v:Value) (Q:VK),Inv X pins σ H s->RelV x v->r x H Q →
  wpAny (model X.prog X.w) X.A (f v) (EP X pins σ Q) X.xe s
def Z4t (X:Cx)(f:Value)(r:List V->Hp->VK->Prop):Prop:=
 ∀(pins:List (Addr×Obj)) (s:Shared) (σ:St) (H:Hp) (xs:List V) (us:List Value) (Q:VK),Inv X pins σ H s->Vals xs us->r xs H Q →
  wpAny (model X.prog X.w) X.A (call f us) (EP X pins σ Q) X.xe s
def Zqu (X:Cx)(r:V->Hp->(Bool->Hp->Prop)->Prop):Prop:=
 ∀(pins:List (Addr×Obj)) (s:Shared) (σ:St) (H:Hp) (x:V) (v:Value) (Q:Bool->Hp->Prop),Inv X pins σ H s->RelV x v->r x H Q →
  wpAny (model X.prog X.w) X.A (truthy v) (TP X pins σ Q) X.xe s
def tOp (r:R2)(ta tb:TE):TE:=fun σ H Q=>ta σ H fun x H1=>tb σ H1 fun y H2=>r x y H2 Q
def tUn (r:V->Hp->VK->Prop)(ta:TE):TE:=fun σ H Q=>ta σ H fun x H1=>r x H1 Q
inductive rI (C:Int->Int->Prop)(g:Int->Int->V)(x:V)(y:V)(H:Hp)(Q:VK):Prop
 |mk (i j:_) (_:x = .int i) (_:y = .int j) (_:C i j) (_:Q (g i j) H):rI C g x y H Q
inductive rI0 (g:Int->Int->V)(x:V)(y:V)(H:Hp)(Q:VK):Prop
 |mk (i j:_) (_:x = .int i) (_:y = .int j) (_:Q (g i j) H):rI0 g x y H Q
inductive rU (g:Int->V)(x:V)(H:Hp)(Q:VK):Prop
 |mk (i:_) (_:x = .int i) (_:Q (g i) H):rU g x H Q
section
variable {X:Cx}{a b c:Expr}{ta tb tc:TE}{pos:Pos}
theorem Zoy (ha:PE X a ta)(hb:PE X b tb){pins:List (Addr×Obj)}{s:Shared}{σ:St}{H:Hp}{R:V->V->Hp->Prop}(I:Inv X pins σ H s)
  (h:ta σ H fun x H1=>tb σ H1 fun y H2=>R x y H2) {Q:Value->Shared->Prop} {f:Value->Value->Sem Value}
  (hf:∀v u s2 x y H2,Inv X pins σ H2 s2->RelV x v->RelV y u->R x y H2->wpAny (model X.prog X.w) X.A (f v u) Q X.xe s2):
  wpAny (model X.prog X.w) X.A (eval a X.env) (fun v s₁=>wpAny (model X.prog X.w) X.A (eval b X.env) (fun u s₂=>wpAny (model X.prog X.w) X.A (f v u) Q X.xe s₂) X.xe s₁) X.xe s:=by
 refine thn (ha pins s σ H _ I h) fun v s1 ⟨x,H1,I1,r1,q1⟩=>?_
 refine thn (hb pins s1 σ H1 _ I1 q1) fun u s2 ⟨y,H2,I2,r2,q2⟩=>?_
 exact hf v u s2 x y H2 I2 r1 r2 q2
theorem Z0m {op:Operator}{r:R2}(ho:OpR X (binaryOp op) r)(ha:PE X a ta)(hb:PE X b tb):PE X (.BinOp a op b pos) (tOp r ta tb):=by
 intro pins s σ H Q I h
 exact wpAny_BinOp (Zoy ha hb I h fun v u s2 x y H2 I2 rx ry q=>ho pins s2 σ H2 x y v u Q I2 rx ry q)
theorem Zew {op:UnaryOp}{r:V->Hp->VK->Prop}(ho:UnR X (unaryOp op) r)(ha:PE X a ta):PE X (.UnaryOp op a pos) (tUn r ta):=by
 intro pins s σ H Q I h
 exact UnaryOp_ (thn (ha pins s σ H _ I h) fun v s1 ⟨x,H1,I1,r1,q1⟩=>ho pins s1 σ H1 x v Q I1 r1 q1)
theorem opI {f:Value->Value->Sem Value}{C:Int->Int->Prop}{g:Int->Int->Int}
  (rule:∀(i j:Int) (t u:Tok) (s:Shared) (Q:Value->Shared->Prop) (E:Value->Shared->Prop),C i j->Q (.int (g i j) s.toks) { s with toks:=s.toks+1 }->wpAny (model X.prog X.w) X.A (f (.int i t) (.int j u)) Q E s):
  OpR X f (rI C fun i j=>.int (g i j)):=by
 intro pins s σ H x y v u Q I rx ry h
 obtain⟨i,j,rfl,rfl,hc,q⟩:=h
 obtain⟨t,rfl⟩:=rx
 obtain⟨t',rfl⟩:=ry
 exact rule i j t t' s _ _ hc ⟨.int (g i j),H,I.tok _,⟨_,rfl⟩,q⟩
theorem Zq8 {f:Value->Value->Sem Value}{g:Int->Int->Int}
  (rule:∀(i j:Int) (t u:Tok) (s:Shared) (Q:Value->Shared->Prop) (E:Value->Shared->Prop),Q (.int (g i j) s.toks) { s with toks:=s.toks+1 }->wpAny (model X.prog X.w) X.A (f (.int i t) (.int j u)) Q E s):
  OpR X f (rI0 fun i j=>.int (g i j)):=by
 intro pins s σ H x y v u Q I rx ry h
 obtain⟨i,j,rfl,rfl,q⟩:=h
 obtain⟨t,rfl⟩:=rx
 obtain⟨t',rfl⟩:=ry
 exact rule i j t t' s _ _ ⟨.int (g i j),H,I.tok _,⟨_,rfl⟩,q⟩
theorem Zoo {f:Value->Value->Sem Value}{g:Int->Int->Bool}
  (rule:∀(i j:Int) (t u:Tok) (s:Shared) (Q:Value->Shared->Prop) (E:Value->Shared->Prop),Q (.bool (g i j)) s->wpAny (model X.prog X.w) X.A (f (.int i t) (.int j u)) Q E s):
  OpR X f (rI0 fun i j=>.bl (g i j)):=by
 intro pins s σ H x y v u Q I rx ry h
 obtain⟨i,j,rfl,rfl,q⟩:=h
 obtain⟨t,rfl⟩:=rx
 obtain⟨t',rfl⟩:=ry
 exact rule i j t t' s _ _ ⟨.bl (g i j),H,I,rfl,q⟩
def Zqv (i j:Int):Prop:=0<=j/\j<=1000000/\i.natAbs<2 ^ 64
def CMul (i j:Int):Prop:=(-(2 ^ 64)<i/\i<2 ^ 64)∨(-(2 ^ 64)<j/\j<2 ^ 64)
theorem CMul.ok {i j:Int}(h:CMul i j):IntMulOk i j:=by
 rcases h with ⟨h1,h2⟩|⟨h1,h2⟩
 ·exact .of_left (intBits_le_64 h1 h2)
 ·exact .of_right (intBits_le_64 h1 h2)
theorem Z1w:OpR X (binaryOp .Add) (rI0 fun i j=>.int (i+j)):=Zq8 fun _ _ _ _ _ _ _ q=>add_int q
theorem Z24:OpR X (binaryOp .Sub) (rI0 fun i j=>.int (i-j)):=Zq8 fun _ _ _ _ _ _ _ q=>sub_int q
theorem Z25:OpR X (binaryOp .Mult) (rI CMul fun i j=>.int (i*j)):=opI fun _ _ _ _ _ _ _ hc q=>mul_int q hc.ok
theorem Z3e:OpR X (binaryOp .Mod) (rI (fun _ j=>0<j) fun i j=>.int (i % j)):=opI fun i j _ _ _ _ _ hc q=>by
 have h1:(0:Int)<j:=hc
 exact mod_int' (by omega) (by rw[Int.fmod_eq_emod_of_nonneg i (by omega)];exact q)
theorem Zmw:OpR X (binaryOp .Pow) (rI Zqv fun i j=>.int (i ^ j.toNat)):=opI fun _ _ _ _ _ _ _ hc q=>pow_int_small hc.1 hc.2.1 hc.2.2 q
theorem unI {f:Value->Sem Value}{g:Int->Int}
  (rule:∀(i:Int) (t:Tok) (s:Shared) (Q:Value->Shared->Prop) (E:Value->Shared->Prop),Q (.int (g i) s.toks) { s with toks:=s.toks+1 }->wpAny (model X.prog X.w) X.A (f (.int i t)) Q E s):
  UnR X f (rU fun i=>.int (g i)):=by
 intro pins s σ H x v Q I rx h
 obtain⟨i,rfl,q⟩:=h
 obtain⟨t,rfl⟩:=rx
 exact rule i t s _ _ ⟨.int (g i),H,I.tok _,⟨_,rfl⟩,q⟩
theorem Z9o:UnR X (unaryOp .USub) (rU fun i=>.int (-i)):=unI fun _ _ _ _ _ q=>neg_int q
end
def Zq9:V->V->Bool
 | .non,.non=>true | .non,.int _=>true | .int _,.non=>true | .non,.bl _=>true | .bl _,.non=>true | .non,.str _=>true | .str _,.non=>true
 | .int _,.int _=>true | .bl _,.bl _=>true | .str _,.str _=>true | .byt _,.byt _=>true
 | .int _,.str _=>true | .str _,.int _=>true | .bl _,.str _=>true | .str _,.bl _=>true
 |_,_=>false
def rEq:R2:=fun x y H Q=>Zq9 x y=true/\Q (.bl (decide (x=y))) H
def rNe:R2:=fun x y H Q=>Zq9 x y=true/\Q (.bl (!decide (x=y))) H
theorem Zex {i j:Int}:decide (V.int i=V.int j)=(i==j):=by
 rw[Bool.eq_iff_iff]
 simp
theorem Zju {i j:Bool}:decide (V.bl i=V.bl j)=(i==j):=by
 rw[Bool.eq_iff_iff]
 simp
theorem Zey {i j:Str}:decide (V.str i=V.str j)=(i==j):=by
 rw[Bool.eq_iff_iff]
 simp
theorem Zez {i j:Array UInt8}:decide (V.byt i=V.byt j)=(i.toList==j.toList):=by
 rw[Bool.eq_iff_iff]
 cases i
 cases j
 simp
section
variable {X:Cx}{a b c:Expr}{ta tb tc:TE}{pos:Pos}
theorem Z10 {pins:List (Addr×Obj)}{σ:St}{H:Hp}{s:Shared}{Q:VK}{k k':Bool}(I:Inv X pins σ H s)(q:Q (.bl k) H)(e:k=k'):EP X pins σ Q (.bool k') s:=by
 subst e
 exact⟨.bl k,H,I,rfl,q⟩
theorem Z1f:OpR X (compareOp .Eq) rEq:=by
 intro pins s σ H x y v u Q I rx ry h
 obtain⟨hs,q⟩:=h
 cases x with
 |non=>
  cases rx
  cases y with
  |non=>cases ry;exact PySem.EqNone.eq_none_none (Z10 I q (by simp))
  |bl j=>cases ry;exact PySem.EqNone.eq_none_bool (Z10 I q (by simp))
  |int j=>obtain⟨t',rfl⟩:=ry;exact PySem.EqNone.eq_none_int (Z10 I q (by simp))
  |str j=>obtain⟨t',rfl⟩:=ry;exact PySem.EqNone.eq_none_str (Z10 I q (by simp))
  |_=>exact absurd (show false=true from hs) Bool.false_ne_true
 |bl i=>
  cases rx
  cases y with
  |non=>cases ry;exact PySem.EqNone.eq_bool_none (Z10 I q (by simp))
  |bl j=>cases ry;exact eq_bool (Z10 I q Zju)
  |str j=>obtain⟨t',rfl⟩:=ry;exact PySem.EqMixed.eq_bool_str (Z10 I q (by simp))
  |_=>exact absurd (show false=true from hs) Bool.false_ne_true
 |int i=>
  obtain⟨t,rfl⟩:=rx
  cases y with
  |non=>cases ry;exact PySem.EqNone.eq_int_none (Z10 I q (by simp))
  |int j=>obtain⟨t',rfl⟩:=ry;exact eq_int (Z10 I q Zex)
  |str j=>obtain⟨t',rfl⟩:=ry;exact PySem.EqMixed.eq_int_str (Z10 I q (by simp))
  |_=>exact absurd (show false=true from hs) Bool.false_ne_true
 |str i=>
  obtain⟨t,rfl⟩:=rx
  cases y with
  |non=>cases ry;exact PySem.EqNone.eq_str_none (Z10 I q (by simp))
  |bl j=>cases ry;exact PySem.EqMixed.eq_str_bool (Z10 I q (by simp))
  |int j=>obtain⟨t',rfl⟩:=ry;exact PySem.EqMixed.eq_str_int (Z10 I q (by simp))
  |str j=>obtain⟨t',rfl⟩:=ry;exact eq_str (Z10 I q Zey)
  |_=>exact absurd (show false=true from hs) Bool.false_ne_true
 |byt i=>
  obtain⟨t,rfl⟩:=rx
  cases y with
  |byt j=>obtain⟨t',rfl⟩:=ry;exact PySem.W.eq_bytes (Z10 I q Zez)
  |_=>exact absurd (show false=true from hs) Bool.false_ne_true
 |_=>cases y <;> exact absurd (show false=true from hs) Bool.false_ne_true
theorem Zdi:OpR X (compareOp .NotEq) rNe:=by
 intro pins s σ H x y v u Q I rx ry h
 obtain⟨hs,q⟩:=h
 cases x with
 |non=>
  cases rx
  cases y with
  |non=>cases ry;exact PySem.EqNone.ne_none_none (Z10 I q (by simp))
  |bl j=>cases ry;exact PySem.EqNone.ne_none_bool (Z10 I q (by simp))
  |int j=>obtain⟨t',rfl⟩:=ry;exact PySem.EqNone.ne_none_int (Z10 I q (by simp))
  |str j=>obtain⟨t',rfl⟩:=ry;exact PySem.EqNone.ne_none_str (Z10 I q (by simp))
  |_=>exact absurd (show false=true from hs) Bool.false_ne_true
 |bl i=>
  cases rx
  cases y with
  |non=>cases ry;exact PySem.EqNone.ne_bool_none (Z10 I q (by simp))
  |bl j=>cases ry;exact ne_bool (Z10 I q (congrArg not Zju))
  |str j=>obtain⟨t',rfl⟩:=ry;exact PySem.EqMixed.ne_bool_str (Z10 I q (by simp))
  |_=>exact absurd (show false=true from hs) Bool.false_ne_true
 |int i=>
  obtain⟨t,rfl⟩:=rx
  cases y with
  |non=>cases ry;exact PySem.EqNone.ne_int_none (Z10 I q (by simp))
  |int j=>obtain⟨t',rfl⟩:=ry;exact ne_int (Z10 I q (congrArg not Zex))
  |str j=>obtain⟨t',rfl⟩:=ry;exact PySem.EqMixed.ne_int_str (Z10 I q (by simp))
  |_=>exact absurd (show false=true from hs) Bool.false_ne_true
 |str i=>
  obtain⟨t,rfl⟩:=rx
  cases y with
  |non=>cases ry;exact PySem.EqNone.ne_str_none (Z10 I q (by simp))
  |bl j=>cases ry;exact PySem.EqMixed.ne_str_bool (Z10 I q (by simp))
  |int j=>obtain⟨t',rfl⟩:=ry;exact PySem.EqMixed.ne_str_int (Z10 I q (by simp))
  |str j=>obtain⟨t',rfl⟩:=ry;exact ne_str (Z10 I q (congrArg not Zey))
  |_=>exact absurd (show false=true from hs) Bool.false_ne_true
 |byt i=>
  obtain⟨t,rfl⟩:=rx
  cases y with
  |byt j=>obtain⟨t',rfl⟩:=ry;exact PySem.W.ne_bytes (Z10 I q (congrArg not Zez))
  |_=>exact absurd (show false=true from hs) Bool.false_ne_true
 |_=>cases y <;> exact absurd (show false=true from hs) Bool.false_ne_true
theorem Z9p:OpR X (compareOp .Lt) (rI0 fun i j=>.bl (decide (i<j))):=Zoo fun _ _ _ _ _ _ _ q=>lt_int q
theorem Zoz:OpR X (compareOp .LtE) (rI0 fun i j=>.bl (decide (i<=j))):=Zoo fun _ _ _ _ _ _ _ q=>le_int q
theorem Zht:OpR X (compareOp .Gt) (rI0 fun i j=>.bl (decide (j<i))):=Zoo fun _ _ _ _ _ _ _ q=>gt_int q
theorem Zmx:OpR X (compareOp .GtE) (rI0 fun i j=>.bl (decide (j<=i))):=Zoo fun _ _ _ _ _ _ _ q=>ge_int q
theorem Z0i (b:Expr){op:CmpOp}(h:op ≠ .In:=by decide)(h2:op ≠ .NotIn:=by decide):behindInMarks op b=false:=by
 have e1:(op==CmpOp.In)=false:=by cases op <;> first|rfl|exact absurd rfl h
 have e2:(op==CmpOp.NotIn)=false:=by cases op <;> first|rfl|exact absurd rfl h2
 cases b <;> simp [behindInMarks,e1,e2]
theorem Z44 {op:CmpOp}{r:R2}(ho:OpR X (compareOp op) r)(ha:PE X a ta)(hb:PE X b tb)(hm:behindInMarks op b=false):PE X (.Compare a [op] [b] pos) (tOp r ta tb):=by
 intro pins s σ H Q I h
 exact wpAny_Compare1 (Zoy ha hb I h fun v u s2 x y H2 I2 rx ry q=>ho pins s2 σ H2 x y v u Q I2 rx ry q) hm
def Zmy (t:TE):TT:=fun σ H Q=>t σ H fun x H'=>∃k,x = .bl k/\Q k H'
theorem Z09 {op:CmpOp}{r:R2}(ho:OpR X (compareOp op) r)(ha:PE X a ta)(hb:PE X b tb)(hm:behindInMarks op b=false):PT X (.Compare a [op] [b] pos) (Zmy (tOp r ta tb)):=by
 intro pins s σ H Q I h
 refine wpAny_isTrue_Compare1 (thn (ha pins s σ H _ I h) fun v s1 ⟨x,H1,I1,r1,q1⟩=>thn (hb pins s1 σ H1 _ I1 q1) fun u s2 ⟨y,H2,I2,r2,q2⟩=>
  thn (ho pins s2 σ H2 x y v u _ I2 r1 r2 q2) fun c s3 ⟨z,H3,I3,r3,k,e,q3⟩=>?_) hm
 subst e
 cases r3
 exact wpAny_truthy_bool ⟨H3,I3,q3⟩
def Zmz (r r':R2)(ta tb tc:TE):TE:=fun σ H Q=>ta σ H fun x H1=>tb σ H1 fun y H2=>r x y H2 fun z H3=>∃k,z = .bl k ∧
 (if k=true then tc σ H3 fun w' H4=>r' y w' H4 Q else Q (.bl false) H3)
theorem Zhu {op op':CmpOp}{r r':R2}(ho:OpR X (compareOp op) r)(ho':OpR X (compareOp op') r')(ha:PE X a ta)(hb:PE X b tb)(hc:PE X c tc)
  (hm:lastMarks [op,op'] [b,c]=false:=by with_unfolding_all rfl):PT X (.Compare a [op,op'] [b,c] pos) (Zmy (Zmz r r' ta tb tc)):=by
 intro pins s σ H Q I h
 refine isTrue_chain (thn (ha pins s σ H _ I h) fun v s1 ⟨x,H1,I1,r1,q1⟩=>test_link (thn (hb pins s1 σ H1 _ I1 q1) fun u s2 ⟨y,H2,I2,r2,q2⟩=>
  thn (ho pins s2 σ H2 x y v u _ I2 r1 r2 q2) fun d s3 ⟨z,H3,I3,r3,k,e,q3⟩=>?_)) hm
 subst e
 cases r3
 refine wpAny_truthy_bool ?_
 cases k with
 |false=>
  obtain⟨k',e',q'⟩:=q3
  cases e'
  exact ite_ff ⟨H3,I3,q'⟩
 |true=>
  refine ite_tt (test_last (thn (hc pins s3 σ H3 _ I3 q3) fun w' s4 ⟨z',H4,I4,r4,q4⟩=>thn (ho' pins s4 σ H4 y z' u w' _ I4 r2 r4 q4) fun d' s5 ⟨z2,H5,I5,r5,k2,e2,q5⟩=>?_))
  subst e2
  cases r5
  exact wpAny_truthy_bool ⟨H5,I5,q5⟩
def Zqa (K:W.Frag)(x:V)(H:Hp)(k:Bool):Prop:=
 match x with
 | .non=>k=false
 | .bl b=>k=b
 | .int i=>k=(i != 0)
 | .str y=>y.length<=sizeLine/\k=((y.length:Int) != 0)
 | .byt y=>y.size<=sizeLine/\k=((y.size:Int) != 0)
 | .ref p=>(∃xs,SqL K H p xs/\k = !xs.isEmpty)∨(∃xs,SqT K H p xs/\k = !xs.isEmpty)∨∃kvs,H p=some (.dK kvs)/\k = !kvs.isEmpty
 |_=>False
theorem Zdj {κ : Type}{kvs:List (κ × V)}{vs:List (κ × Value)}(r:KV kvs vs):(!vs.isEmpty) = !kvs.isEmpty:=by
 cases r <;> rfl
theorem Z7m {xs:List V}{its:List Value}(r:Vals xs its):(!its.toArray.isEmpty) = !xs.isEmpty:=by
 cases r <;> simp
theorem Z6g:(sizeLine:Nat)<2 ^ 63:=by rw[sizeLine_eq];decide
theorem Zn0:Zqu X (fun x H Q=>∃k,Zqa X.K x H k/\Q k H):=by
 intro pins s σ H x v Q I rx h
 obtain⟨k,e,q⟩:=h
 have hl:=Z6g
 have hs:=sizeLine_eq
 cases x with
 |non=>
  cases rx
  have e':k=false:=e
  subst e'
  exact truthy_none ⟨H,I,q⟩
 |bl b=>
  cases rx
  have e':k=b:=e
  subst e'
  exact wpAny_truthy_bool ⟨H,I,q⟩
 |int i=>
  obtain⟨t,rfl⟩:=rx
  have e':k=(i != 0):=e
  subst e'
  exact PySem.P.truthy_int ⟨H,I,q⟩
 |str y=>
  obtain⟨t,rfl⟩:=rx
  obtain⟨hy,e'⟩:y.length<=sizeLine/\k=((y.length:Int) != 0):=e
  subst e'
  exact PySem.P.truthy_str (by omega) ⟨H,I.tok _,q⟩
 |byt y=>
  obtain⟨t,rfl⟩:=rx
  obtain⟨hy,e'⟩:y.size<=sizeLine/\k=((y.size:Int) != 0):=e
  subst e'
  exact PySem.W.truthy_bytes (by omega) ⟨H,I.tok _,q⟩
 |ref p=>
  cases rx
  have e':(∃xs,SqL X.K H p xs/\k = !xs.isEmpty)∨(∃xs,SqT X.K H p xs/\k = !xs.isEmpty)∨∃kvs,H p=some (.dK kvs)/\k = !kvs.isEmpty:=e
  rcases e' with ⟨xs,hx,e'⟩|⟨xs,hx,e'⟩|⟨kvs,hx,e'⟩
  ·subst e'
   obtain⟨its,r,pl,hz⟩:=I.list hx
   have hlen:=r.length
   exact wpAny_truthy_list pl.isList (by simp only [size_toArray];omega) ⟨H,I.tok _,by rw[Z7m r];exact q⟩
  ·subst e'
   obtain⟨its,r,pl,hz⟩:=I.tuple hx
   have hlen:=r.length
   exact truthy_tuple pl (by simp only [size_toArray];omega) ⟨H,I.tok _,by rw[Z7m r];exact q⟩
  ·subst e'
   obtain⟨hz,hS,vs,r,m⟩:kvs.length<=sizeLine/\(p==sysModules)=false/\∃vs,KV kvs vs/\s.heap.DictOf (Z1l X.prog X.w) p vs:=I.hok p _ hx
   have hlen:kvs.length=vs.length:=Paired.length r
   exact wpAny_truthy_dict hS m (by omega) ⟨H,I.tok _,by rw[Zdj r];exact q⟩
 |_=>exact(show False from e).elim
theorem Zc0 (ha:PE X a ta)(he:∀whole,isTrue a X.env whole=(do let v ← whole;standAt a.pos;holding [v] (truthy v))):
  PT X a (fun σ H Q=>ta σ H fun x H'=>∃k,Zqa X.K x H' k/\Q k H'):=by
 intro pins s σ H Q I h
 exact isTrue_plain (thn (ha pins s σ H _ I h) fun v s1 ⟨x,H1,I1,r1,q1⟩=>Zn0 pins s1 σ H1 x v Q I1 r1 q1) (he _)
theorem Z3f:OpR X (binaryOp .Add) (fun x y H Q=>∃i j,x = .str i/\y = .str j/\i.length+j.length<=sizeLine/\Q (.str (i++j)) H):=by
 intro pins s σ H x y v u Q I rx ry h
 obtain⟨i,j,rfl,rfl,hz,q⟩:=h
 obtain⟨t,rfl⟩:=rx
 obtain⟨t',rfl⟩:=ry
 exact add_str (fun t' tk=>⟨.str (i++j),H,I.tok _,⟨_,rfl⟩,q⟩) hz
theorem Z7f {x:V}{us:List Value}(r:Vals [x] us):∃u,us = [u]/\RelV x u:=by
 cases r with
 |cons r1 r2=>cases r2;exact⟨_,rfl,r1⟩
theorem Zp0 {x y:V}{us:List Value}(r:Vals [x,y] us):∃u w',us = [u,w']/\RelV x u/\RelV y w':=by
 cases r with
 |cons r1 r2=>
  cases r2 with
  |cons r3 r4=>cases r4;exact⟨_,_,rfl,r1,r3⟩
end
structure ObjM (h:Heap)(x dx C:Addr)(mA:Str->Option Value):Prop where
 obj:h.get? x=some (PySem.W.instObj C dx)
 ns:h.Ns1 dx mA
 ne:dx≠x
theorem Zf0 {h:Heap}{dx:Addr}{mA:Str->Option Value}(n:h.Ns1 dx mA):∃od,h.get? dx=some od/\∀name,PySem.W.lookIn name od=some (mA name):=by
 obtain⟨o,es,ep,ho,hd,hk,_,hm⟩:=n
 refine⟨o,ho,fun name=>?_⟩
 have e:=hm name
 unfold nsFind findBy at e
 rw[<- Array.find?_toList] at e
 unfold PySem.W.lookIn
 rw[hd]
 dsimp only
 split
 ·rename_i y q
  rw[q] at e
  exact congrArg some e
 ·rename_i q
  rw[q] at e
  have a:es.toList.any (·.refKey)=false:=by
   rw[List.any_eq_false]
   intro y hy
   obtain⟨z,t,hkey⟩:=hk y (Array.mem_toList_iff.mp hy)
   simp [DictEntry.refKey,hkey]
  have a':¬es.toList.any (·.refKey)=true:=by rw[a];exact Bool.false_ne_true
  rw[if_neg a']
  exact congrArg some e
theorem ObjM.look {h:Heap}{x dx C:Addr}{mA:Str->Option Value}(I:ObjM h x dx C mA):∃od,PySem.W.InstAt h x (PySem.W.instObj C dx) C (some od)/\∀name,PySem.W.lookIn name od=some (mA name):=
 let ⟨od,ho,hl⟩:=Zf0 I.ns
 ⟨od,⟨I.obj,rfl,rfl,ho⟩,hl⟩
theorem RelO.some_of {v:V}{o:Option Value}(r:RelO (some v) o):∃u,o=some u/\RelV v u:=by
 cases o with
 |none=>exact(show False from r).elim
 |some u=>exact⟨u,rfl,r⟩
theorem RelO.none_of {o:Option Value}(r:RelO none o):o=none:=by
 cases o with
 |none=>rfl
 |some u=>exact(show False from r).elim
section
variable {P:Program}{w:World}{H H':Hp}{h h':Heap}{a C dx:Addr}{fs fs':List (Str×V)}
theorem Zkj (hok:HOk P w H h)(e:H a=some (.ins C dx fs)):∃mA,ObjM h a dx C mA/\(∀f,RelO (fs.lookup f) (mA f))/\PySem.Within mA (fs.map (·.1))/\fs.length<=1000/\H dx=some (.own a):=by
 obtain⟨d,z,ne,ob,mA,n,r,q⟩:=(show ObjOk P w H h a (.ins C dx fs) from hok a _ e)
 exact⟨mA,⟨ob,n,ne⟩,r,q,z,d⟩
end
structure Cls (K:W.Frag)(C:Addr):Prop where
 pg:PySem.W.plainGet K C Str.empty=true
 hd:PySem.W.hasDictIn K C=true
 po:PySem.W.plainOver K C=true
 sa:PySem.W.findIn K (.ref C) "__setattr__"=some (some (.builtin "object.__setattr__"))
theorem Cls.get {K:W.Frag}{C:Addr}(c:Cls K C)(f:Str):PySem.W.plainGet K C f=true:=c.pg
section
variable {X:Cx}{pins:List (Addr×Obj)}{σ:St}{H:Hp}{s:Shared}{A:Around}{E:Value->Shared->Prop}{Q:Value->Shared->Prop}{c:Value}{b:Bool}
inductive TyOf (K:W.Frag)(H:Hp):V->Value->Prop where
 |non:TyOf K H .non (.type "NoneType")
 |bl (x:Bool):TyOf K H (.bl x) (.type "bool")
 |int (i:Int):TyOf K H (.int i) (.type "int")
 |str (x:Str):TyOf K H (.str x) (.type "str")
 |flt (x:UInt64):TyOf K H (.flt x) (.type "float")
 |lst {a:Addr} {xs:List V} (e:H a=some (.lst xs)):TyOf K H (.ref a) (.type "list")
 |frz {a:Addr} {o:Obj} {xs:List V} (e:H a=some (.frz o (.lst xs))):TyOf K H (.ref a) (.type "list")
 |tup {a:Addr} {xs:List V} (e:H a=some (.tup xs)):TyOf K H (.ref a) (.type "tuple")
 |dK {a:Addr} {kvs:List (Key×V)} (e:H a=some (.dK kvs)):TyOf K H (.ref a) (.type "dict")
 |dT {a:Addr} {kvs:List (List Key×V)} (e:H a=some (.dT kvs)):TyOf K H (.ref a) (.type "dict")
 |ins {a C dx:Addr} {fs:List (Str×V)} (e:H a=some (.ins C dx fs)) (cl:Cls K C) (ha:PySem.W.findIn K (.ref C) "__class__"=some (some (.builtin "object.__class__")))
   (hn:PySem.W.specialIn K (.builtin "object.__class__") "__get__"=some (some (.builtin "getset_descriptor.__get__"))) (htk:PySem.W.takesIn K (.builtin "object.__class__")=some true)
   (hm:PySem.W.mroIn K C (.type "object")=some true):TyOf K H (.ref a) (.ref C)
theorem Zf1 {x:V}{u t:Value}(I:Inv X pins σ H s)(rx:RelV x u)(ty:TyOf X.K H x t)(e:PySem.W.kitOne X.K t c=some b)(h:∀tk,Q (.bool b) { s with toks:=tk }):
  wpAny (model X.prog X.w) A (call (.builtin "isinstance") [u,c]) Q E s:=by
 cases ty with
 |non=>cases (show u=Value.none from rx);exact PySem.W.kia_one PySem.W.kitx_none I.kIn True.intro e (fun z=>nomatch z) h
 |bl y=>cases (show u=Value.bool y from rx);exact PySem.W.kia_one PySem.W.kitx_bool I.kIn True.intro e (fun z=>nomatch z) h
 |int i=>obtain⟨t,q⟩:=(show ∃t,u=Value.int i t from rx);cases q;exact PySem.W.kia_one PySem.W.kitx_int I.kIn True.intro e (fun z=>nomatch z) h
 |str y=>obtain⟨t,q⟩:=(show ∃t,u=Value.str y t from rx);cases q;exact PySem.W.kia_one PySem.W.kitx_str I.kIn True.intro e (fun z=>nomatch z) h
 |flt y=>obtain⟨t,q⟩:=(show ∃t,u=Value.float y t from rx);cases q;exact PySem.W.kia_one PySem.W.kitx_float I.kIn True.intro e (fun z=>nomatch z) h
 | @lst a xs ea=>
  cases (show u=Value.ref a from rx)
  obtain⟨_,_,n,_,h1⟩:=(show ObjOk X.prog X.w H s.heap a (.lst xs) from I.hok a _ ea)
  exact PySem.W.kia_one PySem.W.kitx_list I.kIn ⟨_,h1,rfl⟩ e (fun z=>nomatch z) h
 | @frz a ob xs ea=>
  cases (show u=Value.ref a from rx)
  obtain⟨_,_,_,n,_,h1⟩:=(show ObjOk X.prog X.w H s.heap a (.frz ob (.lst xs)) from I.hok a _ ea)
  exact PySem.W.kia_one PySem.W.kitx_list I.kIn ⟨_,h1,rfl⟩ e (fun z=>nomatch z) h
 | @tup a xs ea=>
  cases (show u=Value.ref a from rx)
  obtain⟨_,_,_,p⟩:=(show ObjOk X.prog X.w H s.heap a (.tup xs) from I.hok a _ ea)
  obtain⟨o,h1,h2,_⟩:=p
  exact PySem.W.kia_one PySem.W.kitx_tuple I.kIn ⟨o,h1,h2⟩ e (fun z=>nomatch z) h
 | @dK a kvs ea=>
  cases (show u=Value.ref a from rx)
  obtain⟨_,_,vs,_,p⟩:=(show ObjOk X.prog X.w H s.heap a (.dK kvs) from I.hok a _ ea)
  obtain⟨o,es,ep,h1,h2,_⟩:=p
  exact PySem.W.kia_one PySem.W.kitx_dict I.kIn ⟨o,h1,h2.1⟩ e (fun z=>nomatch z) h
 | @dT a kvs ea=>
  cases (show u=Value.ref a from rx)
  obtain⟨_,_,xs,_,o,es,ep,h1,h2,_⟩:=(show ObjOk X.prog X.w H s.heap a (.dT kvs) from I.hok a _ ea)
  exact PySem.W.kia_one PySem.W.kitx_dict I.kIn ⟨o,h1,h2.1⟩ e (fun z=>nomatch z) h
 | @ins a C dx fs ea cl ha hn htk hm=>
  cases (show u=Value.ref a from rx)
  obtain⟨mA,O,_⟩:=Zkj I.hok ea
  obtain⟨od,J,_⟩:=O.look
  exact PySem.W.kia_one (PySem.W.kitx_own (cl.get _) cl.hd ha hn htk hm) I.kIn J e (fun z=>nomatch z) h
end
structure Room (k:Nat)(A:Around):Prop where
 hd:A.handled=none
 gd:A.guards=some []
 dp:A.depth+3*k+5<recursionLimit
 un:A.units+16*k+200<cLine
theorem Room.mono {j k:Nat}{A:Around}(r:Room k A)(h:j<=k):Room j A:=⟨r.hd,r.gd,by have:=r.dp;omega,by have:=r.un;omega⟩
theorem Room.deeper {k:Nat}{A:Around}(r:Room (k+1) A)(env:Env):Room k (A.deeper env):=
 ⟨r.hd,r.gd,by have:=r.dp;show A.depth+1+3*k+5<_;omega,by have:=r.un;show A.units+3+16*k+200<_;omega⟩
theorem Room.depth {k:Nat}{A:Around}(r:Room k A):A.depth<recursionLimit:=by have:=r.dp;omega
theorem Room.units {k:Nat}{A:Around}(r:Room k A):A.units+64<cLine:=by have:=r.un;omega
theorem Room.units0 {k:Nat}{A:Around}(r:Room k A):A.units<cLine:=by have:=r.un;omega
def tNil:TA:=fun _ H Q=>Q [] H
def Zf2 (ta:TE)(tr:TA):TA:=fun σ H Q=>ta σ H fun x H1=>tr σ H1 fun xs H2=>Q (x::xs) H2
section
variable {X:Cx}{e:Expr}{es:List Expr}{te:TE}{t:TA}{pos:Pos}
theorem Z02:PA X [] tNil:=fun _ _ _ _ H Q I h=>Calls.spliced_nil ⟨[],H,I,.nil,h⟩
theorem Z0b (ha:PE X e te)(hr:PA X es t)(hs:starEach (e::es) X.env=(false,eval e X.env)::starEach es X.env:=by rfl):PA X (e::es) (Zf2 te t):=by
 intro pos pins s σ H Q I h
 rw[hs]
 show wpAny _ _ (spliced ((false,eval e X.env)::backTo pos (starEach es X.env))) _ _ s
 refine Calls.spliced_cons (thn (ha pins s σ H _ I h) fun u s1 ⟨x,H1,I1,r1,q1⟩=>?_)
 exact thn (hr pos pins s1 σ H1 _ I1 q1) fun us s2 ⟨xs,H2,I2,r2,q2⟩=>⟨x::xs,H2,I2,.cons r1 r2,q2⟩
def Zqw (t:TA):TE:=fun σ H Q=>t σ H fun xs H1=>xs.length<=sizeLine/\∀p,H1 p=none->Q (.ref p) (upd H1 p (.tup xs))
def Zqb (t:TA):TE:=fun σ H Q=>t σ H fun xs H1=>xs.length<=sizeLine/\∀p,H1 p=none->Q (.ref p) (upd H1 p (.lst xs))
theorem Z0v {x1}(h:PA X es t):PE X (.Tuple es x1 pos) (Zqw t):=by
 intro pins s σ H Q I hq
 refine wpAny_Tuple_spliced (thn (h pos pins s σ H _ I hq) fun us s1 ⟨xs,H1,I1,r,z,q⟩=>⟨by rw[<- r.length];exact z,?_⟩)
 have hf:H1 s1.heap.objs.size=none:=I1.hok.fresh (Nat.le_refl _)
 refine⟨.ref s1.heap.objs.size,upd H1 s1.heap.objs.size (.tup xs),I1.laid (t':=s1.toks) (fun b u e=>Heap.get?_push_of_some _ e) (Nat.le_refl _) ?_,rfl,q _ hf⟩
 exact⟨z,us,r,⟨_,Heap.get?_push_size _ rfl,rfl,_,rfl⟩⟩
theorem Z14 (h:PA X es t):PE X (.List es pos) (Zqb t):=by
 intro pins s σ H Q I hq
 refine wpAny_List_spliced (thn (h pos pins s σ H _ I hq) fun us s1 ⟨xs,H1,I1,r,z,q⟩=>⟨by rw[<- r.length];exact z,?_⟩)
 have hf:H1 s1.heap.objs.size=none:=I1.hok.fresh (Nat.le_refl _)
 refine⟨.ref s1.heap.objs.size,upd H1 s1.heap.objs.size (.lst xs),I1.laid (t':=s1.toks) (fun b u e=>Heap.get?_push_of_some _ e) (Nat.le_refl _) ?_,rfl,q _ hf⟩
 exact⟨z,us,0,r,Heap.get?_push_size _ rfl⟩
end
abbrev Sp:=List V->Hp->VK->XK->Prop
abbrev CXT:=List Env->Hp->Shared->XK->Value->Shared->Prop
structure Env0 (P:Program)(w:World)(K:W.Frag)(mg:Str->Option Value)(base:Heap)(A:Around)(outer:List Env)(s:Shared)(H:Hp):Prop where
 frames:A.frames=some outer
 mod:Mod K mg base
 bs:∀b o,base.get? b=some o->s.heap.get? b=some o/\H b=none
 bsz:base.objs.size<=s.heap.objs.size
 funs:s.heap.FunFrames base outer
 frf:∀b∈frs outer,H b=none
 hok:HOk P w H s.heap
 bare:AllBare s.gens
def CE (outer:List Env)(P:Program)(w:World)(H:Hp)(s:Shared)(Q:VK)(u:Value)(s':Shared):Prop:=
 ∃v H',s'.os=s.os/\AllBare s'.gens/\Un (frs outer) [] H H' s.heap s'.heap/\HOk P w H' s'.heap/\RelV v u/\Q v H'
def CR (CX:CXT)(outer:List Env)(P:Program)(w:World)(H:Hp)(s:Shared)(Q:VK)(E:XK)(r:Result)(s':Shared):Prop:=
 match r with
 | .ok (.ret u)=>CE outer P w H s Q u s'
 | .ok _=>False
 | .error e=>CX outer H s E e s'
structure FnOk (P:Program)(w:World)(K:W.Frag)(mg:Str->Option Value)(base:Heap)(CX:CXT)(k:Nat)(f:Addr)(fd:FuncData)(ps:List Str)(sp:Sp):Prop where
 len:∀vs H Q E,sp vs H Q E->vs.length=ps.length
 run:∀(A:Around) (outer:List Env) (s:Shared) (H:Hp) (args:Args) (us:List Value) (vs:List V) (Q:VK) (E:XK),Room k A->Env0 P w K mg base A outer s H->BindsTo s fd args (ps.zip us)->Vals vs us->sp vs H Q E →
  codeAny (model P w) A (.call (.ref f) args) (CR CX outer P w H s Q E) s
section
variable {X:Cx}{pins:List (Addr×Obj)}{σ:St}{H:Hp}{s s':Shared}
theorem Inv.env0 (I:Inv X pins σ H s):Env0 X.prog X.w X.K X.mg X.base X.A X.stack s H:=
 ⟨I.ok.frames,I.ok.mod,I.bs,Nat.le_trans I.ok.bsz I.sz,I.stack,I.stkFree,I.hok,I.bare⟩
theorem Inv.after {Q:VK}{u:Value}(I:Inv X pins σ H s)(h:CE X.stack X.prog X.w H s Q u s'):EP X pins σ Q u s':=by
 obtain⟨v,H',os,bare,un,hok,r,q⟩:=h
 obtain⟨hh,g,d,t,os'⟩:=s'
 obtain rfl:os'=s.os:=os
 exact⟨v,H',I.call (h':=hh) (g':=g) (d':=d) (t':=t) (ch:=[]) un hok bare (fun b z=>absurd z (by simp)),r,q⟩
end
def Zp1 (sp:Sp)(dvs:List V)(E:XK)(t:TA):TE:=fun σ H Q=>t σ H fun vs H1=>sp (vs++dvs) H1 Q E
def Binds (K:W.Frag)(fd:FuncData)(ps:List Str)(ds:List Value):Prop:=
 ∀(s:Shared) (us:List Value),K.In s.heap->(us++ds).length=ps.length->BindsTo s fd ⟨us,[]⟩ (ps.zip (us++ds))
theorem Binds.all {K:W.Frag}{fd:FuncData}{ps:List Str}(h:∀us:List Value,us.length=ps.length->bindArgs fd ⟨us,[]⟩=pure (ps.zip us)):Binds K fd ps []:=fun s us _ hl=>by
 rw[append_nil] at hl ⊢
 exact .of_eq (h us hl)
def Zf3 (CX:CXT)(X:Cx)(E:XK):Prop:=∀(pins:List (Addr×Obj)) (σ:St) (H:Hp) (s:Shared) (e:Value) (s':Shared),Inv X pins σ H s->CX X.stack H s E e s'->X.xe e s'
section
variable {X:Cx}{CX:CXT}{k:Nat}{f C:Addr}{fd:FuncData}{ps:List Str}{sp:Sp}{dvs:List V}{ds:List Value}{E:XK}{x m:Str}{p pos apos:Pos}{e o:Expr}{es:List Expr}{ta:TE}{t:TA}
theorem Zn1 {pins:List (Addr×Obj)}{σ:St}{H:Hp}{s:Shared}{Q:VK}{us:List Value}{vs:List V}(F:FnOk X.prog X.w X.K X.mg X.base CX k f fd ps sp)(hr:Room k X.A)(hb:Binds X.K fd ps ds)(hd:Vals dvs ds)(hx:Zf3 CX X E)
  (I:Inv X pins σ H s) (r:Vals vs us) (h:sp (vs++dvs) H Q E):wpAny (model X.prog X.w) X.A (call (.ref f) us) (EP X pins σ Q) X.xe s:=by
 have r2:Vals (vs++dvs) (us++ds):=r.append hd
 have hl:(us++ds).length=ps.length:=by rw[<- r2.length];exact F.len _ _ _ _ h
 refine wpAny_call (codeAny_mono (F.run X.A X.stack s H ⟨us,[]⟩ (us++ds) (vs++dvs) Q E hr I.env0 (hb s us I.kIn hl) r2 h) fun r s' hq=>?_)
 cases r with
 |error e=>exact hx pins σ H s e s' I hq
 |ok fl=>
  cases fl with
  |ret u=>exact I.after hq
  |next=>exact False.elim hq
  |brk=>exact False.elim hq
  |cont=>exact False.elim hq
theorem Z06 (F:FnOk X.prog X.w X.K X.mg X.base CX k f fd ps sp)(hr:Room k X.A)(hg:Gl X x)(hm:X.mg x=some (.ref f))(hk:PySem.W.keepIn X.K (.ref f)=true)(hb:Binds X.K fd ps ds)(hd:Vals dvs ds)(hx:Zf3 CX X E)
  (ha:PA X (e::es) t) (hdb:(x==("__debug__":Str))=false:=by decide) (he:starEach (e::es) X.env=(false,eval e X.env)::starEach es X.env:=by rfl) (hpl:(backTo pos (starEach es X.env)).any (·.1)=false:=by rfl):
  PE X (.Call (.Name x p) (e::es) [] pos) (Zp1 sp dvs E t):=by
 intro pins s σ H Q I h
 refine wpAny_Call_Name_kw (Zes I hg hm ?_ hdb)
 refine PySem.W.callWith_K (h₀:=X.base) I.ok.mod.kin hk (thn (ha pos pins s σ H _ I h) fun us s1 ⟨vs,H1,I1,r,q⟩=>⟨I1.kIn,?_⟩) he hpl
 exact Zn1 F hr hb hd hx I1 r q
end
structure FnScope (N P:List Str)(sc:Scope):Prop where
 kind:sc.kind = .function
 co:sc.isCoroutine=false
 gen:sc.isGenerator=false
 nd:N.Nodup
 pre:N.take P.length=P
 par:∀x∈P,sc.names.lookup x=some .local∨sc.names.lookup x=some .cell
 nofree:∀y∈sc.names,y.2 ≠ .free
theorem FnScope.q {N P:List Str}{sc:Scope}(a:sc.kind = .function:=by rfl)(b:sc.isCoroutine=false:=by rfl)(c:sc.isGenerator=false:=by rfl)(d:N.Nodup:=by decide+kernel)(e:N.take P.length=P:=by rfl)(f:∀x∈P,sc.names.lookup x=some .local∨sc.names.lookup x=some .cell:=by decide+kernel)(g:∀y∈sc.names,y.2 ≠ .free:=by decide+kernel):FnScope N P sc:=⟨a,b,c,d,e,f,g⟩
theorem Z9q {kindOf:Str->Option NameKind}{x:Str}:∀{binds:List (Str×Value)} {m:Str->Option Value},(∀v,(x,v)∉binds)->bindL kindOf binds m x=m x
 |[],_,_=>rfl
 | (n,v)::r,m,h=>by
  unfold bindL
  rw[Z9q fun w hw=>h w (mem_cons_of_mem _ hw)]
  split
  ·have:x≠n:=by rintro rfl;exact h v mem_cons_self
   simp [this]
  ·rfl
theorem Z9r {kindOf:Str->Option NameKind}{x:Str}:∀{binds:List (Str×Value)} {m:Str->Option Value},(∀v,(x,v)∉binds)->bindC kindOf binds m x=m x
 |[],_,_=>rfl
 | (n,v)::r,m,h=>by
  unfold bindC
  rw[Z9r fun w hw=>h w (mem_cons_of_mem _ hw)]
  split
  ·rfl
  ·have:x≠n:=by rintro rfl;exact h v mem_cons_self
   simp [this]
theorem Z9s {kindOf:Str->Option NameKind}{x:Str}{v:Value}:∀{P:List Str} {vs:List Value} {i:Nat} {m:Str->Option Value},P.Nodup->P[i]? = some x->vs[i]? = some v->kindOf x=some .local →
  bindL kindOf (P.zip vs) m x=some v
 |[],_,_,_,_,h,_,_=>by simp at h
 |_::_,[],_,_,_,_,h,_=>by simp at h
 |p::P,w::vs,0,m,nd,h1,h2,hk=>by
  simp at h1 h2;subst h1;subst h2
  show bindL kindOf ((p,w)::P.zip vs) m p=_
  unfold bindL
  rw[Z9q fun v hv=>(nodup_cons.mp nd).1 (of_mem_zip hv).1,if_pos hk]
  simp
 |p::P,w::vs,i+1,m,nd,h1,h2,hk=>by
  show bindL kindOf ((p,w)::P.zip vs) m x=_
  unfold bindL
  exact Z9s (i:=i) (nodup_cons.mp nd).2 (by simpa using h1) (by simpa using h2) hk
theorem Z9t {kindOf:Str->Option NameKind}{x:Str}{v:Value}:∀{P:List Str} {vs:List Value} {i:Nat} {m:Str->Option Value},P.Nodup->P[i]? = some x->vs[i]? = some v->kindOf x≠some .local →
  bindC kindOf (P.zip vs) m x=some v
 |[],_,_,_,_,h,_,_=>by simp at h
 |_::_,[],_,_,_,_,h,_=>by simp at h
 |p::P,w::vs,0,m,nd,h1,h2,hk=>by
  simp at h1 h2;subst h1;subst h2
  show bindC kindOf ((p,w)::P.zip vs) m p=_
  unfold bindC
  rw[Z9r fun v hv=>(nodup_cons.mp nd).1 (of_mem_zip hv).1,if_neg hk]
  simp
 |p::P,w::vs,i+1,m,nd,h1,h2,hk=>by
  show bindC kindOf ((p,w)::P.zip vs) m x=_
  unfold bindC
  exact Z9t (i:=i) (nodup_cons.mp nd).2 (by simpa using h1) (by simpa using h2) hk
def Z9u (N:List Str)(vs:List V):St:=vs.map some++List.replicate (N.length-vs.length) none
def Zhv (CX:CXT)(P:Program)(w:World)(K:W.Frag)(mg:Str->Option Value)(base:Heap)(N:List Str)(qual:Str)(scope:Scope)(f:Addr)(cd:Value)(A:Around)(outer:List Env)(s:Shared)(H:Hp)(E:XK):Cx where
 prog:=P
 w:=w
 K:=K
 mg:=mg
 base:=base
 A:=A.deeper (envOfC qual scope s.heap.objs.size f cd)
 N:=N
 s₀:=s
 H₀:=H
 env:=envOfC qual scope s.heap.objs.size f cd
 outer:=outer
 stack:=envOfC qual scope s.heap.objs.size f cd::outer
 ex:=[]
 calm:=true
 fn:=fun _=>true
 pn:=[]
 xe:=fun e s'=>wpAny (model P w) (A.deeper (envOfC qual scope s.heap.objs.size f cd)) (leaving (envOfC qual scope s.heap.objs.size f cd) e) (fun _ s''=>CX outer H s E e s'') (fun e' s''=>CX outer H s E e' s'') s'
theorem Zc1 {sc:Scope}{n:Nat}{x:Str}(h:sc.names.lookup x=some .cell):∃c,(cellsFrom n sc.names []).lookup x=some c:=by
 have q:=PySem.W.cellsFrom_some sc.names n [] (.inl h)
 exact Option.isSome_iff_exists.mp q
theorem Zf4 {CX:CXT}{P:Program}{w:World}{K:W.Frag}{mg:Str->Option Value}{base:Heap}{N ps:List Str}{qual:Str}{scope:Scope}{f:Addr}{cd:Value}{A:Around}{outer:List Env}{s s1:Shared}{H:Hp}{E:XK}{us:List Value}{vs:List V}
  (S:FnScope N ps scope) (hd:A.handled=none) (e0:Env0 P w K mg base A outer s H) (hl:vs.length=ps.length) (r:Vals vs us)
  (x:InCallC s s.heap.objs.size (bindL (envOfC qual scope s.heap.objs.size f cd).kindOf (ps.zip us) fun _=>none) (cellsFrom (s.heap.objs.size+1) scope.names []) (bindC (envOfC qual scope s.heap.objs.size f cd).kindOf (ps.zip us) fun _=>none) s1):
  Inv (Zhv CX P w K mg base N qual scope f cd A outer s H E) [] (Z9u N vs) H s1:=by
 have hpl:ps.length<=N.length:=by have:=congrArg List.length S.pre;rw[length_take] at this;omega
 obtain⟨h1,tk,rfl,hk⟩:=x.done
 have noA:∀b:Addr,b∉(Zhv CX P w K mg base N qual scope f cd A outer s H E).ex:=fun b z=>absurd (show b∈([]:List Addr) from z) (by simp)
 refine⟨⟨e0.mod,S.kind,rfl,rfl,Nat.le_refl _,fun y z c h1 h2=>?_,fun y hy=>?_,fun y c _ h=>?_,fun _=>hd,Around.frames_deeper e0.frames,.inr ⟨rfl,rfl⟩,fun b z=>absurd z (noA b),e0.bs,e0.bsz,fun b _ _=>noA b,fun b z=>absurd z (noA b),e0.funs,e0.frf⟩,
  rfl,e0.bare,Un.kept hk,⟨_,x.toInCall.ns,fun i y v h1 h2 h3=>?_⟩,fun y c h=>⟨_,x.cell y c h⟩,e0.hok.fresh (Nat.le_refl _),fun y c h=>?_,fun p hp=>absurd (show p∈([]:List (Addr×Obj)) from hp) (by simp),e0.hok.kept hk,?_⟩
 ·exact name_of_addr x.apart (PySem.mem_of_lookup h1) (PySem.mem_of_lookup h2)
 ·have hy:scope.names.lookup y=some .cell∨scope.names.lookup y=some .free:=hy
  rcases hy with hy|hy
  ·exact Zc1 hy
  ·exact absurd rfl (S.nofree _ (PySem.mem_of_lookup hy))
 ·exact Nat.le_of_lt (x.above y c (PySem.mem_of_lookup h))
 ·have hi:i<vs.length:=by
   unfold Z9u at h2
   by_cases hi:i<vs.length
   ·exact hi
   ·rw[List.getElem?_append_right (by simpa using hi)] at h2
    rw[List.getElem?_replicate] at h2
    split at h2 <;> cases h2
  have ha:vs[i]? = some v:=by
   unfold Z9u at h2
   rw[List.getElem?_append_left (by simpa using hi),List.getElem?_map] at h2
   cases e:vs[i]? with
   |none=>rw[e] at h2;cases h2
   |some a=>rw[e] at h2;cases h2;rfl
  obtain⟨u,hu,rv⟩:=r.get ha
  have hp:ps[i]? = some y:=by
   rw[<- S.pre,List.getElem?_take_of_lt (by omega)];exact h1
  have ndP:ps.Nodup:=by rw[<- S.pre];exact S.nd.sublist (List.take_sublist _ _)
  refine⟨u,rv,?_⟩
  rcases S.par y (mem_of_getElem? hp) with k|k
  ·exact .inl ⟨k,Z9s ndP hp hu k⟩
  ·obtain⟨c,e⟩:=Zc1 (n:=s.heap.objs.size+1) k
   refine .inr ⟨.inl k,c,e,?_⟩
   have q:=x.cell y c e
   rw[Z9t ndP hp hu (by show scope.names.lookup y≠_;rw[k];decide)] at q
   exact q
 ·exact e0.hok.fresh (Nat.le_of_lt (x.above y c (PySem.mem_of_lookup h)))
 ·unfold Z9u
  show _=N.length
  rw[length_append,length_map,List.length_replicate]
  omega
theorem Zp2 {CX:CXT}{P:Program}{w:World}{K:W.Frag}{mg:Str->Option Value}{base:Heap}{k:Nat}{f:Addr}{name qual:Str}{params:Arguments}{body:List Stmt}{scope:Scope}{dV kV doc pm cdv ct oc:Value}{an od:Option Addr}
  {osl:Array (Option Value)} {N ps:List Str} {sp:Sp} (lk:K.lookup f=some ⟨oc,od,.func (PySem.W.fnOf name qual params body scope dV kV doc pm an cdv ct),osl⟩) (hcd:PySem.W.codeIn K cdv qual=true) (S:FnScope N ps scope)
  (len:∀vs H Q E,sp vs H Q E->vs.length=ps.length)
  (hbody:∀(A:Around) (outer:List Env) (s:Shared) (H:Hp) (vs:List V) (Q:VK) (E:XK),Room k (A.deeper (envOfC qual scope s.heap.objs.size f cdv))->sp vs H Q E →
   ∃t,PSs (Zhv CX P w K mg base N qual scope f cdv A outer s H E) body t/\t { nx:=fun _ H'=>Q .non H',rt:=Q } (Z9u N vs) H):
  FnOk P w K mg base CX (k+1) f (PySem.W.fnOf name qual params body scope dV kV doc pm an cdv ct) ps sp:=by
 refine⟨len,fun A outer s H args us vs Q E hr e0 hb r hsp=>?_⟩
 have hl:=len _ _ _ _ hsp
 have KX:K.In s.heap:=e0.mod.kin.keeps fun b o e=>(e0.bs b o e).1
 have lim:s.heap.NoLimit:=e0.mod.nolimit.keeps fun b o e=>(e0.bs b o e).1
 have hkind:∀y∈ps.zip us,scope.names.lookup y.1=some .local∨(scope.names.lookup y.1=some .cell/\((cellsFrom (s.heap.objs.size+1) scope.names []).lookup y.1).isSome=true):=fun⟨n,v⟩ hy=>by
  rcases S.par n (of_mem_zip hy).1 with q|q
  ·exact .inl q
  ·exact .inr ⟨q,PySem.W.cellsFrom_some _ _ _ (.inl q)⟩
 refine codeAny_call_function hr.depth (KX _ _ lk) rfl S.co S.gen rfl (PySem.W.codeRec_of KX hcd) (hb _ _ _ _ ?_)
 refine wpAny_newFunctionEnv_cells S.kind hkind fun env he s1 x=>?_
 subst he
 refine⟨lim.keeps x.toInCall.keep,codeAny_func ?_⟩
 obtain⟨t,ht,hq⟩:=hbody A outer s H vs Q E (hr.deeper _) hsp
 have I:Inv (Zhv CX P w K mg base N qual scope f cdv A outer s H E) [] (Z9u N vs) H s1:=Zf4 S hr.hd e0 hl r x
 refine wpAny_mono (ht [] s1 (Z9u N vs) H _ I hq) (fun fl s' hs=>?_) fun e s' hs=>hs
 have fin:∀{σ':St} {H':Hp} {v:V} {u:Value},Inv (Zhv CX P w K mg base N qual scope f cdv A outer s H E) [] σ' H' s'->RelV v u->Q v H'->CE outer P w H s Q u s':=
  fun {σ' H' v u} J rv q=>⟨v,H',J.os,J.bare,J.base,J.hok,rv,q⟩
 cases fl with
 |ret u=>
  obtain⟨v,σ',H',J,rv,q⟩:=hs
  exact fin J rv q
 |next=>
  obtain⟨σ',H',J,q⟩:=hs
  exact fin (v:=V.non) (u:=Value.none) J rfl q
 |brk=>
  obtain⟨_,_,_,q⟩:=hs
  exact False.elim q
 |cont=>
  obtain⟨_,_,_,q⟩:=hs
  exact False.elim q
section
variable {X:Cx}{x:Str}{p pos:Pos}{e:Expr}{es:List Expr}{t:TA}{id T:String}{r:List V->Hp->VK->Prop}
def tCB (r:List V->Hp->VK->Prop)(t:TA):TE:=fun σ H Q=>t σ H fun vs H1=>r vs H1 Q
theorem Z0r (hc:Z4t X (.builtin id) r)(hg:Gl X x)(hm:X.mg x=none)(hv:bootBuiltins x=some (.builtin id))(ha:PA X (e::es) t)(hn:x≠"__name__":=by decide)(hdb:(x==("__debug__":Str))=false:=by decide)
  (he:starEach (e::es) X.env=(false,eval e X.env)::starEach es X.env:=by rfl) (hpl:(backTo pos (starEach es X.env)).any (·.1)=false:=by rfl):PE X (.Call (.Name x p) (e::es) [] pos) (tCB r t):=by
 intro pins s σ H Q I h
 refine wpAny_Call_Name_kw (Z9k I hg hm hv ?_ hn hdb)
 exact PyProof.Rows.callWith_builtin1 (thn (ha pos pins s σ H _ I h) fun us s1 ⟨vs,H1,I1,r1,q1⟩=>hc pins s1 σ H1 vs us Q I1 r1 q1) he hpl
theorem Z15 (hc:Z4t X (.type T) r)(hg:Gl X x)(hm:X.mg x=none)(hv:bootBuiltins x=some (.type T))(ha:PA X (e::es) t)(hn:x≠"__name__":=by decide)(hdb:(x==("__debug__":Str))=false:=by decide)
  (he:starEach (e::es) X.env=(false,eval e X.env)::starEach es X.env:=by rfl) (hpl:(backTo pos (starEach es X.env)).any (·.1)=false:=by rfl):PE X (.Call (.Name x p) (e::es) [] pos) (tCB r t):=by
 intro pins s σ H Q I h
 refine wpAny_Call_Name_kw (Z9k I hg hm hv ?_ hn hdb)
 exact PyProof.Rows.callWith_type1 (thn (ha pos pins s σ H _ I h) fun us s1 ⟨vs,H1,I1,r1,q1⟩=>hc pins s1 σ H1 vs us Q I1 r1 q1) he hpl
end
end L2
namespace HT
open PySem PyProof.Rows
section
variable {prog:Program}{w:World}{A:Around}{E:Value->Shared->Prop}{s:Shared}
theorem cat_tup {t b:Addr}{vs ws:List Value}{Q:Value->Shared->Prop}(ht:IsTup s.heap t vs.toArray)(hb:IsTup s.heap b ws.toArray)(hv:vs ≠ [])
  (h1:ws = []->Q (.ref t) s) (h2:ws ≠ []->Q (.ref s.heap.objs.size) { s with heap:=s.heap.push { cls:=.type "tuple",data:=.seq (vs++ws).toArray } })
  (hsz:vs.length+ws.length<=sizeLine):wpAny (model prog w) A (binaryOp .Add (.ref t) (.ref b)) Q E s:=by
 obtain⟨⟨cls,dd,data,sl⟩,ho,hc,n,hd⟩:=id ht
 obtain⟨⟨cls2,dd2,data2,sl2⟩,ho2,hc2,n2,hd2⟩:=id hb
 simp only at hc hd hc2 hd2
 subst hc hd hc2 hd2
 have e:vs.toArray++ws.toArray=(vs++ws).toArray:=by simp
 by_cases hw:ws = []
 ·exact concat_meets ⟨_,ho,rfl⟩ ⟨_,ho2,rfl⟩ noFill_tuple_add seq_tuple_add PySem.F.slot_tuple_add PySem.F.entry_tuple_add (PySem.F.args_tuple_add_2 _ _)
   (tuple_addW1 t b vs.toArray ws.toArray n n2 dd dd2 sl sl2 (by simpa using hv) (by simp [hw])) ⟨ho,ho2,h1 hw⟩
 ·refine concat_meets ⟨_,ho,rfl⟩ ⟨_,ho2,rfl⟩ noFill_tuple_add seq_tuple_add PySem.F.slot_tuple_add PySem.F.entry_tuple_add (PySem.F.args_tuple_add_2 _ _)
   (tuple_addW2 t b vs.toArray ws.toArray n n2 dd dd2 sl sl2 (by simpa using hv) (by simpa using hw) (by rw[size_toArray,size_toArray];exact hsz)) ⟨ho,ho2,?_⟩
  rw[e]
  exact h2 hw
def sIx (n d:Nat):Option Int->Nat
 |none=>d
 |some v=>if v<0 then (v+(n:Int)).toNat else min v.toNat n
theorem Zn2 (n d:Nat)(hd:d<=n)(o:Option Int):sIx n d o<=n:=by
 cases o with
 |none=>exact hd
 |some v=>
  show(if v<0 then (v+(n:Int)).toNat else min v.toNat n)<=n
  by_cases hv:v<0
  ·rw[if_pos hv];omega
  ·rw[if_neg hv];exact Nat.min_le_right _ _
theorem Zf5 (v:Int)(n d:Nat):(if v<0 then max (v+(n:Int)) 0 else min v (n:Int))=((sIx n d (some v):Nat):Int):=by
 show(if v<0 then max (v+(n:Int)) 0 else min v (n:Int))=(((if v<0 then (v+(n:Int)).toNat else min v.toNat n):Nat):Int)
 by_cases hv:v<0
 ·simp only [if_pos hv];omega
 ·simp only [if_neg hv];omega
theorem Zdk (lo hi:Option Int)(n:Nat):Builtin.Slice.sliceAdjust lo hi 1 (n:Int)=(((sIx n 0 lo:Nat):Int),((sIx n n hi:Nat):Int)):=by
 have h1:¬ ((1:Int)<0):=by omega
 unfold Builtin.Slice.sliceAdjust
 simp only [h1,if_false]
 refine Prod.ext ?_ ?_
 ·cases lo with
  |none=>rfl
  |some v=>exact Zf5 v n 0
 ·cases hi with
  |none=>rfl
  |some v=>exact Zf5 v n n
theorem Zdl (i j:Nat):Builtin.Slice.slicePlaces (i:Int) (j:Int) 1=j-i:=by
 unfold Builtin.Slice.slicePlaces
 have h1:(1:Int)>0:=by omega
 simp only [h1,if_true,Int.ediv_one]
 split <;> omega
theorem Z7n {v:Value}{o:Option Int}{Q:Option Int->Shared->Prop}(p:IsPart v o)(h:Q o s):wpAny (model prog w) A (Builtin.Slice.slicePartIndex v) Q E s:=by
 cases p with
 |none=>exact slicePart_none h
 |int i t=>exact slicePart_int h
theorem Z3y {sl:Addr}{vl vu:Value}{lo hi:Option Int}{n:Nat}{Q:Int×Int×Nat->Shared->Prop}(hs:s.heap.IsSliceOf sl vl vu .none)(pl:IsPart vl lo)(pu:IsPart vu hi)
  (h:Q (((sIx n 0 lo:Nat):Int),1,sIx n n hi-sIx n 0 lo) s):wpAny (model prog w) A (Builtin.Slice.sliceApplied (.ref sl) (pure (n:Int))) Q E s:=by
 obtain⟨os,hos,hcs,hds⟩:=id hs
 unfold Builtin.Slice.sliceApplied Builtin.Slice.sliceFields
 refine wpAny_bind (wpAny_bind (wpAny_field hos hds (x:=vl) rfl (wpAny_bind (wpAny_field hos hds (x:=vu) rfl (wpAny_bind (wpAny_field hos hds (x:=.none) rfl (wpAny_pure ?_)))))))
 refine wpAny_bind (slicePart_none ?_)
 show wpAny _ _ (if ((1:Int)==0)=true then _ else _) _ _ s
 rw[if_neg (by decide)]
 refine wpAny_bind (Z7n pl (wpAny_bind (Z7n pu (wpAny_bind (wpAny_pure ?_)))))
 show wpAny _ _ (match Builtin.Slice.sliceAdjust lo hi 1 (n:Int) with | (lo,hi)=>pure (lo,(1:Int),Builtin.Slice.slicePlaces lo hi 1)) _ _ s
 rw[Zdk lo hi n]
 show wpAny _ _ (pure (((sIx n 0 lo:Nat):Int),(1:Int),Builtin.Slice.slicePlaces ((sIx n 0 lo:Nat):Int) ((sIx n n hi:Nat):Int) 1)) _ _ s
 rw[Zdl]
 exact wpAny_pure h
theorem Zhw (xs:Array Value)(i k:Nat):((List.range k).filterMap fun(m:Nat)=>xs[((i:Int)+(m:Int)*1).toNat]?).toArray=((xs.toList.drop i).take k).toArray:=by
 have e:(fun(m:Nat)=>xs[((i:Int)+(m:Int)*1).toNat]?)=fun m=>xs[i+m]? := by
  funext m
  have:((i:Int)+(m:Int)*1).toNat=i+m:=by omega
  rw[this]
 rw[e]
 have:=pick_run xs i k
 rw[List.filterMap_map] at this
 have e2:((fun x=>xs[x]?)∘fun x=>i+x)=fun m=>xs[i+m]? := rfl
 rw[e2] at this
 rw[this]
theorem getItem_tuple_cut {t sl:Addr}{items:Array Value}{vl vu:Value}{lo hi:Option Int}{Q:Value->Shared->Prop}(ht:IsTup s.heap t items)(hs:s.heap.IsSliceOf sl vl vu .none)(pl:IsPart vl lo)(pu:IsPart vu hi)
  (hw:¬ (sIx items.size 0 lo=0/\sIx items.size items.size hi=items.size))
  (h:Q (.ref s.heap.objs.size) { s with heap:=s.heap.push { cls:=.type "tuple",data:=.seq ((items.toList.drop (sIx items.size 0 lo)).take (sIx items.size items.size hi-sIx items.size 0 lo)).toArray } })
  (hsz:items.size<=sizeLine):wpAny (model prog w) A (getItem (.ref t) (.ref sl)) Q E s:=by
 have htake:sizeOk (.seq ((items.toList.drop (sIx items.size 0 lo)).take (sIx items.size items.size hi-sIx items.size 0 lo)).toArray):=by
  show((items.toList.drop (sIx items.size 0 lo)).take (sIx items.size items.size hi-sIx items.size 0 lo)).toArray.size<=sizeLine
  rw[size_toArray,length_take,length_drop,Array.length_toList]
  omega
 have hj:sIx items.size items.size hi<=items.size:=Zn2 _ _ (Nat.le_refl _) hi
 obtain⟨os,hos,hcs,hds⟩:=id hs
 have hTs:s.TypeIs (.ref sl) "slice":=⟨os,hos,hcs⟩
 unfold getItem
 try with_reducible refine wpAny_holding ?_
 first|refine wpAny_bind (wpAny_pure ?_)|skip
 refine wpAny_bind (wpAny_sequenceKey ht.typeIs (by decide) ?_)
 refine wpAny_bind (wpAny_callSpecial?_slot (name:=Str.ofString "__getitem__") ht.typeIs PyProof.Rows.slot_tuple_getitem
  (wpAny_call_entry PyProof.Rows.slot_tuple_getitem ht.typeIs entry_tuple_getitem ?_ (args_tuple_getitem _ _)))
 show wpAny _ _ (Builtin.Tuple.tupleItemsOf (.ref t) >>= _) _ _ s
 refine wpAny_bind (tupleItemsOf_ ht ?_)
 refine wpAny_bind (wpAny_typeOf hTs ?_)
 rw[if_pos (by decide)]
 refine wpAny_bind (Z3y hs pl pu ?_)
 have hno:¬ ((((sIx items.size 0 lo:Nat):Int)==0&&(1:Int)==1&&(sIx items.size items.size hi-sIx items.size 0 lo)==items.size)=true):=by
  intro q
  rw[Bool.and_eq_true,Bool.and_eq_true] at q
  have q1:((sIx items.size 0 lo:Nat):Int)=0:=eq_of_beq q.1.1
  have q2:sIx items.size items.size hi-sIx items.size 0 lo=items.size:=eq_of_beq q.2
  exact hw ⟨by omega,by omega⟩
 show wpAny _ _ (if (((sIx items.size 0 lo:Nat):Int)==0&&(1:Int)==1&&(sIx items.size items.size hi-sIx items.size 0 lo)==items.size)=true then _ else _) _ _ s
 rw[if_neg hno,Zhw]
 first
  |exact wpAny_bind (m:=Builtin.Tuple.tupleExact _) (wpAny_newObj_type (wpAny_pure ⟨_,rfl,wpAny_pure h⟩) htake)
  |exact wpAny_bind (m:=Builtin.Tuple.tupleExact _) (wpAny_newObj_type (wpAny_bind (wpAny_pure (wpAny_pure ⟨_,rfl,wpAny_pure h⟩))) htake)
  |exact wpAny_bind (wpAny_bind (m:=Builtin.Tuple.tupleExact _) (wpAny_newObj_type (wpAny_pure (wpAny_pure ⟨_,rfl,wpAny_pure h⟩)) htake))
  |exact wpAny_bind (wpAny_bind (m:=Builtin.Tuple.tupleExact _) (wpAny_newObj_type (wpAny_pure ⟨_,rfl,wpAny_pure h⟩) htake))
end
end HT
namespace L2
open PySem PySem.Spec PyProof.Rows
abbrev TO:=St->Hp->(Option Int->Hp->Prop)->Prop
def PO (X:Cx)(e:Option Expr)(t:TO):Prop:=
 ∀(pins:List (Addr×Obj)) (s:Shared) (σ:St) (H:Hp) (Q:Option Int->Hp->Prop),Inv X pins σ H s->t σ H Q →
  wpAny (model X.prog X.w) X.A (evalPart e X.env) (fun u s'=>∃o H',Inv X pins σ H' s'/\IsPart u o/\Q o H') X.xe s
def tNoPart:TO:=fun _ H Q=>Q none H
def Zp3 (t:TE):TO:=fun σ H Q=>t σ H fun x H1=>∃i,x = .int i/\Q (some i) H1
theorem Zdm {ns:List Int}:∀{us:List Value},Vals (ns.map V.int) us->IntsAre us ns:=by
 induction ns with
 |nil=>intro us r;rw[map_nil] at r;cases r;exact .nil
 |cons n ns ih=>
  intro us r
  rw[map_cons] at r
  cases r with
  |cons r1 r2=>
   obtain⟨t,e⟩:=r1
   subst e
   exact .cons n t (ih r2)
section
variable {X:Cx}{e:Expr}{te:TE}{lo hi:Option Expr}{tl th:TO}{pos p2:Pos}
theorem Z1p:PO X none tNoPart:=by
 intro pins s σ H Q I h
 rw[evalPart_none]
 exact wpAny_pure ⟨none,H,I,.none,h⟩
theorem Z1m (h:PE X e te):PO X (some e) (Zp3 te):=by
 intro pins s σ H Q I hw
 rw[evalPart_some]
 refine thn (h pins s σ H _ I hw) fun u s1 ⟨x,H1,I1,r1,q1⟩=>?_
 obtain⟨i,rfl,q⟩:=q1
 obtain⟨t,rfl⟩:=r1
 exact⟨some i,H1,I1,.int i t,q⟩
def SlR (X:Cx)(r:V->Option Int->Option Int->Hp->VK->Prop):Prop:=
 ∀(pins:List (Addr×Obj)) (s:Shared) (σ:St) (H:Hp) (x:V) (v vl vu:Value) (lo hi:Option Int) (sl:Addr) (Q:VK),Inv X pins σ H s->RelV x v->s.heap.IsSliceOf sl vl vu .none->IsPart vl lo->IsPart vu hi->r x lo hi H Q →
  ∃T id,typeLookup (.type T) "__getitem__"=pure (some (.builtin id))/\s.TypeIs v T/\wpAny (model X.prog X.w) X.A (getItem v (.ref sl)) (EP X pins σ Q) X.xe s
def tSl (r:V->Option Int->Option Int->Hp->VK->Prop)(te:TE)(tl th:TO):TE:=fun σ H Q=>te σ H fun x H1=>tl σ H1 fun l H2=>th σ H2 fun u H3=>r x l u H3 Q
theorem Z1d {r:V->Option Int->Option Int->Hp->VK->Prop}(hr:SlR X r)(he:PE X e te)(hl:PO X lo tl)(hu:PO X hi th):PE X (.Subscript e (.Slice lo hi none p2) pos) (tSl r te tl th):=by
 intro pins s σ H Q I h
 refine Subscript_ (thn (he pins s σ H _ I h) fun v s1 ⟨x,H1,I1,r1,q1⟩=>?_)
 refine wpAny_Slice (thn (hl pins s1 σ H1 _ I1 q1) fun vl s2 ⟨l,H2,I2,pl,q2⟩=>thn (hu pins s2 σ H2 _ I2 q2) fun vu s3 ⟨u,H3,I3,pu,q3⟩=>?_)
 rw[evalPart_none]
 refine wpAny_pure ?_
 have I4:Inv X pins σ H3 { s3 with heap:=s3.heap.push { cls:=.type "slice",data:=.fields #[vl,vu,.none] } }:=I3.kept (t':=s3.toks) fun b ob q=>Heap.get?_push_of_some _ q
 obtain⟨T,id,hT,ht,hg⟩:=hr pins { s3 with heap:=s3.heap.push { cls:=.type "slice",data:=.fields #[vl,vu,.none] } } σ H3 x v vl vu l u s3.heap.objs.size Q I4 r1 (Heap.IsSliceOf.new ..) pl pu q3
 show wpAny (model X.prog X.w) X.A (subscriptTail e (.Slice lo hi none p2) v (.ref s3.heap.objs.size)) (EP X pins σ Q) X.xe { s3 with heap:=s3.heap.push { cls:=.type "slice",data:=.fields #[vl,vu,.none] } }
 exact tail_any (ops:=[.ref s3.heap.objs.size,v]) ht hT hg (by with_unfolding_all rfl)
def Z7g (xs:List V)(lo hi:Option Int):List V:=(xs.drop (HT.sIx xs.length 0 lo)).take (HT.sIx xs.length xs.length hi-HT.sIx xs.length 0 lo)
theorem Z6h (xs:List V)(lo hi:Option Int):(Z7g xs lo hi).length<=xs.length:=by
 unfold Z7g
 rw[length_take,length_drop]
 omega
inductive rSlT (K:W.Frag)(x:V)(lo:Option Int)(hi:Option Int)(H:Hp)(Q:VK):Prop
 |mk (a xs:_) (_:x = .ref a) (_:SqT K H a xs) (_:¬ (HT.sIx xs.length 0 lo=0/\HT.sIx xs.length xs.length hi=xs.length)) (_:∀p,H p=none->Q (.ref p) (upd H p (.tup (Z7g xs lo hi)))):rSlT K x lo hi H Q
theorem Zn3:SlR X (rSlT X.K):=by
 intro pins s σ H x v vl vu lo hi sl Q I rx hs pl pu h
 obtain⟨a,xs,rfl,hx,hw,q⟩:=h
 cases rx
 obtain⟨its,r,ht,hz⟩:=I.tuple hx
 have hlen:its.toArray.size=xs.length:=by rw[size_toArray];exact r.length.symm
 refine⟨"tuple",_,PyProof.Rows.slot_tuple_getitem.lookup,ht.typeIs,?_⟩
 refine HT.getItem_tuple_cut ht hs pl pu (by rw[hlen];exact hw) ?_ (by rw[hlen];exact hz)
 rw[hlen]
 refine⟨.ref s.heap.objs.size,_,I.laid (t':=s.toks) (o:=.tup (Z7g xs lo hi)) (fun b ob q=>Heap.get?_push_of_some _ q) (Nat.le_refl _) ?_,rfl,q _ (I.hok.fresh (Nat.le_refl _))⟩
 exact⟨Nat.le_trans (Z6h xs lo hi) hz,_,(r.drop (HT.sIx xs.length 0 lo)).take (HT.sIx xs.length xs.length hi-HT.sIx xs.length 0 lo),IsTup.new _ _⟩
inductive rCatT (K:W.Frag)(x:V)(y:V)(H:Hp)(Q:VK):Prop
 |mk (a b xs ys:_) (_:x = .ref a) (_:y = .ref b) (_:SqT K H a xs) (_:SqT K H b ys) (_:xs ≠ []) (_:xs.length+ys.length<=sizeLine) (_:(ys = []->Q (.ref a) H)) (_:(ys ≠ []->∀p,H p=none->Q (.ref p) (upd H p (.tup (xs++ys))))):rCatT K x y H Q
theorem Vals.nil_iff {xs:List V}{us:List Value}(r:Vals xs us):us = []↔xs = []:=by
 cases r with
 |nil=>simp
 |cons _ _=>simp
theorem Zkk:OpR X (binaryOp .Add) (rCatT X.K):=by
 intro pins s σ H x y v u Q I rx ry h
 obtain⟨a,b,xs,ys,rfl,rfl,ha,hb,hx,hz,q1,q2⟩:=h
 cases rx
 cases ry
 obtain⟨its,r1,p1,_⟩:=I.tuple ha
 obtain⟨its2,r2,p2,_⟩:=I.tuple hb
 refine HT.cat_tup p1 p2 (fun z=>hx (r1.nil_iff.mp z)) (fun z=>⟨.ref a,H,I,rfl,q1 (r2.nil_iff.mp z)⟩) (fun z=>?_) (by rw[<- r1.length,<- r2.length];exact hz)
 refine⟨.ref s.heap.objs.size,_,I.laid (t':=s.toks) (o:=.tup (xs++ys)) (fun b ob q=>Heap.get?_push_of_some _ q) (Nat.le_refl _) ?_,rfl,q2 (fun w=>z (r2.nil_iff.mpr w)) _ (I.hok.fresh (Nat.le_refl _))⟩
 exact⟨by rw[length_append];exact hz,_,r1.append r2,IsTup.new _ _⟩
end
def ixN (n:Nat)(i:Int):Option Nat:=if 0<=i then (if i<n then some i.toNat else none) else if -(n:Int)<=i then some (i+n).toNat else none
def atI {α : Type}(xs:List α)(i:Int):Option α := (ixN xs.length i).bind fun j=>xs[j]?
theorem Zf6 {n:Nat}{i:Int}{j:Nat}(h:ixN n i=some j):seqIndex? i n=some j/\j<n /\ -(n:Int)<=i/\i<n:=by
 unfold ixN at h
 by_cases h0:0<=i
 ·rw[if_pos h0] at h
  by_cases h1:i<n
  ·rw[if_pos h1] at h
   have e:i.toNat=j:=Option.some.inj h
   exact⟨by rw[seqIndex_of h0 h1,e],by omega,by omega,h1⟩
  ·rw[if_neg h1] at h;cases h
 ·rw[if_neg h0] at h
  by_cases h1 : -(n:Int)<=i
  ·rw[if_pos h1] at h
   have e:(i+n).toNat=j:=Option.some.inj h
   exact⟨by rw[seqIndex_neg (by omega) h1,e],by omega,h1,by omega⟩
  ·rw[if_neg h1] at h;cases h
theorem Z6i {α : Type}{xs:List α}{i:Int}{v : α}(h:atI xs i=some v):∃j,seqIndex? i xs.length=some j/\xs[j]? = some v/\j<xs.length /\ -(xs.length:Int)<=i/\i<xs.length:=by
 unfold atI at h
 cases e:ixN xs.length i with
 |none=>rw[e] at h;cases h
 |some j=>
  rw[e] at h
  obtain⟨h1,h2,h3,h4⟩:=Zf6 e
  exact⟨j,h1,h,h2,h3,h4⟩
theorem Z26 {α : Type}{xs:List α}{j:Nat}{v : α}(h:xs[j]? = some v):atI xs (j:Int)=some v:=by
 have hj:j<xs.length:=(List.getElem?_eq_some_iff.mp h).1
 have e:ixN xs.length (j:Int)=some j:=by
  unfold ixN
  rw[if_pos (by omega),if_pos (by omega)];simp
 unfold atI;rw[e];exact h
theorem Zhx {α : Type}(xs:List α)(v : α):atI (xs ++ [v]) (-1)=some v:=by
 have hl:(xs ++ [v]).length=xs.length+1:=by simp
 have e:ixN (xs ++ [v]).length (-1)=some xs.length:=by
  unfold ixN
  rw[hl,if_neg (by decide),if_pos (by omega)]
  congr 1
  omega
 unfold atI
 rw[e]
 show(xs ++ [v])[xs.length]? = some v
 simp
def Zkl (b:Expr):Prop:=∀o i,subscripted b false o i=operate [o,i] (getItem o i)
def IxR (X:Cx)(r:R2):Prop:=
 ∀(value slice:Expr) (pins:List (Addr×Obj)) (s:Shared) (σ:St) (H:Hp) (x y:V) (v u:Value) (Q:VK),Inv X pins σ H s->RelV x v->RelV y u->r x y H Q →
  subscripted slice false v u=operate [v,u] (getItem v u)->wpAny (model X.prog X.w) X.A (subscriptTail value slice v u) (EP X pins σ Q) X.xe s
def MtR (X:Cx)(id:String)(r:V->List V->Hp->VK->Prop):Prop:=
 ∀(pins:List (Addr×Obj)) (s:Shared) (σ:St) (H:Hp) (x:V) (xs:List V) (v:Value) (us:List Value) (Q:VK),Inv X pins σ H s->RelV x v->Vals xs us->r x xs H Q →
  wpAny (model X.prog X.w) X.A (call (.builtin id) (v::us)) (EP X pins σ Q) X.xe s
section
variable {X:Cx}{a b:Expr}{ta tb:TE}{pos:Pos}
theorem Z0q {r:R2}(hr:IxR X r)(ha:PE X a ta)(hb:PE X b tb)(hs:Zkl b):PE X (.Subscript a b pos) (tOp r ta tb):=by
 intro pins s σ H Q I h
 exact Subscript_ (Zoy ha hb I h fun v u s2 x y H2 I2 rx ry q=>hr a b pins s2 σ H2 x y v u Q I2 rx ry q (hs _ _))
inductive rIxL (K:W.Frag)(x:V)(y:V)(H:Hp)(Q:VK):Prop
 |mk (p xs i v:_) (_:x = .ref p) (_:y = .int i) (_:SqL K H p xs) (_:atI xs i=some v) (_:Q v H):rIxL K x y H Q
inductive rIxT (K:W.Frag)(x:V)(y:V)(H:Hp)(Q:VK):Prop
 |mk (p xs i v:_) (_:x = .ref p) (_:y = .int i) (_:SqT K H p xs) (_:atI xs i=some v) (_:Q v H):rIxT K x y H Q
inductive rIxS (x:V)(y:V)(H:Hp)(Q:VK):Prop
 |mk (z i c:_) (_:x = .str z) (_:y = .int i) (_:z.length<=sizeLine) (_:atI z.cps.toList i=some c) (_:Q (.str ⟨#[c]⟩) H):rIxS x y H Q
theorem Z16:IxR X (rIxL X.K):=by
 intro value slice pins s σ H x y v u Q I rx ry h hs
 obtain⟨p,xs,i,z,rfl,rfl,hq,he,q⟩:=h
 cases rx
 obtain⟨t,rfl⟩:=ry
 obtain⟨its,r,pl,hz⟩:=I.list hq
 obtain⟨j,h1,h2,h3,h4,h5⟩:=Z6i he
 obtain⟨w,ew,rw'⟩:=r.get h2
 have hl:=r.length
 have hn:=Z6g
 have fin:EP X pins σ Q w s:=⟨z,H,I,rw',q⟩
 by_cases h0:0<=i
 ·have hj:i.toNat=j:=by
   rw[seqIndex_of h0 h5] at h1
   exact Option.some.inj h1
  exact item_listR pl.isList h0 (by omega) (by rw[hj];simpa using ew) fin hs
 ·have hj:(i+(its.toArray.size:Int)).toNat=j:=by
   rw[seqIndex_neg (by omega) h4] at h1
   rw[size_toArray,<- hl]
   exact Option.some.inj h1
  exact subscriptTail_builtinR (x:=w) pl.isList.typeIs slot_list_getitem.lookup
   (wpAny_getItem_list_neg (Q:=fun r s'=>r=w/\EP X pins σ Q r s') pl.isList (by omega) (by rw[size_toArray] <;> omega) (by omega) (by rw[hj];simpa using ew) ⟨rfl,fin⟩) hs
theorem Z0x:IxR X (rIxT X.K):=by
 intro value slice pins s σ H x y v u Q I rx ry h hs
 obtain⟨p,xs,i,z,rfl,rfl,hq,he,q⟩:=h
 cases rx
 obtain⟨t,rfl⟩:=ry
 obtain⟨its,r,pl,hz⟩:=I.tuple hq
 obtain⟨j,h1,h2,h3,h4,h5⟩:=Z6i he
 obtain⟨w,ew,rw'⟩:=r.get h2
 have hl:=r.length
 have hn:=Z6g
 have fin:EP X pins σ Q w s:=⟨z,H,I,rw',q⟩
 exact subscriptTail_builtinR (x:=w) pl.typeIs slot_tuple_getitem.lookup
  (getItem_tuple (j:=j) (Q:=fun r s'=>r=w/\EP X pins σ Q r s') pl (by omega) (by omega) (by rw[size_toArray,<- hl];exact h1) (by simpa using ew) ⟨rfl,fin⟩) hs
theorem Zc2:IxR X rIxS:=by
 intro value slice pins s σ H x y v u Q I rx ry h hs
 obtain⟨z,i,c,rfl,rfl,hz,he,q⟩:=h
 obtain⟨t,rfl⟩:=rx
 obtain⟨t',rfl⟩:=ry
 obtain⟨j,h1,h2,h3,h4,h5⟩:=Z6i he
 have hl:z.cps.toList.length=z.length:=by simp [Str.length]
 rw[hl] at h1 h4 h5
 have hn:=Z6g
 exact tail_any (typeIs_str s z t) slot_str_getitem.lookup (getItem_str (c:=c) (by
  have e1:decide (i < -(2 ^ 63:Int))=false:=decide_eq_false (by omega)
  have e2:decide (i ≥ 2 ^ 63)=false:=decide_eq_false (by omega)
  rw[e1,e2,Bool.or_false]) (by rw[h1];simpa using h2) ⟨.str ⟨#[c]⟩,H,I.tok _,⟨_,rfl⟩,q⟩) hs
theorem Zdn (its:List Value)(n j:Nat)(u:Value):Obj.mapSeq (·.setIfInBounds j u) { cls:=.type "list",data:=.seq its.toArray n }={ cls:=.type "list",data:=.seq (its.set j u).toArray n }:=by
 simp [Obj.mapSeq]
theorem Inv.lst {pins:List (Addr×Obj)}{σ:St}{H:Hp}{s:Shared}{p:Addr}{xs:List V}(I:Inv X pins σ H s)(h:H p=some (.lst xs)):
  ∃(its:List Value) (n:Nat),Vals xs its/\s.heap.get? p=some { cls:=.type "list",data:=.seq its.toArray n }/\xs.length<=sizeLine:=by
 obtain⟨z,its,n,r,e⟩:=I.hok p _ h
 exact⟨its,n,r,e,z⟩
theorem Inv.lstUpd {pins:List (Addr×Obj)}{σ:St}{H:Hp}{s:Shared}{p:Addr}{xs ys:List V}{its its':List Value}{n n':Nat}{f:Obj->Obj}(I:Inv X pins σ H s)(h:H p=some (.lst xs))
  (ho:s.heap.get? p=some { cls:=.type "list",data:=.seq its.toArray n }) (hf:f { cls:=.type "list",data:=.seq its.toArray n }={ cls:=.type "list",data:=.seq its'.toArray n' }) (r:Vals ys its') (hz:ys.length<=sizeLine) (t:Nat):
  Inv X pins σ (upd H p (.lst ys)) { s with heap:=s.heap.update p f,toks:=t }:=by
 have e:(s.heap.update p f).get? p=some { cls:=.type "list",data:=.seq its'.toArray n' }:=by
  rw[Heap.get?_update_self f ho (by rw[hf] <;> rfl),hf]
 refine I.write (x:=p) (e:=p) (by rw[h];trivial) (.inl rfl) (fun b u hb q=>(Heap.get?_update_other _ _ (Ne.symm hb)).trans q) ⟨_,e⟩ ?_
 exact⟨hz,its',n',r,e⟩
inductive rSetL (o:V)(i:V)(v:V)(H:Hp)(Q:(Hp->Prop)):Prop
 |mk (p xs k j:_) (_:o = .ref p) (_:i = .int k) (_:H p=some (.lst xs)) (_:ixN xs.length k=some j) (_:Q (upd H p (.lst (xs.set j v)))):rSetL o i v H Q
theorem Zhy:Zq7 X rSetL:=by
 intro pins s σ H o i v ov iv u Q I ro ri rv h
 obtain⟨p,xs,k,j,rfl,rfl,hp,hj,q⟩:=h
 cases ro
 obtain⟨t,rfl⟩:=ri
 obtain⟨its,n,r,ho,hz⟩:=I.lst hp
 obtain⟨h1,h2,h3,h4⟩:=Zf6 hj
 have hl:=r.length
 have hn:=Z6g
 have I':Inv X pins σ (upd H p (.lst (xs.set j v))) { s with heap:=s.heap.update p (Obj.mapSeq (·.setIfInBounds j u)) }:=
  I.lstUpd hp ho (Zdn its n j u) (r.set rv j) (by rw[List.length_set];exact hz) s.toks
 by_cases h0:0<=k
 ·have hk:k.toNat=j:=by
   rw[seqIndex_of h0 h4] at h1
   exact Option.some.inj h1
  exact PySem.W.ki_setAt ho h0 (by omega) (by rw[size_toArray,<- hl];exact h4) (by rw[hk];exact⟨_,I',q⟩)
 ·have hk:(k+(its.toArray.size:Int)).toNat=j:=by
   rw[seqIndex_neg (by omega) h3] at h1
   rw[size_toArray,<- hl]
   exact Option.some.inj h1
  exact PySem.W.ki_setBack ho (by omega) (by rw[size_toArray,<- hl];exact h3) (by omega) (by rw[hk];exact⟨_,I',q⟩)
theorem Z9v (lo hi:Option Int)(n:Nat):(sliceBounds lo hi none n).1=((HT.sIx n 0 lo:Nat):Int)/\(sliceBounds lo hi none n).2.1=((HT.sIx n n hi:Nat):Int)/\(sliceBounds lo hi none n).2.2=1:=by
 refine⟨?_,?_,rfl⟩
 ·cases lo with
  |none=>simp [sliceBounds,HT.sIx]
  |some i=>
   simp only [sliceBounds,HT.sIx,Option.getD_none,show(1:Int)>0 by decide,if_true]
   by_cases h:i<0
   ·simp only [h,if_true] <;> omega
   ·simp only [h,if_false] <;> omega
 ·cases hi with
  |none=>simp [sliceBounds,HT.sIx]
  |some i=>
   simp only [sliceBounds,HT.sIx,Option.getD_none,show(1:Int)>0 by decide,if_true]
   by_cases h:i<0
   ·simp only [h,if_true] <;> omega
   ·simp only [h,if_false] <;> omega
theorem Z8g (its:List Value)(lo hi:Option Int):slicePick its.toArray lo hi none=((its.drop (HT.sIx its.length 0 lo)).take (HT.sIx its.length its.length hi-HT.sIx its.length 0 lo)).toArray:=by
 obtain⟨h1,h2,h3⟩:=Z9v lo hi its.toArray.size
 unfold slicePick
 rw[h1,h2,h3]
 simp only [sliceRange_one,pick_run,size_toArray] <;> rfl
inductive rSlL (K:W.Frag)(x:V)(lo:Option Int)(hi:Option Int)(H:Hp)(Q:VK):Prop
 |mk (a xs:_) (_:x = .ref a) (_:SqL K H a xs) (_:∀p,H p=none->Q (.ref p) (upd H p (.lst (Z7g xs lo hi)))):rSlL K x lo hi H Q
theorem Z2l:SlR X (rSlL X.K):=by
 intro pins s σ H x v vl vu lo hi sl Q I rx hs pl pu h
 obtain⟨a,xs,rfl,hx,q⟩:=h
 cases rx
 obtain⟨its,r,ht,hz⟩:=I.list hx
 have hlen:=r.length
 refine⟨"list",_,slot_list_getitem.lookup,ht.isList.typeIs,?_⟩
 refine wpAny_getItem_list_slice ht.isList hs pl pu .none (by simp) ?_ (by rw[size_toArray] <;> omega)
 rw[Z8g,<- hlen]
 refine⟨.ref s.heap.objs.size,_,I.laid (t':=s.toks) (o:=.lst (Z7g xs lo hi)) (fun b ob q=>Heap.get?_push_of_some _ q) (Nat.le_refl _) ?_,rfl,q _ (I.hok.fresh (Nat.le_refl _))⟩
 exact⟨Nat.le_trans (Z6h xs lo hi) hz,_,0,(r.drop (HT.sIx xs.length 0 lo)).take (HT.sIx xs.length xs.length hi-HT.sIx xs.length 0 lo),Heap.get?_push_size _ rfl⟩
def Z45:V->Bool
 | .non=>true
 | .bl _=>true
 | .int _=>true
 | .str _=>true
 |_=>false
def eqV:V->V->Bool
 | .non,.non=>true
 | .bl a,.bl b=>a==b
 | .bl a,.int b=>(if a then 1 else 0)==b
 | .int a,.bl b=>a==(if b then 1 else 0)
 | .int a,.int b=>a==b
 | .str a,.str b=>a==b
 |_,_=>false
theorem Z9w {A:Around}{s:Shared}{y x:V}{u v:Value}(ry:RelV y u)(rx:RelV x v)(fy:Z45 y=true)(fx:Z45 x=true):SeqAt.EqAt A s u v (eqV y x):=by
 cases y with
 |non=>
  cases ry
  cases x with
  |non=>cases rx;exact SeqAt.EqAt.same _
  |bl b=>cases rx;exact SeqAt.EqAt.none_bool b
  |int b=>obtain⟨t,rfl⟩:=rx;exact SeqAt.EqAt.none_int b t
  |str b=>obtain⟨t,rfl⟩:=rx;exact SeqAt.EqAt.none_str b t
  |_=>exact absurd (show false=true from fx) Bool.false_ne_true
 |bl a=>
  cases ry
  cases x with
  |non=>cases rx;exact SeqAt.EqAt.bool_none a
  |bl b=>cases rx;exact SeqAt.EqAt.bool_bool a b
  |int b=>obtain⟨t,rfl⟩:=rx;exact SeqAt.EqAt.bool_int a b t
  |str b=>obtain⟨t,rfl⟩:=rx;exact SeqAt.EqAt.bool_str a b t
  |_=>exact absurd (show false=true from fx) Bool.false_ne_true
 |int a=>
  obtain⟨t',rfl⟩:=ry
  cases x with
  |non=>cases rx;exact SeqAt.EqAt.int_none a t'
  |bl b=>cases rx;exact SeqAt.EqAt.int_bool a t' b
  |int b=>obtain⟨t,rfl⟩:=rx;exact SeqAt.EqAt.int_int a t' b t
  |str b=>obtain⟨t,rfl⟩:=rx;exact SeqAt.EqAt.int_str a t' b t
  |_=>exact absurd (show false=true from fx) Bool.false_ne_true
 |str a=>
  obtain⟨t',rfl⟩:=ry
  cases x with
  |non=>cases rx;exact SeqAt.EqAt.str_none a t'
  |bl b=>cases rx;exact SeqAt.EqAt.str_bool a t' b
  |int b=>obtain⟨t,rfl⟩:=rx;exact SeqAt.EqAt.str_int a t' b t
  |str b=>obtain⟨t,rfl⟩:=rx;exact SeqAt.EqAt.str_str a t' b t
  |_=>exact absurd (show false=true from fx) Bool.false_ne_true
 |_=>exact absurd (show false=true from fy) Bool.false_ne_true
def eqU (x:V)(u:Value):Bool:=match u with
 | .none=>eqV .non x
 | .bool b=>eqV (.bl b) x
 | .int i _=>eqV (.int i) x
 | .str z _=>eqV (.str z) x
 |_=>false
theorem Zjv {x y:V}{u:Value}(r:RelV y u)(f:Z45 y=true):eqU x u=eqV y x:=by
 cases y with
 |non=>cases r;rfl
 |bl b=>cases r;rfl
 |int i=>obtain⟨t,rfl⟩:=r;rfl
 |str z=>obtain⟨t,rfl⟩:=r;rfl
 |_=>exact absurd (show false=true from f) Bool.false_ne_true
theorem Z6j {x:V}:∀{xs:List V} {us:List Value},Vals xs us->xs.all Z45=true->us.any (eqU x)=xs.any fun y=>eqV y x
 |_,_,.nil,_=>rfl
 |y::xs,u::us,.cons r t,f=>by
  rw[all_cons,Bool.and_eq_true] at f
  rw[any_cons,any_cons,Zjv r f.1,Z6j t f.2]
theorem Z4z {A:Around}{s:Shared}{x:V}{v:Value}(rx:RelV x v)(fx:Z45 x=true):∀{xs:List V} {us:List Value},Vals xs us->xs.all Z45=true->∀u∈us,SeqAt.EqAt A s u v (eqU x u)
 |_,_,.nil,_=>fun u hu=>by cases hu
 |y::xs,u::us,.cons r t,f=>fun u' hu=>by
  rw[all_cons,Bool.and_eq_true] at f
  rcases mem_cons.mp hu with rfl|hu
  ·rw[Zjv r f.1];exact Z9w r rx f.1 fx
  ·exact Z4z rx fx t f.2 u' hu
def inV (x:V)(xs:List V):Bool:=xs.any fun y=>eqV y x
inductive rIn (K:W.Frag)(neg:Bool)(x:V)(y:V)(H:Hp)(Q:VK):Prop
 |mk (p xs:_) (_:y = .ref p) (_:(SqL K H p xs∨SqT K H p xs)) (_:Z45 x=true) (_:xs.all Z45=true) (_:Q (.bl (if neg then !inV x xs else inV x xs)) H):rIn K neg x y H Q
theorem Z1x:OpR X (compareOp .In) (rIn X.K false):=by
 intro pins s σ H x y v u Q I rx ry h
 obtain⟨p,xs,rfl,hq,fx,fs,q⟩:=h
 cases ry
 rcases hq with hq|hq
 ·obtain⟨its,r,pl,hz⟩:=I.list hq
  refine SeqAt.in_listAt (eqU x) pl.isList (fun w hw=>Z4z rx fx r fs w (by simpa using hw)) ⟨.bl _,H,I,rfl,?_⟩
  rw[show its.toArray.any (eqU x)=its.any (eqU x) by simp,Z6j r fs]
  exact q
 ·obtain⟨its,r,pl,hz⟩:=I.tuple hq
  refine SeqAt.in_tupleAt (eqU x) pl (fun w hw=>Z4z rx fx r fs w (by simpa using hw)) ⟨.bl _,H,I,rfl,?_⟩
  rw[show its.toArray.any (eqU x)=its.any (eqU x) by simp,Z6j r fs]
  exact q
theorem Z46:OpR X (compareOp .NotIn) (rIn X.K true):=by
 intro pins s σ H x y v u Q I rx ry h
 obtain⟨p,xs,rfl,hq,fx,fs,q⟩:=h
 cases ry
 rcases hq with hq|hq
 ·obtain⟨its,r,pl,hz⟩:=I.list hq
  refine SeqAt.notIn_listAt (eqU x) pl.isList (fun w hw=>Z4z rx fx r fs w (by simpa using hw)) ⟨.bl _,H,I,rfl,?_⟩
  rw[show its.toArray.any (eqU x)=its.any (eqU x) by simp,Z6j r fs]
  exact q
 ·obtain⟨its,r,pl,hz⟩:=I.tuple hq
  refine SeqAt.notIn_tupleAt (eqU x) pl (fun w hw=>Z4z rx fx r fs w (by simpa using hw)) ⟨.bl _,H,I,rfl,?_⟩
  rw[show its.toArray.any (eqU x)=its.any (eqU x) by simp,Z6j r fs]
  exact q
theorem Z0u:Z4t X (.builtin "len") (fun xs H Q=>∃p ys,xs = [.ref p]/\(SqL X.K H p ys∨SqT X.K H p ys)/\Q (.int ys.length) H):=by
 intro pins s σ H xs us Q I r h
 obtain⟨p,ys,rfl,hq,q⟩:=h
 obtain⟨u,rfl,rx⟩:=Z7f r
 cases rx
 have hn:=Z6g
 rcases hq with hq|hq
 ·obtain⟨its,r',pl,hz⟩:=I.list hq
  have hlen:=r'.length
  exact Calls.call_len_list pl.isList (by simp only [size_toArray] <;> omega) ⟨.int ys.length,H,I.tok _,⟨s.toks+1,by rw[size_toArray,hlen]⟩,q⟩
 ·obtain⟨its,r',pl,hz⟩:=I.tuple hq
  have hlen:=r'.length
  exact len_tuple pl (by simp only [size_toArray] <;> omega) ⟨.int ys.length,H,I.tok _,⟨s.toks+1,by rw[size_toArray,hlen]⟩,q⟩
theorem Z9x:Z4t X (.builtin "len") (fun xs H Q=>∃z,xs = [.str z]/\z.length<=sizeLine/\Q (.int z.length) H):=by
 intro pins s σ H xs us Q I r h
 obtain⟨z,rfl,hz,q⟩:=h
 obtain⟨u,rfl,t,rfl⟩:=Z7f r
 have hn:=Z6g
 exact len_str (by omega) ⟨.int z.length,H,I.tok _,⟨_,rfl⟩,q⟩
theorem Z9y:Z4t X (.type "list") (fun xs H Q=>∃p ys,xs = [.ref p]/\(SqL X.K H p ys∨SqT X.K H p ys)/\∀l,H l=none->Q (.ref l) (upd H l (.lst ys))):=by
 intro pins s σ H xs us Q I r h
 obtain⟨p,ys,rfl,hq,q⟩:=h
 obtain⟨u,rfl,rx⟩:=Z7f r
 cases rx
 have fin:∀(its:List Value),Vals ys its->ys.length<=sizeLine->∀(h':Heap) (c':Nat),(∀b o',s.heap.get? b=some o'->h'.get? b=some o') →
   h'.get? s.heap.objs.size=some { cls:=.type "list",dict:=none,data:=.seq its.toArray c',slots:=#[] }->EP X pins σ Q (.ref s.heap.objs.size) { s with heap:=h' }:=fun its r' hz h' c' kp e=>
  ⟨.ref s.heap.objs.size,_,I.laid (t':=s.toks) kp (Nat.le_refl _) (show ObjOk X.prog X.w _ h' _ (.lst ys) from⟨hz,its,c',r',e⟩),rfl,q _ (I.hok.fresh (Nat.le_refl _))⟩
 rcases hq with hq|hq
 ·obtain⟨its,r',pl,hz⟩:=I.list hq
  have hlen:=r'.length
  obtain⟨o,ho,hc,n,hd⟩:=pl.isList
  exact call_list_seq p (.inl rfl) ho hc hd (fun h' c' kp e=>fin its r' hz h' c' kp e) (by simp only [size_toArray] <;> omega)
 ·obtain⟨its,r',pl,hz⟩:=I.tuple hq
  have hlen:=r'.length
  obtain⟨o,ho,hc,n,hd⟩:=pl
  exact call_list_seq p (.inr rfl) ho hc hd (fun h' c' kp e=>fin its r' hz h' c' kp e) (by simp only [size_toArray] <;> omega)
theorem Z0w:Z4t X (.type "tuple") (fun xs H Q=>∃p ys,xs = [.ref p]/\((SqL X.K H p ys/\∀l,H l=none->Q (.ref l) (upd H l (.tup ys)))∨(SqT X.K H p ys/\Q (.ref p) H))):=by
 intro pins s σ H xs us Q I r h
 obtain⟨p,ys,rfl,h⟩:=h
 obtain⟨u,rfl,rx⟩:=Z7f r
 cases rx
 rcases h with ⟨hq,q⟩|⟨hq,q⟩
 ·obtain⟨its,r',pl,hz⟩:=I.list hq
  have hlen:=r'.length
  refine call_tuple_list pl.isList (fun h' kp=>?_) (by simp only [size_toArray] <;> omega)
  have I1:Inv X pins σ H { s with heap:=h' }:=I.kept (t':=s.toks) kp
  have I2:Inv X pins σ (upd H h'.objs.size (.tup ys)) { s with heap:=h'.push { cls:=.type "tuple",data:=.seq its.toArray } }:=
   I1.laid (t':=s.toks) (fun b o e=>Heap.get?_push_of_some _ e) (Nat.le_refl _) (show ObjOk X.prog X.w _ _ _ (.tup ys) from⟨hz,its,r',IsTup.new _ _⟩)
  exact⟨.ref h'.objs.size,_,I2,rfl,q _ (I1.hok.fresh (Nat.le_refl _))⟩
 ·obtain⟨its,r',pl,hz⟩:=I.tuple hq
  exact call_tuple_same pl ⟨.ref p,H,I,rfl,q⟩
def tyV (K:W.Frag)(T:String)(x:V)(H:Hp):Prop:=match x with
 | .str _=>T="str"
 | .int _=>T="int"
 | .ref p=>(T="list"/\∃xs,SqL K H p xs)∨(T="tuple"/\∃o,K.lookup p=some o/\o.cls = .type "tuple"/\o.dict=none) ∨
   (T="dict"/\((∃kvs,H p=some (.dK kvs))∨∃kvs,H p=some (.dT kvs)))∨(T="set"/\∃S n,H p=some (.set S n))
 |_=>False
theorem Zjw {pins:List (Addr×Obj)}{σ:St}{H:Hp}{s:Shared}{T:String}{x:V}{v:Value}(I:Inv X pins σ H s)(r:RelV x v)(ty:tyV X.K T x H):
  s.TypeIs v T/\∀a,v = .ref a->∃ob,s.heap.get? a=some ob/\ob.dict=none:=by
 cases x with
 |str z=>
  obtain⟨t,rfl⟩:=r
  cases (show T="str" from ty)
  exact⟨typeIs_str s z t,fun _ e=>nomatch e⟩
 |int i=>
  obtain⟨t,rfl⟩:=r
  cases (show T="int" from ty)
  exact⟨typeIs_int s i t,fun _ e=>nomatch e⟩
 |ref p=>
  cases r
  rcases ty with ⟨rfl,xs,hq⟩|⟨rfl,o,hk,hc,hd⟩|⟨rfl,hk⟩|⟨rfl,S,n,hk⟩
  ·obtain⟨its,_,pl,_⟩:=I.list hq
   refine⟨pl.isList.typeIs,fun a e=>?_⟩
   cases e
   obtain⟨o,n,e,c,hd,_⟩:=pl
   exact⟨o,e,hd⟩
  ·refine⟨⟨o,I.kIn p o hk,hc⟩,fun a e=>?_⟩
   cases e
   exact⟨o,I.kIn _ o hk,hd⟩
  ·have z:∃o,s.heap.get? p=some o/\o.ExactDict:=by
    rcases hk with ⟨kvs,hk⟩|⟨kvs,hk⟩
    ·obtain⟨_,_,_,_,o,_,_,e,ex,_⟩:=I.hok p _ hk
     exact⟨o,e,ex⟩
    ·obtain⟨_,_,_,_,o,_,_,e,ex,_⟩:=I.hok p _ hk
     exact⟨o,e,ex⟩
   obtain⟨o,e,ex⟩:=z
   refine⟨⟨o,e,ex.1⟩,fun a e2=>?_⟩
   cases e2
   exact⟨o,e,ex.2.1⟩
  ·obtain⟨o,_,_,_,e,ex,_⟩:=I.hok p _ hk
   refine⟨⟨o,e,ex.1⟩,fun a e2=>?_⟩
   cases e2
   exact⟨o,e,ex.2.1⟩
 |_=>exact False.elim ty
def Zqx (K:W.Frag)(T:String)(r:V->List V->Hp->VK->Prop)(to:TE):TE:=fun σ H Q=>to σ H fun x H1=>tyV K T x H1/\r x [] H1 Q
def tBM (K:W.Frag)(T:String)(r:V->List V->Hp->VK->Prop)(to:TE)(t:TA):TE:=fun σ H Q=>to σ H fun x H1=>tyV K T x H1/\t σ H1 fun xs H2=>r x xs H2 Q
variable {o e:Expr}{es:List Expr}{to:TE}{t:TA}{name:Str}{apos cpos:Pos}{T id:String}{r:V->List V->Hp->VK->Prop}
theorem Zjx (pa:PlainAttrs T)(slot:Slot T name id)(hty:typeOf (.builtin id)=pure (.type "method_descriptor"))(hm:MtR X id r)(ho:PE X o to)
  (hbase:attributeBase o name X.env (eval o X.env)=eval o X.env:=by rfl) (hline:(apos.endLine==cpos.line)=true:=by rfl):PE X (.Call (.Attribute o name apos) [] [] cpos) (Zqx X.K T r to):=by
 intro pins s σ H Q I h
 refine wpAny_Call_method0_late hbase hline (thn (ho pins s σ H _ I h) fun v s1 ⟨x,H1,I1,r1,ty,q1⟩=>?_)
 obtain⟨h1,h2⟩:=Zjw I1 r1 ty
 exact⟨T,id,pa,slot,hty,h1,h2,Calls.callWith_builtin rfl (PySem.evalArgs_none (hm pins s1 σ H1 x [] v [] Q I1 r1 .nil q1))⟩
theorem Z8h (pa:PlainAttrs T)(slot:Slot T name id)(hty:typeOf (.builtin id)=pure (.type "method_descriptor"))(hm:MtR X id r)(ho:PE X o to)(ha:PA X (e::es) t)
  (hbase:attributeBase o name X.env (eval o X.env)=eval o X.env:=by rfl)
  (hfew:((backTo cpos (starEach (e::es) X.env)).all (fun x => !x.1)&&(backToKw cpos (keywordEach [] X.env)).all (fun x=>x.1.isSome)
   && decide ((e::es).length+([]:List Keyword).length+(if ([]:List Keyword).isEmpty then 0 else 1)<30))=true:=by rfl)
  (hline:(apos.endLine==cpos.line)=true:=by rfl) (hs:starEach (e::es) X.env=(false,eval e X.env)::starEach es X.env:=by rfl) (hplain:(backTo cpos (starEach es X.env)).any (·.1)=false:=by rfl):
  PE X (.Call (.Attribute o name apos) (e::es) [] cpos) (tBM X.K T r to t):=by
 intro pins s σ H Q I h
 refine wpAny_Call_method_late hbase hfew hline rfl (thn (ho pins s σ H _ I h) fun v s1 ⟨x,H1,I1,r1,ty,q1⟩=>?_)
 obtain⟨h1,h2⟩:=Zjw I1 r1 ty
 refine⟨T,id,pa,slot,hty,h1,h2,?_⟩
 have hA:=ha cpos pins s1 σ H1 _ I1 q1
 rw[hs] at hA ⊢
 refine Calls.callWith_builtin (by show(false||(backTo cpos (starEach es X.env)).any (·.1))=false;rw[hplain] <;> rfl) (Calls.evalArgs_plain ?_)
 exact thn hA fun us s2 ⟨vs,H2,I2,r2,q2⟩=>hm pins s2 σ H2 x vs v us Q I2 r1 r2 q2
end
def MtM (X:Cx)(id:String)(r:V->List V->Hp->VK->Prop):Prop:=
 ∀(pins:List (Addr×Obj)) (s:Shared) (σ:St) (H:Hp) (x:V) (xs:List V) (v:Value) (us:List Value) (Q:VK),Inv X pins σ H s->RelV x v->Vals xs us->r x xs H Q →
  wpAny (model X.prog X.w) X.A (call (.builtin id) (v::us)) (EP X pins σ Q) X.xe s
theorem Vals.one:∀{x:V} {us:List Value},Vals [x] us->∃u,us = [u]/\RelV x u
 |_,_,.cons r .nil=>⟨_,rfl,r⟩
theorem Vals.zero:∀{us:List Value},Vals [] us->us = []
 |_,.nil=>rfl
theorem Vals.dropLast {xs:List V}{us:List Value}(h:Vals xs us):Vals xs.dropLast us.dropLast:=by
 induction h with
 |nil=>exact .nil
 |cons r t ih=>
  cases t with
  |nil=>exact .nil
  |cons q t'=>exact .cons r ih
theorem Vals.reverse {xs:List V}{us:List Value}(h:Vals xs us):Vals xs.reverse us.reverse:=by
 induction h with
 |nil=>exact .nil
 |cons r t ih=>rw[reverse_cons,reverse_cons];exact Vals.append ih (.cons r .nil)
theorem Zdo {α : Type}(l:List α):l.eraseIdx (l.length-1)=l.dropLast:=by
 induction l with
 |nil=>rfl
 |cons a r ih=>
  cases r with
  |nil=>rfl
  |cons b r=>
   have e:(a::b::r).length-1=((b::r).length-1)+1:=by
    have h1:(a::b::r).length=r.length+2:=rfl
    have h2:(b::r).length=r.length+1:=rfl
    omega
   rw[e,List.eraseIdx_cons_succ,ih]
   all_goals rfl
section
variable {X:Cx}{pins:List (Addr×Obj)}{σ:St}{H:Hp}{s:Shared}{l b:Addr}{xs ys zs:List V}
theorem Inv.lset {its its':List Value}{n:Nat}{f:Array Value->Array Value}{t':Nat}(I:Inv X pins σ H s)(hH:H l=some (.lst xs))
  (e:s.heap.get? l=some { cls:=.type "list",data:=.seq its.toArray n }) (hf:f its.toArray=its'.toArray) (hv:Vals ys its') (hz:ys.length<=sizeLine):
  Inv X pins σ (upd H l (.lst ys)) { s with heap:=s.heap.update l (Obj.mapSeq f),toks:=t' }:=by
 have q:=PySem.IsL.update e f
 rw[hf] at q
 refine I.write (x:=l) (e:=l) (by rw[hH];exact trivial) (.inl rfl) (fun b' u hb hu=>(Heap.get?_update_other s.heap (Obj.mapSeq f) (Ne.symm hb)).trans hu) ⟨_,q⟩ ?_
 exact⟨hz,its',_,hv,q⟩
theorem Inv.lnew {its:List Value}{t':Nat}(I:Inv X pins σ H s)(hv:Vals ys its)(hz:ys.length<=sizeLine):
  Inv X pins σ (upd H s.heap.objs.size (.lst ys)) { s with heap:=s.heap.push { cls:=.type "list",data:=.seq its.toArray },toks:=t' }:=
 I.laid (fun _ _ q=>Heap.get?_push_of_some _ q) (Nat.le_refl _) ⟨hz,its,0,hv,Heap.get?_push_size _ rfl⟩
theorem Inv.fresh (I:Inv X pins σ H s):H s.heap.objs.size=none:=I.hok.fresh (Nat.le_refl _)
theorem Inv.lstM (I:Inv X pins σ H s)(hH:H l=some (.lst xs)):xs.length<=sizeLine/\∃(its:List Value) (n:Nat),Vals xs its/\xs.length=its.length/\s.heap.get? l=some { cls:=.type "list",data:=.seq its.toArray n }:=by
 obtain⟨z,its,n,r,e⟩:=I.hok l _ hH
 exact⟨z,its,n,r,r.length,e⟩
theorem Zhz {n:Nat}(h:n<=sizeLine):Builtin.List.listTooLong n=false:=by
 unfold Builtin.List.listTooLong
 exact decide_eq_false (by omega)
end
section
variable {X:Cx}
inductive rAppend (x:V)(vs:List V)(H:Hp)(Q:VK):Prop
 |mk (l xs y:_) (_:x = .ref l) (_:vs = [y]) (_:H l=some (.lst xs)) (_:xs.length<sizeLine) (_:Q .non (upd H l (.lst (xs ++ [y])))):rAppend x vs H Q
theorem Z3g:MtM X "list.append" rAppend:=by
 intro pins s σ H x vs v us Q I rx rv h
 obtain⟨l,xs,y,rfl,rfl,hH,hz,q⟩:=h
 cases rx
 obtain⟨u,rfl,ru⟩:=rv.one
 obtain⟨z,its,n,r,hl,e⟩:=I.lstM hH
 refine call_meets F.slot_list_append ⟨_,e,rfl⟩ F.entry_list_append (F.args_list_append_2 _ _) (PySem.list_append l its.toArray n u (by rw[size_toArray];omega)) ⟨e,?_⟩
 refine⟨.non,_,I.lset (its':=its ++ [u]) hH e (by simp) (r.append (.cons ru .nil)) ?_,rfl,q⟩
 rw[length_append,length_singleton]
 omega
inductive rExtend (x:V)(vs:List V)(H:Hp)(Q:VK):Prop
 |mk (l b xs zs:_) (_:x = .ref l) (_:vs = [.ref b]) (_:H l=some (.lst xs)) (_:H b=some (.lst zs)) (_:xs.length+zs.length<=sizeLine) (_:Q .non (upd H l (.lst (xs++zs)))):rExtend x vs H Q
theorem Zf7:MtM X "list.extend" rExtend:=by
 intro pins s σ H x vs v us Q I rx rv h
 obtain⟨l,b,xs,zs,rfl,rfl,hH,hB,hz,q⟩:=h
 cases rx
 obtain⟨u,rfl,ru⟩:=rv.one
 cases ru
 obtain⟨z,its,n,r,hl,e⟩:=I.lstM hH
 obtain⟨z2,its2,n2,r2,hl2,e2⟩:=I.lstM hB
 have hsz:its.toArray.size+its2.toArray.size<=sizeLine:=by rw[size_toArray,size_toArray];omega
 have hlong:¬ (!its.toArray.isEmpty&&Builtin.List.listTooLong (its.toArray.size+its2.toArray.size))=true:=by
  rw[Zhz hsz,Bool.and_false]
  exact Bool.false_ne_true
 refine call_meets F.slot_list_extend ⟨_,e,rfl⟩ F.entry_list_extend (F.args_list_extend_2 _ _)
  (AutoSeq1.list_extend_list_list_0 l its.toArray n b its2.toArray n2 hlong (by rw[size_toArray];omega) (by omega)) ⟨e,e2,?_⟩
 refine⟨.non,_,I.lset (its':=its++its2) hH e (by simp) (r.append r2) ?_,rfl,q⟩
 rw[length_append]
 omega
inductive rPop (x:V)(vs:List V)(H:Hp)(Q:VK):Prop
 |mk (l xs y:_) (_:x = .ref l) (_:vs = []) (_:H l=some (.lst xs)) (_:xs[xs.length-1]? = some y) (_:Q y (upd H l (.lst xs.dropLast))):rPop x vs H Q
theorem Zjy:MtM X "list.pop" rPop:=by
 intro pins s σ H x vs v us Q I rx rv h
 obtain⟨l,xs,y,rfl,rfl,hH,hy,q⟩:=h
 cases rx
 have hus:=rv.zero
 subst hus
 obtain⟨z,its,n,r,hl,e⟩:=I.lstM hH
 obtain⟨u,hu,ru⟩:=r.get hy
 have hy':its.toArray[its.toArray.size-1]? = some u:=by
  show its.toArray[its.length-1]? = some u
  rw[<- Array.getElem?_toList,<- hl]
  exact hu
 refine call_meets F.slot_list_pop ⟨_,e,rfl⟩ F.entry_list_pop (F.args_list_pop_1 _) (MeetsSeq.list_pop_last l its.toArray n u hy' (by rw[size_toArray];omega)) ⟨e,?_⟩
 refine⟨y,_,I.lset (its':=its.dropLast) hH e ?_ r.dropLast ?_,ru,q⟩
 ·show its.toArray.eraseIdxIfInBounds (its.toArray.size-1)=its.dropLast.toArray
  rw[size_toArray,List.eraseIdxIfInBounds_toArray,Zdo]
 ·rw[List.length_dropLast]
  omega
inductive rCat (x:V)(y:V)(H:Hp)(Q:VK):Prop
 |mk (l b xs zs:_) (_:x = .ref l) (_:y = .ref b) (_:H l=some (.lst xs)) (_:H b=some (.lst zs)) (_:xs.length+zs.length<=sizeLine) (_:∀p,H p=none->Q (.ref p) (upd H p (.lst (xs++zs)))):rCat x y H Q
theorem Z2d:OpR X (binaryOp .Add) rCat:=by
 intro pins s σ H x y v u Q I rx ry h
 obtain⟨l,b,xs,zs,rfl,rfl,hH,hB,hz,q⟩:=h
 cases rx
 cases ry
 obtain⟨z,its,n,r,hl,e⟩:=I.lstM hH
 obtain⟨z2,its2,n2,r2,hl2,e2⟩:=I.lstM hB
 refine PySem.P.add_list e e2 ?_ (by rw[size_toArray,size_toArray];omega)
 have ea:its.toArray++its2.toArray=(its++its2).toArray:=by simp
 rw[ea]
 exact⟨.ref _,_,I.lnew (t':=s.toks) (r.append r2) (by rw[length_append];omega),rfl,q _ I.fresh⟩
end
section
variable {κ : Type}[DecidableEq κ]
def Z2m (kvs:List (κ × V))(k : κ):Option V:=(kvs.find? fun kv=>decide (kv.1=k)).map (·.2)
def Z3z (kvs:List (κ × V))(k : κ)(v:V):List (κ × V):=
 if (kvs.any fun kv=>decide (kv.1=k))=true then kvs.map (fun kv=>if kv.1=k then (kv.1,v) else kv) else kvs ++ [(k,v)]
theorem Z27 {p : κ × V}{r:List (κ × V)}{k : κ}(e:p.1=k):Z2m (p::r) k=some p.2:=by simp [Z2m,List.find?_cons,e]
theorem Z28 {p : κ × V}{r:List (κ × V)}{k : κ}(e:¬p.1=k):Z2m (p::r) k=Z2m r k:=by simp [Z2m,List.find?_cons,e]
theorem Z6a (k : κ):∀kvs:List (κ × V),(kvs.any fun kv=>decide (kv.1=k))=(Z2m kvs k).isSome
 |[]=>rfl
 |p::r=>by
  rw[any_cons]
  by_cases e:p.1=k
  ·simp only [Z27 e,decide_eq_true e,Bool.true_or,Option.isSome_some]
  ·rw[Z28 e,decide_eq_false e,Bool.false_or];exact Z6a k r
theorem Zc3 (k j : κ)(y:V):∀kvs:List (κ × V),Z2m (kvs.map fun kv=>if kv.1=k then (kv.1,y) else kv) j=(Z2m kvs j).map fun x=>if j=k then y else x
 |[]=>rfl
 |p::r=>by
  have ih:=Zc3 k j y r
  rw[map_cons]
  by_cases h:p.1=k
  ·rw[if_pos h]
   by_cases e:p.1=j
   ·rw[Z27 (p:=(p.1,y)) e,Z27 e,Option.map_some,if_pos (e.symm.trans h)]
   ·rw[Z28 (p:=(p.1,y)) e,Z28 e,ih]
  ·rw[if_neg h]
   by_cases e:p.1=j
   ·rw[Z27 (p:=p) e,Z27 e,Option.map_some,if_neg (fun z=>h (e.trans z))]
   ·rw[Z28 (p:=p) e,Z28 e,ih]
theorem Z9z (k j : κ)(y:V):∀kvs:List (κ × V),Z2m kvs k=none->Z2m (kvs ++ [(k,y)]) j=if j=k then some y else Z2m kvs j
 |[],_=>by
  by_cases e:k=j
  ·rw[if_pos e.symm];exact Z27 (p:=(k,y)) e
  ·rw[if_neg (fun z=>e z.symm)];exact Z28 (p:=(k,y)) e
 |p::r,hn=>by
  rw[cons_append]
  have hk:¬p.1=k:=fun z=>by rw[Z27 z] at hn;cases hn
  rw[Z28 hk] at hn
  have ih:=Z9z k j y r hn
  by_cases e:p.1=j
  ·rw[Z27 e,Z27 e,if_neg (fun z=>hk (e.trans z))]
  ·rw[Z28 e,Z28 e,ih]
theorem Z20 (kvs:List (κ × V))(k j : κ)(y:V):Z2m (Z3z kvs k y) j=if j=k then some y else Z2m kvs j:=by
 unfold Z3z
 by_cases a:(kvs.any fun kv=>decide (kv.1=k))=true
 ·rw[if_pos a,Zc3]
  rw[Z6a] at a
  by_cases e:j=k
  ·obtain⟨x,hx⟩:=Option.isSome_iff_exists.mp a
   rw[if_pos e,e,hx,Option.map_some,if_pos rfl]
  ·rw[if_neg e]
   cases Z2m kvs j with
   |none=>rfl
   |some x=>rw[Option.map_some,if_neg e]
 ·rw[if_neg a]
  refine Z9z k j y kvs ?_
  rw[Z6a] at a
  cases q:Z2m kvs k with
  |none=>rfl
  |some x=>rw[q] at a;exact(a rfl).elim
theorem Z2w (kvs:List (κ × V))(k : κ)(v:V):(Z3z kvs k v).length<=kvs.length+1:=by
 unfold Z3z
 split
 ·rw[length_map];omega
 ·rw[length_append,length_cons,length_nil];omega
theorem RelO.isSome_eq {o:Option V}{u:Option Value}(r:RelO o u):o.isSome=u.isSome:=by
 cases o with
 |none=>cases u with
  |none=>rfl
  |some _=>exact(show False from r).elim
 |some _=>cases u with
  |none=>exact(show False from r).elim
  |some _=>rfl
theorem RelO.getD {o:Option V}{u:Option Value}{d:V}{d':Value}(r:RelO o u)(rd:RelV d d'):RelV (o.getD d) (u.getD d'):=by
 cases o with
 |none=>cases u with
  |none=>exact rd
  |some _=>exact(show False from r).elim
 |some _=>cases u with
  |none=>exact(show False from r).elim
  |some _=>exact r
theorem KV.val {kvs:List (κ × V)}{vs:List (κ × Value)}(r:KV kvs vs)(k : κ):RelO (Z2m kvs k) (valueAt vs k):=by
 unfold KV at r
 induction r with
 |nil=>exact True.intro
 | @cons p q ps qs h t ih=>
  obtain⟨h1,h2⟩:=h
  by_cases e:p.1=k
  ·have e':q.1=k:=h1.symm.trans e
   have b:valueAt (q::qs) k=some q.2:=by simp [valueAt,List.find?_cons,e']
   rw[Z27 e,b];exact h2
  ·have e':¬q.1=k:=fun z=>e (h1.trans z)
   have b:valueAt (q::qs) k=valueAt qs k:=by simp [valueAt,List.find?_cons,e']
   rw[Z28 e,b];exact ih
theorem KV.any {kvs:List (κ × V)}{vs:List (κ × Value)}(r:KV kvs vs)(k : κ):(kvs.any fun kv=>decide (kv.1=k))=vs.any fun kv=>decide (kv.1=k):=by
 unfold KV at r
 induction r with
 |nil=>rfl
 |cons h t ih=>rw[any_cons,any_cons,ih,h.1]
theorem KV.repl {kvs:List (κ × V)}{vs:List (κ × Value)}(r:KV kvs vs)(k : κ){y:V}{u:Value}(ry:RelV y u):
  KV (kvs.map fun kv=>if kv.1=k then (kv.1,y) else kv) (vs.map fun kv=>if kv.1=k then (kv.1,u) else kv):=by
 unfold KV at r ⊢
 induction r with
 |nil=>exact .nil
 | @cons p q ps qs h t ih=>
  rw[map_cons,map_cons]
  refine .cons ?_ ih
  obtain⟨h1,h2⟩:=h
  by_cases e:p.1=k
  ·rw[if_pos e,if_pos (h1.symm.trans e)];exact⟨h1,ry⟩
  ·rw[if_neg e,if_neg (fun z=>e (h1.trans z))];exact⟨h1,h2⟩
theorem KV.put {kvs:List (κ × V)}{vs:List (κ × Value)}(r:KV kvs vs)(k : κ){y:V}{u:Value}(ry:RelV y u):KV (Z3z kvs k y) (stored vs k u):=by
 unfold Z3z stored
 rw[r.any k]
 by_cases e:(vs.any fun kv=>decide (kv.1=k))=true
 ·rw[if_pos e,if_pos e];exact r.repl k ry
 ·rw[if_neg e,if_neg e];exact Paired.snoc r ⟨rfl,ry⟩
theorem KV.length {kvs:List (κ × V)}{vs:List (κ × Value)}(r:KV kvs vs):kvs.length=vs.length:=Paired.length r
end
theorem Zdp {P:Program}{w:World}{k:Key}{u:Value}(r:RelV (kV k) u):(Z1l P w).is k u=true:=by
 cases k with
 |inl i=>obtain⟨t,e⟩:=(show ∃t,u=Value.int i t from r);subst e;exact Zb0 P w i t
 |inr x=>obtain⟨t,e⟩:=(show ∃t,u=Value.str x t from r);subst e;exact Zb1 P w x t
theorem Za0 {P:Program}{w:World}:∀{ks:List Key} {us:List Value},Vals (ks.map kV) us->ItemsAre (Z1l P w) ks us
 |[],_,r=>by rw[map_nil] at r;cases r;exact .nil
 |k::ks,_,r=>by
  rw[map_cons] at r
  cases r with
  |cons h t=>exact .cons (Zdp h) (Za0 t)
abbrev KT (H:Hp):List (List Key×V)->List (List Key×Addr×Value)->Prop:=Paired fun p q=>p.1=q.1/\H q.2.1=some (.tup (p.1.map kV))/\RelV p.2 q.2.2
theorem KT.val {H:Hp}{kvs:List (List Key×V)}{xs:List (List Key×Addr×Value)}(r:KT H kvs xs)(k:List Key):RelO (Z2m kvs k) ((atKey xs k).map (·.2)):=by
 induction r with
 |nil=>exact True.intro
 | @cons p q ps qs h t ih=>
  obtain⟨h1,_,h2⟩:=h
  by_cases e:p.1=k
  ·have e':q.1=k:=h1.symm.trans e
   have b:atKey (q::qs) k=some q.2:=by simp [atKey,List.find?_cons,e']
   rw[Z27 e,b];exact h2
  ·have e':¬q.1=k:=fun z=>e (h1.trans z)
   have b:atKey (q::qs) k=atKey qs k:=by simp [atKey,List.find?_cons,e']
   rw[Z28 e,b];exact ih
theorem KT.repl {H:Hp}{kvs:List (List Key×V)}{xs:List (List Key×Addr×Value)}(r:KT H kvs xs)(k:List Key){y:V}{u:Value}(ry:RelV y u):
  KT H (kvs.map fun kv=>if kv.1=k then (kv.1,y) else kv) (xs.map (putAt k u)):=by
 induction r with
 |nil=>exact .nil
 | @cons p q ps qs h t ih=>
  rw[map_cons,map_cons]
  refine .cons ?_ ih
  obtain⟨h1,h2,h3⟩:=h
  unfold putAt
  by_cases e:p.1=k
  ·rw[if_pos e,if_pos (h1.symm.trans e)];exact⟨h1,h2,ry⟩
  ·rw[if_neg e,if_neg (fun z=>e (h1.trans z))];exact⟨h1,h2,h3⟩
theorem KT.put {H:Hp}{kvs:List (List Key×V)}{xs:List (List Key×Addr×Value)}(r:KT H kvs xs)(k:List Key){b:Addr}{y:V}{u:Value}(hb:H b=some (.tup (k.map kV)))(ry:RelV y u):
  KT H (Z3z kvs k y) (storedH xs k b u):=by
 have e:(kvs.any fun kv=>decide (kv.1=k))=(atKey xs k).isSome:=by
  rw[Z6a,(r.val k).isSome_eq,Option.isSome_map]
 unfold Z3z storedH
 rw[e]
 by_cases q:(atKey xs k).isSome=true
 ·rw[if_pos q,if_pos q];exact r.repl k ry
 ·rw[if_neg q,if_neg q];exact Paired.snoc r ⟨rfl,hb,ry⟩
theorem KT.keeps {H H':Hp}{kvs:List (List Key×V)}{xs:List (List Key×Addr×Value)}(r:KT H kvs xs)(ht:∀b ys,H b=some (.tup ys)->H' b=some (.tup ys)):KT H' kvs xs:=
 Paired.mapP r fun _ _ z=>⟨z.1,ht _ _ z.2.1,z.2.2⟩
section
variable {P:Program}{w:World}{H:Hp}{h:Heap}{a:Addr}
theorem Zn4 {u:HO}(ok:HOk P w H h)(e:Rd H a u):ObjOk P w H h a u:=e.ok ok
theorem Zdq {kvs:List (Key×V)}(ok:HOk P w H h)(e:Rd H a (.dK kvs)):kvs.length<=sizeLine/\(a==sysModules)=false/\∃vs,KV kvs vs/\h.DictOf (Z1l P w) a vs:=
 show ObjOk P w H h a (.dK kvs) from Zn4 ok e
theorem Zkm {kvs:List (Key×V)}(ok:HOk P w H h)(e:H a=some (.dK kvs)):kvs.length<=sizeLine/\(a==sysModules)=false/\∃vs,KV kvs vs/\h.DictOf (Z1l P w) a vs:=Zdq ok (.inl e)
theorem Zc4 {ks:List Key}(ok:HOk P w H h)(e:H a=some (.tup (ks.map kV))):(tupleKind (Z1l P w)).is h ks a:=by
 obtain⟨_,its,r,o,h1,h2,n,h3⟩:=(show ObjOk P w H h a (.tup (ks.map kV)) from ok a _ e)
 exact⟨o,its.toArray,n,h1,h2,h3,by simpa using Za0 r⟩
theorem Zf8 {kvs:List (List Key×V)}(ok:HOk P w H h)(e:Rd H a (.dT kvs)):kvs.length<=sizeLine/\(a==sysModules)=false ∧
  ∃xs,KT H kvs xs/\h.DictOfH (tupleKind (Z1l P w)) a xs:=by
 obtain⟨z,y,xs,r,o,es,ep,h1,h2,h3,h4,h5⟩:=(show ObjOk P w H h a (.dT kvs) from Zn4 ok e)
 refine⟨z,y,xs,r,o,es,ep,h1,h2,h3,h4,fun x hx=>?_,h5⟩
 have all:∀{l:List (List Key×V)} {m:List (List Key×Addr×Value)},KT H l m->∀x∈m,(tupleKind (Z1l P w)).is h x.1 x.2.1:=by
  intro l m q
  induction q with
  |nil=>intro x hx;exact nomatch hx
  | @cons p q ps qs hq t ih=>
   intro x hx
   rcases mem_cons.mp hx with e|hx
   ·subst e
    exact Zc4 ok (by rw[<- hq.1];exact hq.2.1)
   ·exact ih x hx
 exact all r x hx
theorem Zp4 {kvs:List (List Key×V)}(ok:HOk P w H h)(e:H a=some (.dT kvs)):kvs.length<=sizeLine/\(a==sysModules)=false ∧
  ∃xs,KT H kvs xs/\h.DictOfH (tupleKind (Z1l P w)) a xs:=Zf8 ok (.inl e)
end
def DGet (H:Hp)(a:Addr)(y:V)(r:Option V):Prop:=
 (∃kvs k,Rd H a (.dK kvs)/\y=kV k/\r=Z2m kvs k)∨∃kvs k b,Rd H a (.dT kvs)/\y = .ref b/\H b=some (.tup (k.map kV))/\r=Z2m kvs k
def DPut (H:Hp)(a:Addr)(y v:V)(H':Hp):Prop:=
 (∃kvs k,H a=some (.dK kvs)/\y=kV k/\kvs.length<sizeLine/\H'=upd H a (.dK (Z3z kvs k v))) ∨
 ∃kvs k b,H a=some (.dT kvs)/\y = .ref b/\H b=some (.tup (k.map kV))/\kvs.length<sizeLine/\H'=upd H a (.dT (Z3z kvs k v))
theorem DGet.k {H:Hp}{a:Addr}{kvs:List (Key×V)}{k:Key}(e:H a=some (.dK kvs)):DGet H a (kV k) (Z2m kvs k):=.inl ⟨kvs,k,.inl e,rfl,rfl⟩
theorem DPut.k {H:Hp}{a:Addr}{kvs:List (Key×V)}{k:Key}{v:V}(e:H a=some (.dK kvs))(hl:kvs.length<sizeLine):DPut H a (kV k) v (upd H a (.dK (Z3z kvs k v))):=.inl ⟨kvs,k,e,rfl,hl,rfl⟩
section
variable {X:Cx}{pins:List (Addr×Obj)}{σ:St}{H:Hp}{s:Shared}{a:Addr}{y v:V}{u r:Value}{o:Option V}{A:Around}{E:Value->Shared->Prop}
theorem Inv.big (I:Inv X pins σ H s):sysModules<s.heap.objs.size:=by
 have h:mainGlobals<s.heap.objs.size:=(I.mod.glob.keeps I.bk).lt
 exact Nat.lt_trans (by decide) h
theorem Zf9 {Q:Value->Shared->Prop}(hu:A.units+1<cLine)(I:Inv X pins σ H s)(g:DGet H a y (some v))(ry:RelV y u)(h:∀w' s',Inv X pins σ H s'->RelV v w'->Q w' s'):
  wpAny (model X.prog X.w) A (getItem (.ref a) u) Q E s:=by
 rcases g with ⟨kvs,k,e,ey,l⟩|⟨kvs,k,b,e,ey,eb,l⟩
 ·subst ey
  obtain⟨z,hd,vs,rel,dd⟩:=Zdq I.hok e
  obtain⟨w',hw,rw'⟩:=RelO.some_of (v:=v) (o:=valueAt vs k) (by rw[l];exact rel.val k)
  exact wpAny_getItem_of (Zdp ry) dd.mapOf hw (h w' _ (I.tok _) rw')
 ·subst ey
  cases (show u=Value.ref b from ry)
  obtain⟨z,hd,xs,rel,dd⟩:=Zf8 I.hok e
  obtain⟨w',hw,rw'⟩:=RelO.some_of (v:=v) (o:=(atKey xs k).map (·.2)) (by rw[l];exact rel.val k)
  obtain⟨p,hp,hp2⟩:=Option.map_eq_some_iff.mp hw
  refine wpAny_getItem_heap (tupleKind_room_in1 hu) (Zc4 I.hok eb) dd hp ?_
  rw[hp2]
  exact h w' _ (I.tok _) rw'
theorem Z8i {h':Heap}{t':Nat}{ob:HO}(I:Inv X pins σ H s)(mu:Mut (H a))(hs:Heap.SameBut a s.heap h')(he:∃q,h'.get? a=some q)(new:ObjOk X.prog X.w (upd H a ob) h' a ob):
  Inv X pins σ (upd H a ob) { s with heap:=h',toks:=t' }:=
 I.write (x:=a) (e:=a) mu (.inl rfl) (fun b q hb z=>(hs.2 b hb).trans z) he new
theorem Zc5 {P:Program}{w:World}{H':Hp}{h':Heap}{kvs:List (Key×V)}{vs:List (Key×Value)}(z:kvs.length<=sizeLine)(hd:(a==sysModules)=false)(rel:KV kvs vs)(dd:h'.DictOf (Z1l P w) a vs):
  ObjOk P w H' h' a (.dK kvs):=⟨z,hd,vs,rel,dd⟩
theorem Zfa {H':Hp}{Q:Unit->Shared->Prop}(hu:A.units+1<cLine)(I:Inv X pins σ H s)(g:DPut H a y v H')(ry:RelV y u)(rv:RelV v r)(h:∀s',Inv X pins σ H' s'->Q () s'):
  wpAny (model X.prog X.w) A (setItem (.ref a) u r) Q E s:=by
 rcases g with ⟨kvs,k,e,ey,l,eH⟩|⟨kvs,k,b,e,ey,eb,l,eH⟩
 ·subst ey eH
  obtain⟨z,hd,vs,rel,dd⟩:=Zkm I.hok e
  have hz:vs.length<=sizeLine:=by rw[<- rel.length];exact z
  have hl:(Z3z kvs k v).length<=sizeLine:=by have:=Z2w kvs k v;omega
  refine wpAny_setItem_pairs (hsz:=hz) (Zdp ry) dd fun h' dd' hs=>h _ ?_
  have he:∃q,h'.get? a=some q:=let ⟨q,_,_,hq,_⟩:=dd';⟨q,hq⟩
  exact Z8i I (by rw[e];exact True.intro) hs he (Zc5 hl hd (rel.put k rv) dd')
 ·subst ey eH
  cases (show u=Value.ref b from ry)
  obtain⟨z,hd,xs,rel,dd⟩:=Zp4 I.hok e
  have hz:xs.length<=sizeLine:=by rw[<- Paired.length rel];exact z
  have hl:(Z3z kvs k v).length<=sizeLine:=by have:=Z2w kvs k v;omega
  refine wpAny_setItem_heap (hsz:=hz) (tupleKind_room_in1 hu) (Zc4 I.hok eb) dd fun h' dd' hs=>h _ ?_
  obtain⟨q,es,ep,hq,h2,h3,h4,_,h5⟩:=dd'
  refine Z8i I (by rw[e];exact True.intro) hs ⟨q,hq⟩ ⟨hl,hd,_,(rel.put k eb rv).keeps fun c ys ec=>?_,q,es,ep,hq,h2,h3,h4,h5⟩
  rw[Z0c (Z3c ec e (fun z=>nomatch z))]
  exact ec
end
def Zqc (i:Expr):Prop:=∀ov iv,subscripted i false ov iv=operate [ov,iv] (getItem ov iv)
theorem Zkn {prog:Program}{w:World}{A:Around}{E:Value->Shared->Prop}{s:Shared}{env:Env}{value slice:Expr}{pos:Pos}{T id:String}{Q:Value->Shared->Prop}
  (hl:typeLookup (.type T) "__getitem__"=pure (some (.builtin id))) (hs:Zqc slice)
  (h:wpAny (model prog w) A (eval value env) (fun o s₁=>wpAny (model prog w) A (eval slice env) (fun i s₂=>s₂.TypeIs o T/\wpAny (model prog w) A (getItem o i) Q E s₂) E s₁) E s):
  wpAny (model prog w) A (eval (.Subscript value slice pos) env) Q E s:=by
 refine Subscript_ (wpAny_mono h (fun o s₁ h₁=>wpAny_mono h₁ (fun i s₂ h₂=>?_) fun _ _ x=>x) fun _ _ x=>x)
 obtain⟨hT,h₂⟩:=h₂
 unfold subscriptTail
 refine wpAny_bind ?_
 rw[getitemInPython_of_ne hT.not_modules]
 refine wpAny_bind (wpAny_specialOf hT hl ?_)
 have fin:wpAny (model prog w) A (subscripted slice false o i) (fun r s₃=>wpAny (model prog w) A (letTemporaryGo value o r >>= fun _=>pure r) Q E s₃) E s₂:=by
  rw[hs o i]
  exact wpAny_operating (wpAny_mono h₂ (fun r s₃ h₃=>wpAny_bind (wpAny_letTemporaryGo (wpAny_pure h₃))) fun _ _ x=>x)
 first
  |exact wpAny_pure (wpAny_bind fin)
  |exact wpAny_bind (wpAny_pure (wpAny_bind fin))
  |exact wpAny_bind fin
theorem Zb2 {X:Cx}{pins:List (Addr×Obj)}{σ:St}{H:Hp}{s:Shared}{a:Addr}{y:V}{o:Option V}(I:Inv X pins σ H s)(g:DGet H a y o):s.TypeIs (.ref a) "dict":=by
 rcases g with ⟨kvs,k,e,_,_⟩|⟨kvs,k,b,e,_,_,_⟩
 ·obtain⟨_,_,vs,_,dd⟩:=Zdq I.hok e
  exact dd.typeIs
 ·obtain⟨_,_,xs,_,dd⟩:=Zf8 I.hok e
  exact dd.typeIs
def Zp5 (td ty:TE):TE:=fun σ H Q=>td σ H fun x H1=>ty σ H1 fun y H2=>∃a v,x = .ref a/\DGet H2 a y (some v)/\Q v H2
def Zp6 (td ty tv:TE):TS:=fun D σ H=>tv σ H fun v H1=>td σ H1 fun x H2=>ty σ H2 fun y H3=>∃a H4,x = .ref a/\DPut H3 a y v H4/\D.nx σ H4
section
variable {X:Cx}{o i e value:Expr}{pos pos' tpos:Pos}{td ty tv:TE}
theorem Z0t (hu:X.A.units+1<cLine)(ho:PE X o td)(hi:PE X i ty)(hs:Zqc i):PE X (.Subscript o i pos) (Zp5 td ty):=by
 intro pins s σ H Q I h
 refine Zkn PySem.F.slot_dict_getitem.lookup hs (thn (ho pins s σ H _ I h) fun u s1 ⟨x,H1,I1,rx,q1⟩=>thn (hi pins s1 σ H1 _ I1 q1) fun iv s2 ⟨y,H2,I2,ry,a,v,ex,g,q2⟩=>?_)
 subst ex
 obtain rfl:u=Value.ref a:=rx
 exact⟨Zb2 I2 g,Zf9 hu I2 g ry fun w' s3 I3 rw'=>⟨v,H2,I3,rw',q2⟩⟩
theorem Z2n (hu:X.A.units+1<cLine)(ho:PE X o td)(hi:PE X i ty)(hv:PE X value tv)(hs:swapsWith value (some (.Subscript o i pos')) pos.line X.env=pure false):
  PS X (.Assign [.Subscript o i pos'] value pos) (Zp6 td ty tv):=by
 intro pins s σ H D I h
 refine wpAny_Assign_Subscript (thn (hv pins s σ H _ I h) fun r s1 ⟨v,H1,I1,rv,q1⟩=>thn (ho pins s1 σ H1 _ I1 q1) fun u s2 ⟨x,H2,I2,rx,q2⟩=>thn (hi pins s2 σ H2 _ I2 q2) fun iv s3 ⟨y,H3,I3,ry,a,H4,ex,g,q3⟩=>?_) hs
 subst ex
 obtain rfl:u=Value.ref a:=rx
 exact Zfa hu I3 g ry rv fun s4 I4=>⟨σ,H4,I4,q3⟩
end
theorem Zc6 {P:Program}{w:World}{H:Hp}(h:Heap)(hb:sysModules<h.objs.size):ObjOk P w H (h.push { cls:=.type "dict",data:=.dict #[] }) h.objs.size (.dK []):=
 ⟨Nat.zero_le _,beq_eq_false_iff_ne.mpr (Ne.symm (Nat.ne_of_lt hb)),[],.nil,Heap.DictOf.new h⟩
def tDNewK:TE:=fun _ H Q=>∀p,H p=none->Q (.ref p) (upd H p (.dK []))
section
variable {X:Cx}{pos:Pos}
theorem Z6b:PE X (.Dict [] [] pos) tDNewK:=fun pins s σ H Q I h=>
 wpAny_Dict_empty ⟨.ref s.heap.objs.size,_,I.laid (a:=s.heap.objs.size) (o:=.dK []) (t':=s.toks) (fun _ _ q=>Heap.get?_push_of_some _ q) (Nat.le_refl _) (Zc6 s.heap I.big),rfl,h _ (I.hok.fresh (Nat.le_refl _))⟩
end
def Zfb:List (TE×TE)->St->Hp->(List (V×V)->Hp->Prop)->Prop
 |[],_,H,Q=>Q [] H
 | (tk,tv)::r,σ,H,Q=>tk σ H fun x H1=>tv σ H1 fun y H2=>Zfb r σ H2 fun ps H3=>Q ((x,y)::ps) H3
abbrev VV:List (V×V)->List (Value×Value)->Prop:=Paired fun p q=>RelV p.1 q.1/\RelV p.2 q.2
def PPs (X:Cx)(pos:Pos)(keys:List (Option Expr))(values:List Expr)(trs:List (TE×TE)):Prop:=
 ∀(pins:List (Addr×Obj)) (s:Shared) (σ:St) (H:Hp) (Q:List (V×V)->Hp->Prop),Inv X pins σ H s->Zfb trs σ H Q →
  wpAny (model X.prog X.w) X.A (evalPairs (pairTrees keys values X.env pos)) (fun vs s'=>∃ps H',Inv X pins σ H' s'/\VV ps vs/\Q ps H') X.xe s
theorem Zfc {X:Cx}{pos:Pos}:PPs X pos [] [] []:=fun pins s σ H Q I h=>pairTrees_nil_walk ⟨[],H,I,.nil,h⟩
theorem Z29 {X:Cx}{pos:Pos}{k v:Expr}{ks:List (Option Expr)}{vs:List Expr}{tk tv:TE}{trs:List (TE×TE)}(hk:PE X k tk)(hv:PE X v tv)(hr:PPs X pos ks vs trs):
  PPs X pos (some k::ks) (v::vs) ((tk,tv)::trs):=fun pins s σ H Q I h=>
 pairTrees_cons_walk (thn (hk pins s σ H _ I h) fun u s1 ⟨x,H1,I1,rx,q1⟩=>thn (hv pins s1 σ H1 _ I1 q1) fun w2 s2 ⟨y,H2,I2,ry,q2⟩=>
  thn (hr pins s2 σ H2 _ I2 q2) fun ws s3 ⟨ps,H3,I3,rel,q3⟩=>⟨(x,y)::ps,H3,I3,.cons ⟨rx,ry⟩ rel,q3⟩)
def Z6k (kvs more:List (Key×V)):List (Key×V):=more.foldl (fun acc kv=>Z3z acc kv.1 kv.2) kvs
theorem KV.merge:∀{more:List (Key×V)} {rs:List (Key×Value)} {kvs:List (Key×V)} {vs:List (Key×Value)},KV more rs->KV kvs vs->KV (Z6k kvs more) (merged vs rs):=by
 intro more rs kvs vs r
 unfold KV at r
 induction r generalizing kvs vs with
 |nil=>intro q;exact q
 | @cons p q ps qs h t ih=>
  intro r0
  have e:KV (Z3z kvs p.1 p.2) (stored vs q.1 q.2):=by
   have:=r0.put p.1 h.2
   rw[<- h.1];exact this
  exact ih e
theorem Z50:∀(more kvs:List (Key×V)),(Z6k kvs more).length<=kvs.length+more.length
 |[],kvs=>by show kvs.length<=kvs.length+0;omega
 |p::r,kvs=>by
  have h1:=Z50 r (Z3z kvs p.1 p.2)
  have h2:=Z2w kvs p.1 p.2
  show(Z6k (Z3z kvs p.1 p.2) r).length<=_
  rw[length_cons];omega
theorem Z7o {P:Program}{w:World}:∀{kvs:List (Key×V)} {ws:List (Value×Value)},VV (kvs.map fun kv=>(kV kv.1,kv.2)) ws->∃rs,Carries (Z1l P w) ws rs/\KV kvs rs
 |[],_,r=>by rw[map_nil] at r;cases r;exact⟨[],True.intro,.nil⟩
 |p::kvs,_,r=>by
  rw[map_cons] at r
  cases r with
  | @cons a b as bs h t=>
   obtain⟨rs,c,q⟩:=Z7o (P:=P) (w:=w) t
   obtain⟨b1,b2⟩:=b
   exact⟨(p.1,b2)::rs,⟨Zdp h.1,rfl,c⟩,.cons ⟨rfl,h.2⟩ q⟩
def Zp7 (trs:List (TE×TE)):TE:=fun σ H Q=>∀p,H p=none->Zfb trs σ (upd H p (.dK [])) fun ps H2=>H2 p=some (.dK [])/\∃kvs:List (Key×V),ps=kvs.map (fun kv=>(kV kv.1,kv.2))/\kvs.length<=15/\Q (.ref p) (upd H2 p (.dK (Z6k [] kvs)))
theorem Zfd {X:Cx}{pos:Pos}{keys:List (Option Expr)}{values:List Expr}{trs:List (TE×TE)}(h:PPs X pos keys values trs)(hall:keys.all (·.isSome)=true)(hl:keys.length=values.length)(h0:keys ≠ [])
  (h15:keys.length<=15):PE X (.Dict keys values pos) (Zp7 trs):=by
 intro pins s σ H Q I q
 have hn:=I.hok.fresh (Nat.le_refl s.heap.objs.size)
 have I1:=I.laid (a:=s.heap.objs.size) (o:=.dK []) (h':=s.heap.push { cls:=.type "dict",data:=.dict #[] }) (t':=s.toks) (fun _ _ q=>Heap.get?_push_of_some _ q) (Nat.le_refl _) (Zc6 s.heap I.big)
 refine wpAny_Dict_walk (knd:=Z1l X.prog X.w) hall hl h0 h15 (thn (h pins _ σ _ _ I1 (q _ hn)) fun ws s2 ⟨ps,H2,I2,rel,e,kvs,ep,lk,q2⟩=>?_)
 subst ep
 obtain⟨rs,c,rk⟩:=Z7o (P:=X.prog) (w:=X.w) rel
 obtain⟨z,hd,vs0,r0,dd⟩:=Zkm I2.hok e
 cases r0
 refine⟨rs,c,dd,fun h' dd' hs=>⟨.ref s.heap.objs.size,_,?_,rfl,q2⟩⟩
 have hz:(Z6k [] kvs).length<=sizeLine:=by
  have h1:=Z50 kvs []
  rw[length_nil] at h1
  rw[sizeLine_eq];omega
 have he:∃q,h'.get? s.heap.objs.size=some q:=let ⟨q,_,_,hq,_⟩:=dd';⟨q,hq⟩
 exact Z8i I2 (by rw[e];exact True.intro) hs he (Zc5 hz hd (rk.merge .nil) dd')
structure M1 (X:Cx)(o:Expr)(m:Str)(apos:Pos)(e:Expr)(cpos:Pos):Prop where
 base:attributeBase o m X.env (eval o X.env)=eval o X.env
 few:((backTo cpos (starEach [e] X.env)).all (fun x => !x.1)&&(backToKw cpos (keywordEach [] X.env)).all (fun x=>x.1.isSome)
  && decide (([e]:List Expr).length+([]:List Keyword).length+(if ([]:List Keyword).isEmpty then 0 else 1)<30))=true
 line:(apos.endLine==cpos.line)=true
 trees:backTo cpos (starEach [e] X.env) = [(false,eval e X.env)]
structure M2 (X:Cx)(o:Expr)(m:Str)(apos:Pos)(e f:Expr)(cpos:Pos):Prop where
 base:attributeBase o m X.env (eval o X.env)=eval o X.env
 few:((backTo cpos (starEach [e,f] X.env)).all (fun x => !x.1)&&(backToKw cpos (keywordEach [] X.env)).all (fun x=>x.1.isSome)
  && decide (([e,f]:List Expr).length+([]:List Keyword).length+(if ([]:List Keyword).isEmpty then 0 else 1)<30))=true
 line:(apos.endLine==cpos.line)=true
 trees:backTo cpos (starEach [e,f] X.env) = [(false,eval e X.env),(false,eval f X.env)]
def IsD (H:Hp)(a:Addr):Prop:=(∃kvs,Rd H a (.dK kvs))∨∃kvs,Rd H a (.dT kvs)
theorem Zjz {X:Cx}{pins:List (Addr×Obj)}{σ:St}{H:Hp}{s:Shared}{a:Addr}(I:Inv X pins σ H s)(d:IsD H a):
  s.TypeIs (.ref a) "dict"/\(∀b,Value.ref a = .ref b->∃ob,s.heap.get? b=some ob/\ob.dict=none)/\(a==sysModules)=false:=by
 rcases d with ⟨kvs,e⟩|⟨kvs,e⟩
 ·obtain⟨_,hd,vs,_,dd⟩:=Zdq I.hok e
  refine⟨dd.typeIs,fun b q=>?_,hd⟩
  cases q
  obtain⟨ob,_,_,h1,h2,_⟩:=dd
  exact⟨ob,h1,h2.2.1⟩
 ·obtain⟨_,hd,xs,_,dd⟩:=Zf8 I.hok e
  refine⟨dd.typeIs,fun b q=>?_,hd⟩
  cases q
  obtain⟨ob,_,_,h1,h2,_⟩:=dd
  exact⟨ob,h1,h2.2.1⟩
section
variable {X:Cx}{pins:List (Addr×Obj)}{σ:St}{H:Hp}{s:Shared}{a:Addr}{y d:V}{u r:Value}{o:Option V}{A:Around}{E:Value->Shared->Prop}
theorem Zn5 {Q:Value->Shared->Prop}(hu:A.units+1<cLine)(I:Inv X pins σ H s)(g:DGet H a y o)(ry:RelV y u)(h:∀w' s',Inv X pins σ H s'->RelV (o.getD .non) w'->Q w' s'):
  wpAny (model X.prog X.w) A (call (.builtin "dict.get") [.ref a,u]) Q E s:=by
 rcases g with ⟨kvs,k,e,ey,l⟩|⟨kvs,k,b,e,ey,eb,l⟩
 ·subst ey
  obtain⟨z,hd,vs,rel,dd⟩:=Zdq I.hok e
  refine call_meetsIn PySem.F.slot_dict_get dd.typeIs PySem.F.entry_dict_get (PySem.F.args_dict_get_2 _ _) (meets_dict_get (Z1l X.prog X.w) a (Zdp ry) hd) ⟨_,dd.mapOf,h _ _ (I.tok _) ?_⟩
  rw[l]
  exact(rel.val k).getD rfl
 ·subst ey
  cases (show u=Value.ref b from ry)
  obtain⟨z,hd,xs,rel,dd⟩:=Zf8 I.hok e
  refine call_meetsIn PySem.F.slot_dict_get dd.typeIs PySem.F.entry_dict_get (PySem.F.args_dict_get_2 _ _) (meetsH_dict_get (tupleKind (Z1l X.prog X.w)) a b hd) ⟨tupleKind_room_in1 hu,k,xs,Zc4 I.hok eb,dd,h _ _ (I.tok _) ?_⟩
  rw[l]
  exact(rel.val k).getD rfl
end
def Zn6 (td ty:TE):TE:=fun σ H Q=>td σ H fun x H1=>∃a,x = .ref a/\IsD H1 a/\ty σ H1 fun y H2=>∃o,DGet H2 a y o/\Q (o.getD .non) H2
section
variable {X:Cx}{o e f:Expr}{apos cpos:Pos}{td ty tx:TE}
theorem Zi0 (hu:X.A.units+1<cLine)(ho:PE X o td)(he:PE X e ty)(m:M1 X o "get" apos e cpos):PE X (.Call (.Attribute o "get" apos) [e] [] cpos) (Zn6 td ty):=by
 intro pins s σ H Q I h
 refine wpAny_Call_method m.base m.few m.line PySem.F.plainAttrs_dict PySem.F.slot_dict_get PySem.F.type_dict_get (thn (ho pins s σ H _ I h) fun u s1 ⟨x,H1,I1,rx,a,ex,d,q1⟩=>?_)
 subst ex
 obtain rfl:u=Value.ref a:=rx
 obtain⟨t1,t2,_⟩:=Zjz I1 d
 refine⟨t1,t2,?_⟩
 rw[m.trees]
 refine Calls.callWith_builtin rfl (Calls.evalArgs_plain (Calls.spliced_cons (thn (he pins s1 σ H1 _ I1 q1) fun iv s2 ⟨y,H2,I2,ry,ov,g,q2⟩=>Calls.spliced_nil ?_)))
 exact Zn5 hu I2 g ry fun w' s3 I3 rw'=>⟨_,H2,I3,rw',q2⟩
end
section
variable {X:Cx}{pins:List (Addr×Obj)}{σ:St}{H:Hp}{s:Shared}{a:Addr}{kvs:List (Key×V)}{A:Around}{E:Value->Shared->Prop}
theorem Zi1 {Q:Value->Shared->Prop}(I:Inv X pins σ H s)(e:Rd H a (.dK kvs))(h:∀p s',H p=none->Inv X pins σ (upd H p (.dK kvs)) s'->Q (.ref p) s'):wpAny (model X.prog X.w) A (call (.type "dict") [.ref a]) Q E s:=by
 obtain⟨z,hd,vs,rel,dd⟩:=Zdq I.hok e
 refine kt_call_dict hd dd (by rw[<- rel.length];exact z) fun h' dd' hs=>?_
 refine h _ _ (I.hok.fresh (Nat.le_refl _)) (I.laid (a:=s.heap.objs.size) (o:=.dK kvs) (t':=s.toks) (fun b q hq=>?_) (Nat.le_refl _) (Zc5 z (beq_eq_false_iff_ne.mpr (Ne.symm (Nat.ne_of_lt I.big))) rel dd'))
 exact(hs.2 b (Nat.ne_of_lt (Heap.lt_size hq))).trans (Heap.get?_push_of_some _ hq)
end
end L2
namespace Att
open PySem PySem.W PySem.Calls PyProof.Rows
theorem Z6l {P:Params}{h:Heap}:∀(ns:List Int) (vs:List Value),WellAll P h vs (ns.map WData.int)->IntsAre vs ns:=by
 intro ns
 induction ns with
 |nil=>
  intro vs w
  rw[map_nil] at w
  cases w
  exact .nil
 |cons n ns ih=>
  intro vs w
  rw[map_cons] at w
  cases w with
  |cons a b=>
   cases a
   exact .cons _ _ (ih _ b)
theorem Zfe {l:OpenLaw}{n:Nat}(hn:l.most=some n){P:Params}{h:Heap}{args:List WData}{vals:List Value}
  (hpre:l.row.toRowW.claim.pre args=true) (hwl:WellAll P h vals args):
  ∃a vs ns,vals = [Value.ref a]/\args = [WData.list (ns.map WData.int)]/\h.get? a=some { cls:=.type "list",data:=.seq vs.toArray }/\IntsAre vs ns/\ns.length<=n:=by
 have hsh:WShape.hasAll [] args [.list .int]=true:=(pre_splitW hpre).1
 have hc:l.pre.holds [] { args:=args }=true:=(pre_splitW hpre).2
 obtain⟨d,r,rfl,h1,h2⟩:=hasAllW_cons hsh
 obtain rfl:=hasAllW_nil h2
 obtain⟨xs,rfl,h3⟩:=hasW_list h1
 obtain⟨ns,rfl⟩:=items_int h3
 have hlen:ns.length<=n:=by
  unfold OpenLaw.pre at hc
  have h4:(WTm.not (.lt (.lit (.int (n:Int))) (.len (.arg 0)))).holds [] { args:=[.list (ns.map .int)] }=true:=by
   have h4:=(holds_andW hc).1
   rw[hn] at h4
   exact h4
  have h5:=condW_of h4 (w_not (w_lt w_lit (w_len_list (w_arg rfl))))
  rw[length_map] at h5
  refine Nat.le_of_not_lt fun q=>?_
  have q':(n:Int)<((ns.length:Nat):Int):=by omega
  first
   | (rw[decide_eq_true q'] at h5;exact absurd h5 (by decide))
   | (simp at h5;omega)
 cases hwl with
 |cons w1 w2=>
  cases w2
  cases w1 with
  |list ho hall=>exact⟨_,_,ns,rfl,rfl,ho,Z6l ns _ hall,hlen⟩
theorem Zff (l:OpenLaw)(args:List WData):l.row.toRowW.claim.post args (.bool true) args=true:=
 postW_of (r:=l.row.toRowW) (X:=(true==true))
  (show WShape.has [] (.bool true) .bool=true by first|rfl|decide|simp [WShape.has,WShape.arms,WShape.armsAll])
  (show(WTm.eq .res (.lit (.bool true))).value [] { args:=args,res:=some (.bool true),after:=args }=some (.bool (true==true)) from w_eq_bool (w_res rfl) w_lit) rfl
theorem attach_call {l:OpenLaw}{n:Nat}{q:Program}{loose:List Str}{XP:(Str->Option Value)->Heap->Prop}{YP:World->Heap->Prop}{d:DefRec}
  (hn:l.most=some n) (hdf:d.params.defaults = [])
  (call:∀(w:World) (s₀ s₁:Shared) (mg mb:Str->Option Value) (fa:Addr) (o:Obj) (pm cd doc:Value) (a:Addr) (vs:List Value) (ns:List Int),
   Ground q loose [] XP w s₀ mg mb s₁.heap->YP w s₁.heap →
   s₁.heap.get? fa=some o->o.data = .func (docDef d.name d.params d.body d.scope pm cd doc)->s₁.heap.CodeRec cd d.name->mg d.name=some (.ref fa) →
   s₁.heap.get? a=some { cls:=.type "list",data:=.seq vs.toArray }->IntsAre vs ns->ns.length<=n->s₁.gens = #[] →
   codeAny (model l.prog w) callerA (.call (.ref fa) ⟨[.ref a],[]⟩) (fun r s'=>r = .ok (.ret (.bool true))/\OldK s₁.heap s'.heap/\s'.os=s₁.os/\AllBare s'.gens) s₁):
  WalkO q loose XP YP l.row.toRowW d [] (fun f vs=>PySem.call f vs):=by
 intro w s₀ s₁ mg mb G Y fa o pm cd doc dV kV ho hd hcd hD hmg hg args vals as hpre hlay hrd hwl hlo
 obtain rfl:dV = .none:=Dflts.none hD hdf
 obtain rfl:kV = .none:=Dflts.noKw hD
 obtain⟨a,vs,ns,rfl,rfl,hobj,hints,hlen⟩:=Zfe hn hpre hwl
 refine enter_call (codeAny_mono (call w s₀ s₁ mg mb fa o pm cd doc a vs ns G Y ho (fd_plain hd) hcd hmg hobj hints hlen hg) fun r s' hq=>?_)
 obtain⟨rfl,h2,h3,h4⟩:=hq
 exact⟨.inl ⟨.bool true,.bool true,[],rfl,fun _=>rfl,.bool true,Zff l _,fun _=>⟨List.Pairwise.nil,fun _ hm=>(nomatch hm)⟩⟩,h2,h3,h4⟩
end Att
namespace L2
open PySem PySem.Spec PyProof.Rows
theorem Za1:∀{vs:List Value} {ns:List Int},IntsAre vs ns->Vals (ns.map V.int) vs
 |_,_,.nil=>.nil
 |_,_,.cons n t h=>.cons ⟨t,rfl⟩ (Za1 h)
def Zp8 (H:Hp):Prop:=∀b,H b=none∨∃o xs,H b=some (.frz o (.lst xs))
theorem Zi2 {P:Program}{w:World}{K:W.Frag}{mg mb:Str->Option Value}{CX:CXT}{k:Nat}{fa a:Addr}{fd:FuncData}{x:Str}{sp:Sp}{s₁:Shared}{vs:List Value}{ns:List Int}
  (KX:K.In s₁.heap) (hns:s₁.heap.Ns mainGlobals mg) (hb:s₁.heap.Ns builtinsNs mb) (hbb:∀x:Str,x≠"__name__"->mb x=bootBuiltins x) (hlim:s₁.heap.NoLimit) (hg:s₁.gens = #[])
  (ha:s₁.heap.get? a=some { cls:=.type "list",data:=.seq vs.toArray }) (hi:IntsAre vs ns) (hl:ns.length<=sizeLine) (hr:Room k callerA)
  (F:∀base:Heap,K.In base->base.Ns mainGlobals mg->FnOk P w K mg base CX k fa fd [x] sp) (hbind:∀(s:Shared) (u:Value),BindsTo s fd ⟨[u],[]⟩ [(x,u)])
  (hsp:∀H:Hp,Zp8 H->SqL K H a (ns.map V.int)->sp [.ref a] H (fun v _=>v = .bl true) fun _ _ _=>False)
  (hCX:∀H e s',CX [] H s₁ (fun _ _ _=>False) e s'->False):
  codeAny (model P w) callerA (.call (.ref fa) ⟨[.ref a],[]⟩) (fun r s'=>r = .ok (.ret (.bool true))/\OldK s₁.heap s'.heap/\s'.os=s₁.os/\AllBare s'.gens) s₁:=by
 have rv:=Za1 hi
 have lenV:=hi.length
 have core:∀H:Hp,Zp8 H->SqL K H a (ns.map V.int)->HOk P w H s₁.heap->(∀b,H b≠none->b=a)->(H a≠none->K.lookup a=none) →
   codeAny (model P w) callerA (.call (.ref fa) ⟨[.ref a],[]⟩) (fun r s'=>r = .ok (.ret (.bool true))/\OldK s₁.heap s'.heap/\s'.os=s₁.os/\AllBare s'.gens) s₁:=by
  intro H hO hS hok hA hK
  have base_of:∀{b:Addr} {o:Obj},s₁.heap.get? b=some o->H b=none->(Zho s₁.heap H).get? b=some o:=fun e n=>Zhp e n
  have noA:∀{b:Addr} {o:Obj} {es:Array DictEntry} {ep:Nat},s₁.heap.get? b=some o->o.data = .dict es ep->H b=none:=fun {b o es ep} e d=>by
   cases q:H b with
   |none=>rfl
   |some u=>
    have e':b=a:=hA b (by rw[q];simp)
    subst e'
    rw[ha] at e;cases e
    have d':Data.seq vs.toArray _=Data.dict es ep:=d
    cases d'
  have nsK:∀{b:Addr} {m:Str->Option Value},s₁.heap.Ns b m->(Zho s₁.heap H).Ns b m:=fun {b m} ⟨o,es,ep,e,d,r⟩=>⟨o,es,ep,base_of e (noA e d),d,r⟩
  have hKb:K.In (Zho s₁.heap H):=fun b o e=>base_of (KX b o e) (by
   cases q:H b with
   |none=>rfl
   |some u=>
    have e':b=a:=hA b (by rw[q];simp)
    subst e'
    rw[hK (by rw[q];simp)] at e;cases e)
  have hM:Mod K mg (Zho s₁.heap H):=⟨hKb,nsK hns,⟨mb,nsK hb,hbb⟩,let ⟨mc,h1,h2⟩:=hlim;⟨mc,nsK h1,h2⟩⟩
  have e0:Env0 P w K mg (Zho s₁.heap H) callerA [] s₁ H:=⟨rfl,hM,fun b o e=>Zkh e,Nat.le_of_eq (Zer _ _),trivial,fun b hb=>absurd (show b∈([]:List Addr) from hb) (by simp),hok,.of_eq hg⟩
  refine codeAny_mono ((F _ hKb (nsK hns)).run callerA [] s₁ H ⟨[.ref a],[]⟩ [.ref a] [.ref a] _ _ hr e0 (hbind s₁ (.ref a)) (.cons rfl .nil) (hsp H hO hS)) fun r s' h=>?_
  cases r with
  |error e=>exact(hCX H e s' h).elim
  |ok fl=>
   cases fl with
   |next=>exact False.elim h
   |brk=>exact False.elim h
   |cont=>exact False.elim h
   |ret u=>
    obtain⟨v,H',os,bare,un,hok',r',q⟩:=h
    have q':v = .bl true:=q
    subst q'
    obtain rfl:u=Value.bool true:=r'
    refine⟨rfl,OldK.of_keep fun b o e=>?_,os,bare⟩
    cases q:H b with
    |none=>exact un.keep b o e q (by intro z;exact absurd (show b∈([]:List Addr) from z) (by simp)) (by simp)
    |some u=>
     rcases hO b with z|⟨ob,xs,z⟩
     ·rw[q] at z;cases z
     ·have z2:=un.frzs b ob _ z
      obtain⟨e1,_⟩:=hok b _ z
      obtain⟨e2,_⟩:=hok' b _ z2
      rw[e] at e1;cases e1
      exact e2
 cases hk:K.lookup a with
 |some o=>
  have e:=KX a o hk
  rw[ha] at e
  cases e
  refine core (fun _=>none) (fun _=>.inl rfl) (.inr ⟨_,vs.toArray,_,hk,rfl,rfl,rfl,by rw[size_toArray,lenV];exact hl,by simpa using rv⟩) (fun b u z=>by have z':(none:Option HO)=some u:=z;cases z') (fun b z=>absurd rfl z) fun z=>absurd rfl z
 |none=>
  refine core (fun b=>if b=a then some (.frz { cls:=.type "list",data:=.seq vs.toArray } (.lst (ns.map V.int))) else none) (fun b=>?_) (.inl (.inr ⟨{ cls:=.type "list",data:=.seq vs.toArray },if_pos rfl⟩)) (fun b u z=>?_) (fun b z=>?_) fun _=>hk
  ·by_cases hb:b=a
   ·exact .inr ⟨_,_,if_pos hb⟩
   ·exact .inl (if_neg hb)
  ·by_cases hb:b=a
   ·have z':=(if_pos hb).symm.trans z
    cases z'
    subst hb
    exact⟨ha,by rw[length_map];exact hl,vs,_,rv,ha⟩
   ·have z':=(if_neg hb).symm.trans z
    cases z'
  ·by_cases hb:b=a
   ·exact hb
   ·exact absurd (if_neg hb) z
theorem walk_of {l:PySem.W.OpenLaw}{n k:Nat}{q:Program}{loose:List Str}{XP:(Str->Option Value)->Heap->Prop}{YP:World->Heap->Prop}{d:DefRec}{K:Params->W.Frag}{CX:World->CXT}{sp:World->Sp}{x:Str}
  (hn:l.most=some n) (hn2:n<=sizeLine) (hdf:d.params.defaults = []) (hr:Room k callerA)
  (hY:∀(w:World) (h:Heap),YP w h->(K w.params).In h)
  (F:∀(w:World) (mg:Str->Option Value) (fa:Addr) (h:Heap),(K w.params).In h->h.Ns mainGlobals mg->mg d.name=some (.ref fa) →
   ∃fd:FuncData,(∀(s:Shared) (u:Value),BindsTo s fd ⟨[u],[]⟩ [(x,u)]) ∧
    ∀base:Heap,(K w.params).In base->base.Ns mainGlobals mg->FnOk l.prog w (K w.params) mg base (CX w) k fa fd [x] (sp w))
  (hsp:∀(w:World) (H:Hp) (a:Addr) (ns:List Int),ns.length<=n->Zp8 H->SqL (K w.params) H a (ns.map V.int)->sp w [.ref a] H (fun v _=>v = .bl true) fun _ _ _=>False)
  (hCX:∀(w:World) (H:Hp) (s:Shared) (e:Value) (s':Shared),CX w [] H s (fun _ _ _=>False) e s'->False):
  PySem.W.WalkO q loose XP YP l.row.toRowW d [] (fun f vs=>PySem.call f vs):=by
 refine Att.attach_call hn hdf fun w s₀ s₁ mg mb fa o pm cd doc a vs ns G Y ho hd hcd hmg hobj hints hlen hg=>?_
 have KX:=hY w _ Y
 obtain⟨fd,hb,hF⟩:=F w mg fa _ KX G.T.g hmg
 exact Zi2 KX G.T.g G.T.b G.T.builtins G.T.nolimit hg hobj hints (Nat.le_trans hlen hn2) hr hF hb (fun H hO hS=>hsp w H a ns hlen hO hS) fun H e s'=>hCX w H s₁ e s'
abbrev CX0:CXT:=fun _ _ _ _ _ _=>False
abbrev E0:XK:=fun _ _ _=>False
theorem Z0f {X:Cx}:Zf3 CX0 X E0:=fun _ _ _ _ _ _ _ h=>h.elim
structure Fun (K:W.Frag)(x qual:Str)(st:Stmt)(f:Addr)(fd:FuncData):Prop where
 ex:∃(oc:Value) (od:Option Addr) (kV doc pm:Value) (an:Option Addr) (cdv ct:Value) (osl:Array (Option Value)),
  fd=PySem.W.fnOf x qual (Z0o st) (Z0n st) (Z04 st) .none kV doc pm an cdv ct/\K.lookup f=some ⟨oc,od,.func fd,osl⟩/\PySem.W.codeIn K cdv qual=true
 kp:PySem.W.keepIn K (.ref f)=true
section
variable {P:Program}{w:World}{K:W.Frag}{mg:Str->Option Value}{base:Heap}
theorem Fun.ok {x qual:Str}{st:Stmt}{f:Addr}{fd:FuncData}{N ps:List Str}{k:Nat}{sp:Sp}(F:Fun K x qual st f fd)(S:FnScope N ps (Z04 st))(len:∀vs H Q E,sp vs H Q E->vs.length=ps.length)
  (hbody:∀(cdv:Value) (A:Around) (outer:List Env) (s:Shared) (H:Hp) (vs:List V) (Q:VK) (E:XK),Room k (A.deeper (envOfC qual (Z04 st) s.heap.objs.size f cdv))->sp vs H Q E →
   ∃t,PSs (Zhv CX0 P w K mg base N qual (Z04 st) f cdv A outer s H E).nox (Z0n st) t/\t { nx:=fun _ H'=>Q .non H',rt:=Q } (Z9u N vs) H):FnOk P w K mg base CX0 (k+1) f fd ps sp:=by
 obtain⟨oc,od,kV,doc,pm,an,cdv,ct,osl,rfl,lk,hcd⟩:=F.ex
 refine Zp2 lk hcd S len fun A outer s H vs Q E hr hsp=>?_
 obtain⟨t,h,q⟩:=hbody cdv A outer s H vs Q E hr hsp
 exact⟨t,h.nox,q⟩
theorem Fun.binds {x qual:Str}{st:Stmt}{f:Addr}{fd:FuncData}{ps:List Str}(F:Fun K x qual st f fd)
  (h:∀(kV doc pm:Value) (an:Option Addr) (cdv ct:Value) (us:List Value),us.length=ps.length->bindArgs (PySem.W.fnOf x qual (Z0o st) (Z0n st) (Z04 st) .none kV doc pm an cdv ct) ⟨us,[]⟩=pure (ps.zip us)):Binds K fd ps []:=by
 obtain⟨oc,od,kV,doc,pm,an,cdv,ct,osl,rfl,lk,hcd⟩:=F.ex
 exact .all (h kV doc pm an cdv ct)
theorem Z0z {x qual:Str}{st:Stmt}{f:Addr}{oc:Value}{od an:Option Addr}{osl:Array (Option Value)}{kV doc pm cdv ct:Value}(l:K.lookup f=some ⟨oc,od,.func (PySem.W.fnOf x qual (Z0o st) (Z0n st) (Z04 st) .none kV doc pm an cdv ct),osl⟩)
  (c:PySem.W.codeIn K cdv qual=true) (k:PySem.W.keepIn K (.ref f)=true):Fun K x qual st f (PySem.W.fnOf x qual (Z0o st) (Z0n st) (Z04 st) .none kV doc pm an cdv ct):=⟨⟨oc,od,kV,doc,pm,an,cdv,ct,osl,rfl,l,c⟩,k⟩
end
theorem Zb3 {A:Around}{k:Nat}(hr:Room k A):A.units+1<cLine:=Nat.lt_of_le_of_lt (Nat.add_le_add_left (by decide:1<=64) _) hr.units
section
variable {X:Cx}
theorem pv (i:Nat){x:Str}{pos:Pos}(hN:X.N[i]? = some x:=by rfl)(hv:Vis X.env.scope x:=by first|exact Or.inl rfl|exact Or.inr (Or.inl rfl)|exact Or.inr (Or.inr rfl))(hd:(x==("__debug__":Str))=false:=by decide)
  (hcd:(x==("__classdict__":Str))=false:=by decide):PE X (.Name x pos) (tVar i):=Zmp hN hv hd hcd
end
theorem Za2 {A B:Prop}(h:B):if false=true then A else B:=by
 rw[if_neg Bool.false_ne_true]
 exact h
theorem Zc7 {A B:Prop}(h:A):if true=true then A else B:=by
 rw[if_pos rfl]
 exact h
theorem Z1e {c A B:Prop}[Decidable c](h1:c->A)(h2:¬c->B):if c then A else B:=by
 by_cases h:c
 ·rw[if_pos h]
  exact h1 h
 ·rw[if_neg h]
  exact h2 h
def Same (H H':Hp):Prop:=∀b o,H b=some o->H' b=some o
theorem Same.refl (H:Hp):Same H H:=fun _ _ h=>h
theorem Same.trans {H H1 H2:Hp}(a:Same H H1)(b:Same H1 H2):Same H H2:=fun c o h=>b c o (a c o h)
theorem Same.seq {K:W.Frag}{H H':Hp}{a:Addr}{xs:List V}(e:Same H H')(h:SqL K H a xs):SqL K H' a xs:=by
 rcases h with (h|⟨o,h⟩)|h
 ·exact .inl (.inl (e _ _ h))
 ·exact .inl (.inr ⟨o,e _ _ h⟩)
 ·exact .inr h
section
variable {prog:Program}{w:World}{A:Around}{E:Value->Shared->Prop}{R:Result->Shared->Prop}{s:Shared}
theorem Za3 {elt target iter:Expr}{ifs:List Expr}{scope:Scope}{pos:Pos}{it acc:Value}{env:Env}(I:Nat->Shared->Prop)
  (turn:∀n s,I n s->wpAny (model prog w) A (pyNext it) (fun r s1=>match r with
   |none=>R (.ok .next) s1
   |some v=>wpAny (model prog w) A (letOwnedTupleGo target it v) (fun _ s1'=>wpAny (model prog w) A (assign target env v) (fun _ s2=>
     wpAny (model prog w) A (forIn ifs true fun c r=>if r=true then do let ok ← isTrue c env (eval c env);pure (ForInStep.yield ok) else pure (ForInStep.yield r)) (fun ok s3=>
      if ok=true then wpAny (model prog w) A (eval elt env) (fun x s4=>
       wpAny (model prog w) A (call (.builtin "list.append") [acc,x]) (fun _ s5=>∃m,m<n/\I m s5) (fun _ _=>False) s4) (fun _ _=>False) s3
      else ∃m,m<n/\I m s3) (fun _ _=>False) s2) (fun _ _=>False) s1') (fun _ _=>False) s1) (fun _ _=>False) s)
  (n:Nat) (h:I n s):
  codeAny (model prog w) A (.compLoop (.ListComp elt [⟨target,iter,ifs,0⟩] scope pos) 0 it acc env) R s:=by
 refine codeAny_loop rfl I (fun n s hI=>?_) n h
 show wpAny _ A ((compTurn (.ListComp elt [⟨target,iter,ifs,0⟩] scope pos) 0 it acc env).onRaise (fun x=>do noteFrame x env;theTreesLotGoes x)) _ _ s
 refine wpAny_noted ?_
 rw[compTurn_list]
 refine wpAny_bind (wpAny_standAt (wpAny_bind (wpAny_mono (turn n s hI) (fun r s₁ h₁=>?_) fun _ _ h'=>h'.elim)))
 cases r with
 |none=>exact wpAny_pure h₁
 |some v=>
  refine wpAny_bind (wpAny_mono h₁ (fun _ s1' h1'=>?_) fun _ _ h'=>h'.elim)
  refine wpAny_bind (wpAny_mono h1' (fun _ s₂ h₂=>wpAny_bind (wpAny_mono h₂ (fun ok s₃ h₃=>?_) fun _ _ h'=>h'.elim)) fun _ _ h'=>h'.elim)
  cases ok with
  |false=>exact wpAny_pure ⟨rfl,h₃⟩
  |true=>
   exact wpAny_bind (wpAny_bind (wpAny_mono h₃ (fun x s₄ h₄=>wpAny_bind (wpAny_mono h₄ (fun _ s₅ h₅=>wpAny_pure (wpAny_pure ⟨rfl,h₅⟩)) fun _ _ h'=>h'.elim)) fun _ _ h'=>h'.elim))
end
theorem Z5l {env:Env}:∀(names:List (Str×NameKind)) (cs:List (Str×Addr)),(∀n,(n,NameKind.free)∈names->∃c,env.cells.lookup n=some c) →
  ∃cl,(forIn names cs fun(x:Str×NameKind) (r:List (Str×Addr))=>match x with
   | (name,kind)=>if (kind==NameKind.free)=true then do let c ← cellOf env name;pure (ForInStep.yield ((name,c)::r)) else pure (ForInStep.yield r):Sem (List (Str×Addr)))=pure cl ∧
   (∀p∈cl,p∈cs∨env.cells.lookup p.1=some p.2)/\(∀p∈cs,p∈cl)/\(∀n,(n,NameKind.free)∈names->∃c,(n,c)∈cl)
 |[],cs,_=>⟨cs,by simp,fun p hp=>.inl hp,fun p hp=>hp,fun n hn=>by cases hn⟩
 | (n,k)::r,cs,h=>by
  by_cases hk:(k==NameKind.free)=true
  ·have hk':k=NameKind.free:=eq_of_beq hk
   subst hk'
   obtain⟨c,hc⟩:=h n (mem_cons_self)
   obtain⟨cl,e,h1,h2,h3⟩:=Z5l r ((n,c)::cs) fun m hm=>h m (mem_cons_of_mem _ hm)
   refine⟨cl,?_,fun p hp=>?_,fun p hp=>h2 p (mem_cons_of_mem _ hp),fun m hm=>?_⟩
   ·rw[List.forIn_cons]
    simp only [hk,if_true]
    unfold cellOf
    rw[hc]
    exact e
   ·rcases h1 p hp with q|q
    ·rcases mem_cons.mp q with q|q
     ·subst q;exact .inr hc
     ·exact .inl q
    ·exact .inr q
   ·rcases mem_cons.mp hm with q|q
    ·cases q;exact⟨c,h2 _ mem_cons_self⟩
    ·exact h3 m q
  ·obtain⟨cl,e,h1,h2,h3⟩:=Z5l r cs fun m hm=>h m (mem_cons_of_mem _ hm)
   refine⟨cl,?_,h1,h2,fun m hm=>?_⟩
   ·rw[List.forIn_cons]
    simp only [hk]
    exact e
   ·rcases mem_cons.mp hm with q|q
    ·cases q;exact absurd rfl hk
    ·exact h3 m q
theorem Z7p {κ : Type}[BEq κ][LawfulBEq κ]{β : Type}:∀{l:List (κ × β)} {x : κ} {c : β},l.lookup x=some c->(x,c)∈l
 |[],_,_,h=>by simp at h
 | (n,k)::r,x,c,h=>by
  cases hx:x==n with
  |true=>
   simp only [lookup_cons,hx] at h
   cases h
   have e:=eq_of_beq hx
   subst e
   exact mem_cons_self
  |false=>
   simp only [lookup_cons,hx] at h
   exact mem_cons_of_mem _ (Z7p h)
theorem Z7q {κ : Type}[BEq κ][LawfulBEq κ]{β : Type}:∀{l:List (κ × β)} {x : κ} {c : β},(x,c)∈l->∃c',l.lookup x=some c'
 | (n,k)::r,x,c,h=>by
  cases hx:x==n with
  |true=>exact⟨k,by simp only [lookup_cons,hx]⟩
  |false=>
   rcases mem_cons.mp h with q|q
   ·cases q;simp at hx
   ·obtain⟨c',e⟩:=Z7q q
    exact⟨c',by simp only [lookup_cons,hx];exact e⟩
theorem Z5m {scope:Scope}{env:Env}(h:∀n,(n,NameKind.free)∈scope.names->∃c,env.cells.lookup n=some c):
  ∃cl,closureFor scope env=pure cl/\(∀x c,cl.lookup x=some c->env.cells.lookup x=some c)/\∀n,(n,NameKind.free)∈scope.names->∃c,cl.lookup n=some c:=by
 obtain⟨cl,e,h1,_,h3⟩:=Z5l scope.names [] h
 refine⟨cl,?_,fun x c hx=>?_,fun n hn=>?_⟩
 ·have e2:closureFor scope env=((forIn scope.names ([]:List (Str×Addr)) fun(x:Str×NameKind) (r:List (Str×Addr))=>match x with
     | (name,kind)=>if (kind==NameKind.free)=true then do let c ← cellOf env name;pure (ForInStep.yield ((name,c)::r)) else pure (ForInStep.yield r):Sem (List (Str×Addr))) >>= fun r=>pure r):=rfl
  rw[e2,e]
  rfl
 ·rcases h1 _ (Z7p hx) with q|q
  ·cases q
  ·exact q
 ·obtain⟨c,hc⟩:=h3 n hn
  exact Z7q hc
def Z1g (X:Cx)(N':List Str)(scope:Scope)(cl:List (Str×Addr))(C:Addr)(ex:List Addr)(s0:Shared)(H0:Hp):Cx:=
 { X with N:=N',s₀:=s0,H₀:=H0,env:=compEnvC scope cl C X.env,outer:=X.stack,stack:=X.stack,ex:=ex,fn:=fun _=>false,pn:=[],xe:=fun _ _=>False }
section
variable {X:Cx}{pins:List (Addr×Obj)}{σ:St}{H:Hp}{s:Shared}
theorem Inv.track {a:Addr}{o:HO}(I:Inv X pins σ H s)(f:Z4m X pins H a)(new:ObjOk X.prog X.w (upd H a o) s.heap a o):Inv X pins σ (upd H a o) s:=by
 obtain⟨f0,f1,f2,f3,f4,f5⟩:=f
 have ne:∀b u,H b=some u->b≠a:=fun b u e=>Z0j e f0
 refine⟨I.ok,I.os,I.bare,⟨I.base.keep,I.base.slot,fun b ob e n hx=>?_,I.base.there,fun b xs e=>?_,fun b ob u e=>?_,fun b ps e=>?_⟩,I.loc,I.cell,?_,fun x c e=>?_,fun p hp=>?_,fun b u e=>?_,I.len⟩
 ·have hb:b≠a:=by
   rintro rfl
   rcases f3 with z|z
   ·exact hx z
   ·exact absurd (Nat.lt_of_lt_of_le (Heap.lt_size e) z) (Nat.lt_irrefl _)
  rw[Z0c hb]
  exact I.base.free b ob e n hx
 ·have q:=I.base.tups b xs e
  rw[Z0c (ne _ _ q)];exact q
 ·have q:=I.base.frzs b ob u e
  rw[Z0c (ne _ _ q)];exact q
 ·obtain⟨more,q⟩:=I.base.tbls b ps e
  exact⟨more,by rw[Z0c (ne _ _ q)];exact q⟩
 ·rw[Z0c (Ne.symm f1)];exact I.free
 ·rw[Z0c (f4 x c e)];exact I.freeC x c e
 ·obtain⟨e,n,ne',nf,d⟩:=I.pin p hp
  exact⟨e,by rw[Z0c (f5 p hp)];exact n,ne',nf,d⟩
 ·by_cases hb:b=a
  ·subst hb
   rw[Z00] at e;cases e
   exact new
  ·rw[Z0c hb] at e
   exact(I.hok b u e).stay (fun c v _ q=>q) (fun c q=>by rw[Z0c (ne _ _ q)];exact q) fun c xs q=>by rw[Z0c (ne _ _ q)];exact q
end
def PTs (X:Cx)(ifs:List Expr)(t:TT):Prop:=
 ∀(pins:List (Addr×Obj)) (s:Shared) (σ:St) (H:Hp) (Q:Bool->Hp->Prop),Inv X pins σ H s->t σ H Q →
  wpAny (model X.prog X.w) X.A (forIn ifs true fun c r=>if r=true then do let ok ← isTrue c X.env (eval c X.env);pure (ForInStep.yield ok) else pure (ForInStep.yield r)) (TP X pins σ Q) X.xe s
def tNoTest:TT:=fun _ H Q=>Q true H
theorem Z1q {X:Cx}:PTs X [] tNoTest:=fun _ _ _ H _ I h=>wpAny_tests_nil ⟨H,I,h⟩
theorem Z37 {X:Cx}{c:Expr}{t:TT}(h:PT X c t):PTs X [c] t:=fun pins s σ H Q I q=>wpAny_tests_one (h pins s σ H Q I q)
def Zfg (src:List (Option Nat))(σ:St):St:=src.map fun o=>match o with|some j=>(σ[j]?).getD none|none=>none
def Zn7 (src:List (Option Nat))(wi:TI)(g:TG)(tt:TT)(te:TE):TE:=fun σ H Q=>wi σ H fun J H1=>∃W:Nat->Nat->List V->St->Hp->Prop,(∃m,W 0 m [] (Zfg src σ) H1)/\∀i m ys σc H,W i m ys σc H →
 (J.stop i H/\∀l,H l=none->Q (.ref l) (upd H l (.lst ys))) ∨
 (J.go i H/\ys.length<sizeLine/\∀x H',J.yld i H x H'->g x σc H' fun σ2 H2=>tt σ2 H2 fun b H3=>
  if b=true then te σ2 H3 fun v H4=>∃m',m'<m/\W (i+1) m' (ys ++ [v]) σ2 H4 else ∃m',m'<m/\W (i+1) m' ys σ2 H3)
section
variable {X:Cx}{elt tg iter:Expr}{ifs:List Expr}{scope:Scope}{pos:Pos}{N':List Str}{src:List (Option Nat)}{wi:TI}{g:TG}{tt:TT}{te:TE}
theorem Z47 {env:Env}:∀{names:List (Str×NameKind)} {x:Str} {k:NameKind},(names.map fun(n,k)=>if (k==NameKind.free&&env.scope.kind == .function&&env.kindOf n==some .cell) then (n,NameKind.cell) else (n,k)).lookup x=some k →
  (k = .cell∨k = .free)->(∀y∈names,y.2 ≠ .cell)->(x,NameKind.free)∈names
 |[],_,_,h,_,_=>by simp at h
 | (n,k')::r,x,k,h,hk,hc=>by
  have ih:=@Z47 env r x k
  have h':List.lookup x ((if (k'==NameKind.free&&env.scope.kind == .function&&env.kindOf n==some .cell)=true then (n,NameKind.cell) else (n,k'))::(r.map fun(n,k)=>if (k==NameKind.free&&env.scope.kind == .function&&env.kindOf n==some .cell) then (n,NameKind.cell) else (n,k)))=some k:=h
  by_cases hx:x=n
  ·subst hx
   by_cases hf:k' = .free
   ·subst hf;exact mem_cons_self
   ·have e:(k'==NameKind.free)=false:=by simpa using hf
    rw[e] at h'
    simp only [Bool.false_and,Bool.false_eq_true,if_false,lookup_cons,beq_self_eq_true] at h'
    have e':k'=k:=Option.some.inj h'
    rcases hk with q|q
    ·exact absurd (e'.trans q) (hc (x,k') mem_cons_self)
    ·exact absurd (e'.trans q) hf
  ·have e:(x==n)=false:=by simpa using hx
   have h2:(r.map fun(n,k)=>if (k==NameKind.free&&env.scope.kind == .function&&env.kindOf n==some .cell) then (n,NameKind.cell) else (n,k)).lookup x=some k:=by
    by_cases hc2:(k'==NameKind.free&&env.scope.kind == .function&&env.kindOf n==some .cell)=true
    ·rw[if_pos hc2] at h';simp only [lookup_cons,e] at h';exact h'
    ·rw[if_neg hc2] at h';simp only [lookup_cons,e] at h';exact h'
   exact mem_cons_of_mem _ (ih h2 hk fun y hy=>hc y (mem_cons_of_mem _ hy))
structure CompScope (X:Cx)(scope:Scope)(N':List Str)(src:List (Option Nat)):Prop where
 kind:scope.kind = .function
 cell:∀y∈scope.names,y.2 ≠ .cell
 names:∀x∈scope.names,x.2 = .local->scope.names.lookup x.1=some .local
 fr:∀n,(n,NameKind.free)∈scope.names->X.env.kindOf n=some .cell∨X.env.kindOf n=some .free
 excl:∀n,(n,NameKind.free)∈scope.names->¬scope.names.lookup n=some .local
 len:N'.length=src.length
 src:∀(i j:Nat),src[i]? = some (some j)->∃x:Str,N'[i]? = some x/\X.N[j]? = some x/\(x,NameKind.free)∈scope.names
theorem Z5n {cl:List (Str×Addr)}{C D:Addr}{fp:List Addr}{pins:List (Addr×Obj)}{σ:St}{H:Hp}{s3:Shared}{h1:Heap}{tk:Nat}(S:CompScope X scope N' src)(I3:Inv X pins σ H s3)
  (hcl1:∀x c,cl.lookup x=some c->X.env.cells.lookup x=some c) (hcl2:∀n,(n,NameKind.free)∈scope.names->∃c,cl.lookup n=some c) (hC:C=s3.heap.objs.size)
  (hf:∀b∈D::fp,Z4m X pins H b) (hlt:∀b∈D::fp,b<s3.heap.objs.size) (hns:h1.Ns C (fun _=>none)) (hk:∀b o,s3.heap.get? b=some o->h1.get? b=some o):
  Inv (Z1g X N' scope cl C (D::fp) s3 H) [] (Zfg src σ) H { s3 with heap:=h1,toks:=tk }:=by
 have neC:∀b o,s3.heap.get? b=some o->b≠C:=fun b o e=>by rw[hC];exact Nat.ne_of_lt (Heap.lt_size e)
 have HC:H C=none:=I3.hok.fresh (Nat.le_of_eq hC.symm)
 have ok:(Z1g X N' scope cl C (D::fp) s3 H).Ok:=by
  refine⟨I3.ok.mod,S.kind,I3.ok.glob,I3.ok.blt,Nat.le_of_eq hC.symm,fun x y c e1 e2=>I3.ok.inj x y c (hcl1 x c e1) (hcl1 y c e2),fun x hx=>?_,fun x c z=>absurd z Bool.false_ne_true,I3.ok.hd,I3.ok.frames,.inl rfl,fun b hb=>⟨?_,fun x c e=>?_⟩,I3.bs,Nat.le_trans I3.ok.bsz I3.sz,fun b o e hb=>?_,fun b hb=>?_,I3.stack,I3.stkFree⟩
  ·refine hcl2 x ?_
   rcases hx with z|z
   ·exact Z47 (env:=X.env) (show((scope.names.map _).lookup x)=some .cell from z) (.inl rfl) S.cell
   ·exact Z47 (env:=X.env) (show((scope.names.map _).lookup x)=some .free from z) (.inr rfl) S.cell
  ·show b≠C
   rw[hC];exact Nat.ne_of_lt (hlt b hb)
  ·exact(hf b hb).2.2.2.2.1 x c (hcl1 x c e)
  ·rcases(hf b hb).2.2.2.1 with z|z
   ·exact I3.ok.noex b o e z
   ·exact absurd (Nat.lt_of_lt_of_le (Nat.lt_of_lt_of_le (Heap.lt_size e) I3.ok.bsz) z) (Nat.lt_irrefl _)
  ·intro z
   have z':b∈frs X.stack:=z
   rcases mem_cons.mp (I3.stkSub b z') with q|q
   ·exact(hf b hb).2.1 q
   ·exact(hf b hb).2.2.1 q
 refine⟨ok,rfl,I3.bare,Un.kept hk,⟨_,hns,fun i x v e1 e2 e3=>?_⟩,fun x c e=>?_,HC,fun x c e=>I3.freeC x c (hcl1 x c e),fun p hp=>absurd (show p∈([]:List (Addr×Obj)) from hp) (by simp),I3.hok.kept hk,?_⟩
 ·have e2':(src.map fun o=>match o with|some j=>(σ[j]?).getD none|none=>none)[i]? = some (some v):=e2
  rw[List.getElem?_map] at e2'
  cases q:src[i]? with
  |none=>rw[q] at e2';cases e2'
  |some o=>
   rw[q] at e2'
   cases o with
   |none=>cases e2'
   |some j=>
    obtain⟨x',hx1,hx2,hx3⟩:=S.src i j q
    have ex:x'=x:=Option.some.inj (hx1.symm.trans e1)
    subst ex
    have ev:σ[j]? = some (some v):=by
     cases q2:σ[j]? with
     |none=>simp [q2] at e2'
     |some o=>simp [q2] at e2';rw[e2']
    obtain⟨m,hn,hl⟩:=I3.loc
    have hkind:=S.fr x' hx3
    obtain⟨u,r,l⟩:=hl j x' v hx2 ev (by
     rcases hkind with z|z
     ·exact .inr (.inl z)
     ·exact .inr (.inr z))
    refine⟨u,r,.inr ⟨?_,?_⟩⟩
    ·rcases e3 with z|z|z
     ·exfalso
      have z':(scope.names.map fun(n,k)=>if (k==NameKind.free&&X.env.scope.kind == .function&&X.env.kindOf n==some .cell) then (n,NameKind.cell) else (n,k)).lookup x'=some .local:=z
      rcases l with ⟨k,_⟩|⟨_,c,hc,hcell⟩
      ·rcases hkind with y|y <;> (rw[y] at k;cases k)
      ·exact(show False by
        have:=S.names
        have hm:=hx3
        clear e2 e2'
        have key:∀(names:List (Str×NameKind)),(names.map fun(n,k)=>if (k==NameKind.free&&X.env.scope.kind == .function&&X.env.kindOf n==some .cell) then (n,NameKind.cell) else (n,k)).lookup x'=some .local →
          names.lookup x'=some .local:=by
         intro names
         induction names with
         |nil=>intro h;simp at h
         |cons y r ih=>
          obtain⟨n,k⟩:=y
          intro h
          have h':List.lookup x' ((if (k==NameKind.free&&X.env.scope.kind == .function&&X.env.kindOf n==some .cell)=true then (n,NameKind.cell) else (n,k))::(r.map fun(n,k)=>if (k==NameKind.free&&X.env.scope.kind == .function&&X.env.kindOf n==some .cell) then (n,NameKind.cell) else (n,k)))=some .local:=h
          by_cases hx:(x'==n)=true
          ·by_cases hc2:(k==NameKind.free&&X.env.scope.kind == .function&&X.env.kindOf n==some .cell)=true
           ·rw[if_pos hc2] at h';simp only [lookup_cons,hx] at h';cases h'
           ·rw[if_neg hc2] at h';simp only [lookup_cons,hx] at h' ⊢;exact h'
          ·have hx':(x'==n)=false:=by simpa using hx
           by_cases hc2:(k==NameKind.free&&X.env.scope.kind == .function&&X.env.kindOf n==some .cell)=true
           ·rw[if_pos hc2] at h';simp only [lookup_cons,hx'] at h' ⊢;exact ih h'
           ·rw[if_neg hc2] at h';simp only [lookup_cons,hx'] at h' ⊢;exact ih h'
        have z2:=key _ z'
        obtain⟨c2,hc2⟩:=hcl2 x' hx3
        exact S.excl x' hx3 z2)
     ·exact .inl z
     ·exact .inr z
    ·rcases l with ⟨k,_⟩|⟨_,c,hc,hcell⟩
     ·rcases hkind with y|y <;> (rw[y] at k;cases k)
     ·obtain⟨c2,hc2⟩:=hcl2 x' hx3
      have e:=hcl1 x' c2 hc2
      rw[hc] at e;cases e
      obtain⟨oc,ho,hd⟩:=hcell
      exact⟨c,hc2,oc,hk c oc ho,hd⟩
 ·obtain⟨v,oc,ho,hd⟩:=I3.cell x c (hcl1 x c e)
  exact⟨v,oc,hk c oc ho,hd⟩
 ·show(src.map _).length=N'.length
  rw[length_map,S.len]
theorem Z7r {cl:List (Str×Addr)}{C D:Addr}{fp:List Addr}{pins pinsY:List (Addr×Obj)}{σ σc:St}{H H':Hp}{s3 s4:Shared}{h':Heap}{ys:List V}{us:List Value}(I3:Inv X pins σ H s3)(hC:C=s3.heap.objs.size)
  (hf:∀b∈D::fp,Z4m X pins H b) (hlt:∀b∈D::fp,b<s3.heap.objs.size) (IY:Inv (Z1g X N' scope cl C (D::fp) s3 H) pinsY σc H' s4) (hD:H' D=none) (pl:s4.heap.PlainList D us.toArray) (rv:Vals ys us) (hz:ys.length<=sizeLine)
  (hs:Heap.SameBut C s4.heap h'):Inv X pins σ (upd H' D (.lst ys)) { s4 with heap:=h' }:=by
 have J:Inv X pins σ H' s4:=I3.call' IY.os IY.base IY.hok IY.bare (ch:=D::fp) fun b hb=>⟨(hf b hb).2.2.2.1,(hf b hb).2.1,(hf b hb).2.2.2.2.1,(hf b hb).2.2.2.2.2⟩
 have fC:Z4m X pins H' C:=I3.fpOk (Nat.le_of_eq hC.symm) IY.free
 have J2:Inv X pins σ H' { s4 with heap:=h' }:=J.turned (t':=s4.toks) (fun b o hb e=>(hs.2 b hb).trans e) fC.1 fC.2.1 fC.2.2.2.1 fC.2.2.2.2.1 fC.2.2.2.2.2
 have hDC:D≠C:=by rw[hC];exact Nat.ne_of_lt (hlt D mem_cons_self)
 obtain⟨n,e⟩:=pl
 have fD:=hf D mem_cons_self
 exact J2.track ⟨hD,fD.2⟩ ⟨hz,us,n,rv,(hs.2 D hDC).trans e⟩
theorem Zc8 {cl:List (Str×Addr)}{C D it:Addr}{fp:List Addr}{tn:Nat->Heap->Prop}{J:It}{pins:List (Addr×Obj)}{σ σ0:St}{H:Hp}{s3 s4:Shared}{R:Result->Shared->Prop}{W:Nat->Nat->List V->St->Hp->Prop}{m0:Nat}{Q:List V->Hp->Prop}
  (hc:X.calm=true) (T:Turn X.prog X.w X.K tg J fp it tn) (I3:Inv X pins σ H s3) (hC:C=s3.heap.objs.size)
  (hf:∀b∈D::fp,Z4m X pins H b) (hlt:∀b∈D::fp,b<s3.heap.objs.size) (hDf:D∉fp) (IY:Inv (Z1g X N' scope cl C (D::fp) s3 H) [] σ0 H s4) (st:tn 0 s4.heap) (pl:s4.heap.PlainList D #[])
  (hg:PG (Z1g X N' scope cl C (D::fp) s3 H) tg g) (ht:PTs (Z1g X N' scope cl C (D::fp) s3 H) ifs tt) (he:PE (Z1g X N' scope cl C (D::fp) s3 H) elt te) (w0:W 0 m0 [] σ0 H)
  (turn:∀i m ys σc H,W i m ys σc H->(J.stop i H/\Q ys H)∨(J.go i H/\ys.length<sizeLine/\∀x H',J.yld i H x H'->g x σc H' fun σ2 H2=>tt σ2 H2 fun b H3=>
   if b=true then te σ2 H3 fun v H4=>∃m',m'<m/\W (i+1) m' (ys ++ [v]) σ2 H4 else ∃m',m'<m/\W (i+1) m' ys σ2 H3))
  (fin:∀s5 σc H' ys us pinsY,Inv (Z1g X N' scope cl C (D::fp) s3 H) pinsY σc H' s5->H' D=none->s5.heap.PlainList D us.toArray->Vals ys us->ys.length<=sizeLine->Q ys H'->R (.ok .next) s5):
  codeAny (model X.prog X.w) X.A (.compLoop (.ListComp elt [⟨tg,iter,ifs,0⟩] scope pos) 0 (.ref it) (.ref D) (compEnvC scope cl C X.env)) R s4:=by
 have eY:(Z1g X N' scope cl C (D::fp) s3 H).env=compEnvC scope cl C X.env:=rfl
 generalize hY:Z1g X N' scope cl C (D::fp) s3 H=Y at *
 have e1:Y.prog=X.prog:=by rw[<- hY];rfl
 have e2:Y.w=X.w:=by rw[<- hY];rfl
 have e3:Y.K=X.K:=by rw[<- hY];rfl
 have e4:Y.A=X.A:=by rw[<- hY];rfl
 have e5:Y.calm=true:=by rw[<- hY];exact hc
 have e6:Y.xe=fun _ _=>False:=by rw[<- hY];rfl
 have e7:Y.env.locals=C:=by rw[eY];rfl
 have e8:Y.ex=D::fp:=by rw[<- hY];rfl
 have e9:Y.pn = []:=by rw[<- hY];rfl
 have e10:Y.fs=frs X.stack:=by rw[<- hY];rfl
 have e11:∀x c,Y.env.cells.lookup x=some c->∀b∈D::fp,c≠b:=fun x c e b hb=>(IY.ok.exf b (by rw[e8];exact hb)).2 x c e
 have nst:∀b∈D::fp,b∉Y.fs:=fun b hb=>IY.ok.exfs b (by rw[e8];exact hb)
 have fpY:∀(pinsY:List (Addr×Obj)) (H':Hp),(∀p∈pinsY,p.1=D)->∀b∈fp,H' b=none->Z4m Y pinsY H' b:=fun pinsY H' hp b hb hn=>
  ⟨hn,by rw[e7,hC];exact Nat.ne_of_lt (hlt b (mem_cons_of_mem _ hb)),nst b (mem_cons_of_mem _ hb),.inl (by rw[e8];exact mem_cons_of_mem _ hb),fun x c e=>e11 x c e b (mem_cons_of_mem _ hb),fun p hp' z=>by
   rw[e9,nil_append] at hp'
   have q:=hp p hp'
   rw[z] at q
   rw[q] at hb
   exact hDf hb⟩
 have fpD:∀(pinsY:List (Addr×Obj)) (H':Hp),(∀p∈pinsY,p.1≠D)->H' D=none->Z4m Y pinsY H' D:=fun pinsY H' hp hn=>
  ⟨hn,by rw[e7,hC];exact Nat.ne_of_lt (hlt D mem_cons_self),nst D mem_cons_self,.inl (by rw[e8];exact mem_cons_self),fun x c e=>e11 x c e D mem_cons_self,fun p hp'=>by
   rw[e9,nil_append] at hp'
   exact hp p hp'⟩
 have T':Turn Y.prog Y.w Y.K tg J fp it tn:=by rw[e1,e2,e3];exact T
 rw[<- eY,<- e1,<- e2,<- e4]
 refine Za3 (fun n s'=>∃i ys us σc H',Inv Y [] σc H' s'/\tn i s'.heap/\(∀b∈fp,H' b=none)/\H' D=none/\s'.heap.PlainList D (us:List Value).toArray/\Vals ys us/\ys.length<=sizeLine/\W i n ys σc H') ?_ m0
  ⟨0,[],[],σ0,H,IY,st,fun b hb=>(hf b (mem_cons_of_mem _ hb)).1,(hf D mem_cons_self).1,pl,.nil,Nat.zero_le _,w0⟩
 rintro n s5 ⟨i,ys,us,σc,H5,I5,st5,fr5,hD5,pl5,rv5,hz5,w5⟩
 obtain⟨nn,hob⟩:=id pl5
 have I5':Inv Y [(D,{ cls:=.type "list",data:=.seq us.toArray nn })] σc H5 s5:=I5.pins_of fun p hp=>by
  rw[mem_singleton] at hp
  subst hp
  exact⟨hob,hD5,by rw[e7,hC];exact Nat.ne_of_lt (hlt D mem_cons_self),nst D mem_cons_self,fun v z=>by
   have z':Data.seq us.toArray nn=Data.cell v:=z
   cases z'⟩
 have f5:∀b∈fp,Z4m Y [(D,{ cls:=.type "list",data:=.seq us.toArray nn })] H5 b:=fun b hb=>fpY _ _ (fun p hp=>by rw[mem_singleton] at hp;rw[hp]) b hb (fr5 b hb)
 rcases turn i n ys σc H5 w5 with ⟨stop,q⟩|⟨go,hz,step⟩
 ·refine thn (T'.done Y rfl rfl rfl e5 i _ s5 σc H5 (fun _ _=>False) I5' f5 st5 stop) fun r s6 ⟨hr,I6⟩=>?_
  subst hr
  exact fin s6 σc H5 ys us _ I6 hD5 ⟨nn,(I6.pin (D,_) (mem_append_right _ mem_cons_self)).1⟩ rv5 hz5 q
 ·refine thn (T'.item Y rfl rfl rfl e5 i _ s5 σc H5 (fun _ _=>False) I5' f5 st5 go) fun r s6 ⟨u,hr,h6⟩=>?_
  subst hr
  refine thn h6 fun _ s7 ⟨x,H7,I7,r7,y7,st7,fr7⟩=>?_
  have f7:∀b∈fp,Z4m Y [(D,{ cls:=.type "list",data:=.seq us.toArray nn })] H7 b:=fun b hb=>fpY _ _ (fun p hp=>by rw[mem_singleton] at hp;rw[hp]) b hb (fr7 b hb)
  have I7':=I7.pinned f7 (T.obj _ _ st7)
  have hx:=hg _ s7 σc H7 x u _ I7' r7 (step x H7 y7)
  rw[e6] at hx
  refine thn hx fun _ s8 ⟨σ8,H8,I8,q8⟩=>?_
  have hx2:=ht _ s8 σ8 H8 _ I8 q8
  rw[e6] at hx2
  have keepT:∀{σ9:St} {H9:Hp} {s9:Shared},Inv Y ([(D,{ cls:=.type "list",data:=.seq us.toArray nn })]++Z4p fp s7.heap) σ9 H9 s9->tn (i+1) s9.heap/\(∀b∈fp,H9 b=none)/\H9 D=none/\s9.heap.get? D=some { cls:=.type "list",data:=.seq us.toArray nn }:=fun {σ9 H9 s9} I9=>by
   have pD:=I9.pin (D,_) (mem_append_right _ (mem_append_left _ mem_cons_self))
   refine⟨T.keep _ _ _ st7 fun b hb o e=>(I9.pin (b,o) (mem_append_right _ (mem_append_right _ (Z23 hb e)))).1,fun b hb=>?_,pD.2.1,pD.1⟩
   obtain⟨o,e,d⟩:=T.obj _ _ st7 b hb
   exact(I9.pin (b,o) (mem_append_right _ (mem_append_right _ (Z23 hb e)))).2.1
  refine thn hx2 fun ok s9 ⟨H9,I9,q9⟩=>?_
  cases ok with
  |false=>
   rw[if_neg Bool.false_ne_true] at q9
   rw[if_neg Bool.false_ne_true]
   obtain⟨m',hm,w9⟩:=q9
   obtain⟨k1,k2,k3,k4⟩:=keepT I9
   exact⟨m',hm,i+1,ys,us,σ8,H9,I9.pins_of (fun p hp=>nomatch hp),k1,k2,k3,⟨nn,k4⟩,rv5,hz5,w9⟩
  |true=>
   rw[if_pos rfl] at q9
   rw[if_pos rfl]
   have hx3:=he _ s9 σ8 H9 _ I9 q9
   rw[e6] at hx3
   refine thn hx3 fun xv s10 ⟨v,H10,I10,r10,m',hm,w10⟩=>?_
   obtain⟨k1,k2,k3,k4⟩:=keepT I10
   have hl:=rv5.length
   refine wpAny_list_append_plain ⟨nn,k4⟩ (fun h' pl' sb=>?_) (by rw[size_toArray];omega)
   have fD:=fpD [] H10 (fun p hp=>nomatch hp) k3
   have I11:Inv Y [] σ8 H10 { s10 with heap:=h' }:=(I10.pins_of (pins':=[]) fun p hp=>nomatch hp).turned (t':=s10.toks) (fun b o hb e=>(sb.2 b hb).trans e) fD.1 fD.2.1 fD.2.2.2.1 fD.2.2.2.2.1 fD.2.2.2.2.2
   refine⟨m',hm,i+1,ys ++ [v],us ++ [xv],σ8,H10,I11,T.keep _ _ _ k1 (fun b hb o e=>(sb.2 b ?_).trans e),k2,k3,?_,rv5.append (.cons r10 .nil),?_,w10⟩
   ·intro z;rw[z] at hb;exact hDf hb
   ·rw[show(us ++ [xv]).toArray=us.toArray.push xv by simp];exact pl'
   ·rw[length_append,length_singleton];exact hz
theorem Z1h (hc:X.calm=true)(S:CompScope X scope N' src)(hi:PI X tg iter wi)
  (hb:∀cl C ex s0 H0,PG (Z1g X N' scope cl C ex s0 H0) tg g/\PTs (Z1g X N' scope cl C ex s0 H0) ifs tt/\PE (Z1g X N' scope cl C ex s0 H0) elt te)
  (hs:∀x,foldedSetIterable iter X.env x=pure x:=by intro _;rfl):PE X (.ListComp elt [⟨tg,iter,ifs,0⟩] scope pos) (Zn7 src wi g tt te):=by
 intro pins s σ H Q I h
 obtain⟨cl,hclos,hcl1,hcl2⟩:=Z5m (scope:=scope) (env:=X.env) fun n hn=>I.ok.has n (S.fr n hn)
 rw[eval_ListComp]
 refine wpAny_comprehension_free (use:=none) rfl hs hclos S.kind S.names ?_
 refine thn (hi pins s σ H _ I h) fun v s1 h1=>thn h1 fun itv s2 h2=>?_
 obtain⟨it,fp,tn,J,H2,e,I2,T,st2,f2,W,⟨m0,w0⟩,turn⟩:=h2
 subst e
 refine wpAny_newObj_type (wpAny_newFunctionEnv S.cell (by intro y hy;simp at hy) (fun h₁ hns₁ hsb₁=>?_) S.kind)
 dsimp only at hns₁ hsb₁ ⊢
 generalize hH3:s2.heap.push { cls:=.type "list",dict:=none,data:=.seq ([]:List Value).toArray }=H3 at hns₁ hsb₁ ⊢
 have hsz:H3.objs.size=s2.heap.objs.size+1:=by rw[<- hH3,Heap.size_push]
 have I3:Inv X pins σ H2 { s2 with heap:=H3 }:=I2.kept (t':=s2.toks) fun b o e=>by rw[<- hH3];exact Heap.get?_push_of_some _ e
 have fD:Z4m X pins H2 s2.heap.objs.size:=I2.fpOk (Nat.le_refl _) (I2.hok.fresh (Nat.le_refl _))
 have hDf:s2.heap.objs.size∉fp:=fun hm=>by
  obtain⟨o,e,_⟩:=T.obj 0 _ st2 _ hm
  exact Nat.lt_irrefl _ (Heap.lt_size e)
 have hf:∀b∈s2.heap.objs.size::fp,Z4m X pins H2 b:=fun b hb=>by
  rcases mem_cons.mp hb with z|z
  ·rw[z];exact fD
  ·exact f2 b z
 have hlt:∀b∈s2.heap.objs.size::fp,b<H3.objs.size:=fun b hb=>by
  rcases mem_cons.mp hb with z|z
  ·rw[z,hsz];exact Nat.lt_succ_self _
  ·obtain⟨o,e,_⟩:=T.obj 0 _ st2 b z
   rw[hsz];exact Nat.lt_succ_of_lt (Heap.lt_size e)
 have kp:∀b o,H3.get? b=some o->h₁.get? b=some o:=fun b o e=>hsb₁.extBut b o (Nat.ne_of_lt (Heap.lt_size e)) (Heap.get?_push_of_some _ e)
 have kp0:∀b o,s2.heap.get? b=some o->h₁.get? b=some o:=fun b o e=>kp b o (by rw[<- hH3];exact Heap.get?_push_of_some _ e)
 have hacc:h₁.PlainList s2.heap.objs.size #[]:=⟨_,kp _ _ (by rw[<- hH3];exact Heap.get?_push_size _ rfl)⟩
 have st1:tn 0 h₁:=T.keep _ _ _ st2 fun b _ o e=>kp0 b o e
 have IY:=Z5n (N':=N') (src:=src) (scope:=scope) (cl:=cl) (C:=H3.objs.size) (D:=s2.heap.objs.size) (fp:=fp) (s3:={ s2 with heap:=H3 }) (h1:=h₁) (tk:=s2.toks) S I3 hcl1 hcl2 rfl hf hlt hns₁ kp
 obtain⟨hg,ht,he⟩:=hb cl H3.objs.size (s2.heap.objs.size::fp) { s2 with heap:=H3 } H2
 have loop:=Zc8 (R:=compPost (model X.prog X.w) X.A X.xe none (EP X pins σ Q) (.ref s2.heap.objs.size) H3.objs.size) (elt:=elt) (iter:=iter) (ifs:=ifs) (pos:=pos) (Q:=fun ys H=>∀l,H l=none->Q (.ref l) (upd H l (.lst ys)))
  hc T I3 rfl hf hlt hDf IY st1 hacc hg ht he w0 turn (fun s5 σc H' ys us pinsY IY5 hD pl rv hz q=>by
   obtain⟨m,hn,_⟩:=IY5.loc
   refine⟨m,hn,fun h' hs'=>⟨.ref s2.heap.objs.size,upd H' s2.heap.objs.size (.lst ys),?_,rfl,q _ hD⟩⟩
   exact Z7r I3 rfl hf hlt IY5 hD pl rv hz hs')
 exact codeAny_compStart_list loop (T.self _ 0 _ _ _ st1 loop)
end
section
variable {X:Cx}{tg:Expr}
inductive rSlS (x:V)(lo:Option Int)(hi:Option Int)(H:Hp)(Q:VK):Prop
 |mk (z:_) (_:x = .str z) (_:z.length<=sizeLine) (_:Q (.str (Txt.slice z lo hi)) H):rSlS x lo hi H Q
theorem Zfh:SlR X rSlS:=by
 intro pins s σ H x v vl vu lo hi sl Q I rx hs pl pu h
 obtain⟨z,rfl,hz,q⟩:=h
 obtain⟨t,rfl⟩:=rx
 refine⟨"str",_,F.slot_str_getitem.lookup,typeIs_str _ _ _,?_⟩
 obtain⟨os,hos,hcs,hds⟩:=id hs
 have fin:∀t' k,EP X pins σ Q (.str (Txt.slice z lo hi) t') { s with toks:=k }:=fun t' k=>⟨.str _,H,I.tok _,⟨_,rfl⟩,q⟩
 cases pl with
 |none=>
  cases pu with
  |none=>exact wpAny_getItem_str_slice (l:=none) (u:=none) (st:=none) ⟨os,hos,hcs,hds⟩ rfl (post_val_or_str ⟨Nat.le_trans (Txt.slice_le z _ _) hz,fin⟩)
  |int j uj=>exact wpAny_getItem_str_slice (l:=none) (u:=some (j,uj)) (st:=none) ⟨os,hos,hcs,hds⟩ rfl (post_val_or_str ⟨Nat.le_trans (Txt.slice_le z _ _) hz,fin⟩)
 |int i ui=>
  cases pu with
  |none=>exact wpAny_getItem_str_slice (l:=some (i,ui)) (u:=none) (st:=none) ⟨os,hos,hcs,hds⟩ rfl (post_val_or_str ⟨Nat.le_trans (Txt.slice_le z _ _) hz,fin⟩)
  |int j uj=>exact wpAny_getItem_str_slice (l:=some (i,ui)) (u:=some (j,uj)) (st:=none) ⟨os,hos,hcs,hds⟩ rfl (post_val_or_str ⟨Nat.le_trans (Txt.slice_le z _ _) hz,fin⟩)
theorem Z3t:Z4t X (.builtin "isinstance") (fun xs H Q=>∃x T ty b,xs = [x,.ty T]/\TyOf X.K H x ty/\PySem.W.kitOne X.K ty (.type T)=some b/\Q (.bl b) H):=by
 intro pins s σ H xs us Q I r h
 obtain⟨x,T,ty,b,rfl,h1,h2,q⟩:=h
 obtain⟨u,w',rfl,rx,rT⟩:=Zp0 r
 cases (show w'=Value.type T from rT)
 exact Zf1 I rx h1 h2 fun tk=>⟨.bl b,H,I.tok _,rfl,q⟩
theorem Z8j:∀{bs:List Bool} {us:List Value},Vals (bs.map V.bl) us->us=bs.map Value.bool
 |[],us,r=>by cases r;rfl
 |b::bs,us,r=>by
  cases r with
  |cons r1 r2=>cases r1;rw[Z8j r2];rfl
theorem Zdr (bs:List Bool):((List.range bs.length).all fun i=>(bs[i]?).getD true)=bs.all id:=by
 rw[Bool.eq_iff_iff,all_eq_true,all_eq_true]
 constructor
 ·intro h b hb
  obtain⟨i,hi,rfl⟩:=List.getElem_of_mem hb
  have:=h i (mem_range.mpr hi)
  simpa [List.getElem?_eq_getElem hi] using this
 ·intro h i hi
  have hi':=mem_range.mp hi
  rw[List.getElem?_eq_getElem hi']
  exact h _ (getElem_mem hi')
theorem Zds (bs:List Bool):((List.range bs.length).any fun i=>(bs[i]?).getD false)=bs.any id:=by
 rw[Bool.eq_iff_iff,any_eq_true,any_eq_true]
 constructor
 ·rintro⟨i,hi,h⟩
  have hi':=mem_range.mp hi
  rw[List.getElem?_eq_getElem hi'] at h
  exact⟨_,getElem_mem hi',h⟩
 ·rintro⟨b,hb,h⟩
  obtain⟨i,hi,rfl⟩:=List.getElem_of_mem hb
  exact⟨i,mem_range.mpr hi,by rw[List.getElem?_eq_getElem hi];exact h⟩
theorem Zb4 (hc:X.calm=true):Z4t X (.builtin "all") (fun xs H Q=>∃(p:Addr) (bs:List Bool),xs = [.ref p]/\SqL X.K H p (bs.map V.bl)/\Q (.bl (bs.all id)) H):=by
 intro pins s σ H xs us Q I r h
 obtain⟨p,bs,rfl,hq,q⟩:=h
 obtain⟨u,rfl,rx⟩:=Z7f r
 cases rx
 obtain⟨its,r',pl,hz⟩:=I.list hq
 have e:=Z8j r'
 subst e
 have hlt:p<s.heap.objs.size:=by obtain⟨_,e,_⟩:=pl.isList;exact Heap.lt_size e
 refine call_all_walk (wpAny_pyIter_list pl.isList ?_)
 refine⟨s.heap.objs.size,[s.heap.objs.size,p],[s.heap.objs.size],(bs.map Value.bool).toArray.size,_,_,fun i=>(bs[i]?).getD true,rfl,Walks.list (A:=X.A.in1) (I.ok.hd hc) _ p (Nat.ne_of_lt hlt) (bs.map Value.bool).toArray,
  ⟨⟨_,Heap.get?_push_size _ rfl,rfl,rfl⟩,pl.isList.push _⟩,fun i v s' Q' E' hP hQ=>?_,fun h' tk hk=>?_⟩
 ·have hP':(bs.map Value.bool)[i]? = some v:=by simpa using hP
  rw[List.getElem?_map] at hP'
  cases e:bs[i]? with
  |none=>rw[e] at hP';cases hP'
  |some b=>
   rw[e] at hP'
   cases hP'
   simp only [e,Option.getD_some] at hQ
   exact wpAny_truthy_bool hQ
 ·have e:((List.range (bs.map Value.bool).toArray.size).all fun i=>(bs[i]?).getD true)=bs.all id:=by
   rw[size_toArray,length_map];exact Zdr bs
  rw[e]
  refine⟨.bl _,H,I.kept fun b o eb=>hk b o ?_ (Heap.get?_push_of_some _ eb),rfl,q⟩
  intro z
  rw[mem_singleton.mp z] at eb
  exact Nat.lt_irrefl _ (Heap.lt_size eb)
theorem Z4u (hc:X.calm=true):Z4t X (.builtin "any") (fun xs H Q=>∃(p:Addr) (bs:List Bool),xs = [.ref p]/\SqL X.K H p (bs.map V.bl)/\Q (.bl (bs.any id)) H):=by
 intro pins s σ H xs us Q I r h
 obtain⟨p,bs,rfl,hq,q⟩:=h
 obtain⟨u,rfl,rx⟩:=Z7f r
 cases rx
 obtain⟨its,r',pl,hz⟩:=I.list hq
 have e:=Z8j r'
 subst e
 have hlt:p<s.heap.objs.size:=by obtain⟨_,e,_⟩:=pl.isList;exact Heap.lt_size e
 refine call_any_walk (wpAny_pyIter_list pl.isList ?_)
 refine⟨s.heap.objs.size,[s.heap.objs.size,p],[s.heap.objs.size],(bs.map Value.bool).toArray.size,_,_,fun i=>(bs[i]?).getD false,rfl,Walks.list (A:=X.A.in1) (I.ok.hd hc) _ p (Nat.ne_of_lt hlt) (bs.map Value.bool).toArray,
  ⟨⟨_,Heap.get?_push_size _ rfl,rfl,rfl⟩,pl.isList.push _⟩,fun i v s' Q' E' hP hQ=>?_,fun h' tk hk=>?_⟩
 ·have hP':(bs.map Value.bool)[i]? = some v:=by simpa using hP
  rw[List.getElem?_map] at hP'
  cases e:bs[i]? with
  |none=>rw[e] at hP';cases hP'
  |some b=>
   rw[e] at hP'
   cases hP'
   simp only [e,Option.getD_some] at hQ
   exact wpAny_truthy_bool hQ
 ·have e:((List.range (bs.map Value.bool).toArray.size).any fun i=>(bs[i]?).getD false)=bs.any id:=by
   rw[size_toArray,length_map];exact Zds bs
  rw[e]
  refine⟨.bl _,H,I.kept fun b o eb=>hk b o ?_ (Heap.get?_push_of_some _ eb),rfl,q⟩
  intro z
  rw[mem_singleton.mp z] at eb
  exact Nat.lt_irrefl _ (Heap.lt_size eb)
def Zp9 (xs ys:List V):Bool:=xs.length==ys.length&&(List.range xs.length).all fun j=>eqV (xs.getD j .non) (ys.getD j .non)
end
section
variable {X:Cx}{elt tg iter:Expr}{ifs:List Expr}{scope:Scope}{pos:Pos}{N':List Str}{src:List (Option Nat)}{wi:TI}{g:TG}{tt:TT}{te:TE}
theorem Z2e {i:Nat}{x:Str}{pos' spos:Pos}(hc:X.calm=true)(hN:X.N.Nodup)(hix:X.N[i]? = some x)(hx:Loc X.env.scope x)(S:CompScope X scope N' src)(hi:PI X tg iter wi)
  (hb:∀cl C ex s0 H0,PG (Z1g X N' scope cl C ex s0 H0) tg g/\PTs (Z1g X N' scope cl C ex s0 H0) ifs tt/\PE (Z1g X N' scope cl C ex s0 H0) elt te)
  (hsw:swapsWith (.ListComp elt [⟨tg,iter,ifs,0⟩] scope pos) (some (.Name x pos')) spos.line X.env=pure true:=by rfl)
  (hs:∀x,foldedSetIterable iter X.env x=pure x:=by intro _;rfl)
  (hfn:X.fn x=true∨X.env.scope.names.lookup x=some .local:=by first|exact .inl rfl|exact .inr rfl|assumption):
  PS X (.Assign [.Name x pos'] (.ListComp elt [⟨tg,iter,ifs,0⟩] scope pos) spos) (Zon (Zn7 src wi g tt te) (Z9l i)):=by
 intro pins s σ H D I h
 obtain⟨cl,hclos,hcl1,hcl2⟩:=Z5m (scope:=scope) (env:=X.env) fun n hn=>I.ok.has n (S.fr n hn)
 rw[exec_Assign_Name_used _ _ _ _ hsw]
 refine wpAny_bind (wpAny_standAt (wpAny_bind ?_))
 show wpAny _ _ (do let _ ← comprehension (.ListComp elt [⟨tg,iter,ifs,0⟩] scope pos) scope X.env _ (newList []) false (eval iter X.env) (some (assign (.Name x pos') X.env))) _ _ s
 refine wpAny_bind (wpAny_mono (wpAny_comprehension_free (use:=some (assign (.Name x pos') X.env)) (Q:=fun _ s'=>SP X pins D .next s') rfl hs hclos S.kind S.names ?_) (fun _ s' hq=>wpAny_pure (wpAny_pure hq)) fun _ _ e=>e)
 refine thn (hi pins s σ H _ I h) fun v s1 h1=>thn h1 fun itv s2 h2=>?_
 obtain⟨it,fp,tn,J,H2,e,I2,T,st2,f2,W,⟨m0,w0⟩,turn⟩:=h2
 subst e
 refine wpAny_newObj_type (wpAny_newFunctionEnv S.cell (by intro y hy;simp at hy) (fun h₁ hns₁ hsb₁=>?_) S.kind)
 dsimp only at hns₁ hsb₁ ⊢
 generalize hH3:s2.heap.push { cls:=.type "list",dict:=none,data:=.seq ([]:List Value).toArray }=H3 at hns₁ hsb₁ ⊢
 have hsz:H3.objs.size=s2.heap.objs.size+1:=by rw[<- hH3,Heap.size_push]
 have I3:Inv X pins σ H2 { s2 with heap:=H3 }:=I2.kept (t':=s2.toks) fun b o e=>by rw[<- hH3];exact Heap.get?_push_of_some _ e
 have fD:Z4m X pins H2 s2.heap.objs.size:=I2.fpOk (Nat.le_refl _) (I2.hok.fresh (Nat.le_refl _))
 have hDf:s2.heap.objs.size∉fp:=fun hm=>by
  obtain⟨o,e,_⟩:=T.obj 0 _ st2 _ hm
  exact Nat.lt_irrefl _ (Heap.lt_size e)
 have hf:∀b∈s2.heap.objs.size::fp,Z4m X pins H2 b:=fun b hb=>by
  rcases mem_cons.mp hb with z|z
  ·rw[z];exact fD
  ·exact f2 b z
 have hlt:∀b∈s2.heap.objs.size::fp,b<H3.objs.size:=fun b hb=>by
  rcases mem_cons.mp hb with z|z
  ·rw[z,hsz];exact Nat.lt_succ_self _
  ·obtain⟨o,e,_⟩:=T.obj 0 _ st2 b z
   rw[hsz];exact Nat.lt_succ_of_lt (Heap.lt_size e)
 have kp:∀b o,H3.get? b=some o->h₁.get? b=some o:=fun b o e=>hsb₁.extBut b o (Nat.ne_of_lt (Heap.lt_size e)) (Heap.get?_push_of_some _ e)
 have kp0:∀b o,s2.heap.get? b=some o->h₁.get? b=some o:=fun b o e=>kp b o (by rw[<- hH3];exact Heap.get?_push_of_some _ e)
 have hacc:h₁.PlainList s2.heap.objs.size #[]:=⟨_,kp _ _ (by rw[<- hH3];exact Heap.get?_push_size _ rfl)⟩
 have st1:tn 0 h₁:=T.keep _ _ _ st2 fun b _ o e=>kp0 b o e
 have IY:=Z5n (N':=N') (src:=src) (scope:=scope) (cl:=cl) (C:=H3.objs.size) (D:=s2.heap.objs.size) (fp:=fp) (s3:={ s2 with heap:=H3 }) (h1:=h₁) (tk:=s2.toks) S I3 hcl1 hcl2 rfl hf hlt hns₁ kp
 obtain⟨hg,ht,he⟩:=hb cl H3.objs.size (s2.heap.objs.size::fp) { s2 with heap:=H3 } H2
 have loop:=Zc8 (R:=compPost (model X.prog X.w) X.A X.xe (some (assign (.Name x pos') X.env)) (fun _ s'=>SP X pins D .next s') (.ref s2.heap.objs.size) H3.objs.size) (elt:=elt) (iter:=iter) (ifs:=ifs) (pos:=pos) (Q:=fun ys H=>∀l,H l=none->D.nx (σ.set i (some (.ref l))) (upd H l (.lst ys)))
  hc T I3 rfl hf hlt hDf IY st1 hacc hg ht he w0 turn (fun s5 σc H' ys us pinsY IY5 hD pl rv hz q=>by
   have IX:Inv X pins σ (upd H' s2.heap.objs.size (.lst ys)) s5:=Z7r (h':=s5.heap) I3 rfl hf hlt IY5 hD pl rv hz (.refl ..)
   show wpAny _ _ (assign (.Name x pos') X.env (.ref s2.heap.objs.size)) _ _ s5
   refine wpAny_assign_Name (Z9j (v:=.ref s2.heap.objs.size) IX hN hix hx rfl (fun s6 I6 ⟨a,sb,ha⟩=>?_) hfn)
   obtain⟨m,hn,_⟩:=IY5.loc
   have fC:Z4m X pins (upd H' s2.heap.objs.size (.lst ys)) H3.objs.size:=I3.fpOk (Nat.le_refl _) (by
    rw[Z0c (by rw[hsz];exact Nat.ne_of_gt (Nat.lt_succ_self _))]
    exact IY5.free)
   have hCa:H3.objs.size≠a:=by
    rcases ha with z|z
    ·rw[z];exact fC.2.1
    ·exact fun q=>fC.2.2.2.2.1 x a z q.symm
   refine⟨m,hn.sameBut sb hCa,fun h' hs'=>⟨_,_,I6.turned (t':=s6.toks) (fun b o hb e=>(hs'.2 b hb).trans e) fC.1 fC.2.1 fC.2.2.2.1 fC.2.2.2.2.1 fC.2.2.2.2.2,q _ hD⟩⟩)
 exact codeAny_compStart_list loop (T.self _ 0 _ _ _ st1 loop)
end
section
variable {X:Cx}
def Zpa (_ j:Int):Prop:=0<j/\j<18446744073709551616
theorem Z6c:OpR X (binaryOp .FloorDiv) (rI Zpa fun i j=>.int (i / j)):=opI fun i j _ _ _ _ _ hc q=>by
 have h1:(0:Int)<j:=hc.1
 have h2:j<18446744073709551616:=hc.2
 refine floordiv_int (by omega) (by rw[Int.fdiv_eq_ediv_of_nonneg i (by omega)];exact q) (.inl (PyProof.noPylong_of_log2 ?_))
 have h64:j.natAbs.log2<64:=(Nat.log2_lt (by omega)).mpr (by omega)
 omega
theorem Z4g (hu:X.A.units<cLine):OpR X (compareOp .NotEq) (fun x y H Q=>∃a b xs ys,x = .ref a/\y = .ref b/\SqL X.K H a xs/\SqL X.K H b ys/\xs.all Z45=true/\ys.all Z45=true/\Q (.bl (!Zp9 xs ys)) H):=by
 intro pins s σ H x y v u Q I rx ry h
 obtain⟨a,b,xs,ys,rfl,rfl,hx,hy,fx,fy,q⟩:=h
 cases rx
 cases ry
 obtain⟨its,r,pl,hz⟩:=I.list hx
 obtain⟨its2,r2,pl2,hz2⟩:=I.list hy
 have hl:=r.length
 have hl2:=r2.length
 by_cases hs:xs.length=ys.length
 ·refine SeqAt.RcNeAt.lists (e:=fun j=>eqV (xs.getD j .non) (ys.getD j .non)) pl.isList pl2.isList (by simp only [size_toArray];omega) hu (fun j h1 h2=>?_) X.prog X.w _ _ ?_
  ·simp only [size_toArray] at h1 h2
   have g1:xs[j]? = some xs[j]:=List.getElem?_eq_getElem (by omega)
   have g2:ys[j]? = some ys[j]:=List.getElem?_eq_getElem (by omega)
   obtain⟨u1,e1,ru1⟩:=r.get g1
   obtain⟨u2,e2,ru2⟩:=r2.get g2
   have k1:its.toArray[j]=u1:=by
    have:its[j]? = some its[j]:=List.getElem?_eq_getElem h1
    rw[e1] at this
    simpa using (Option.some.inj this).symm
   have k2:its2.toArray[j]=u2:=by
    have:its2[j]? = some its2[j]:=List.getElem?_eq_getElem h2
    rw[e2] at this
    simpa using (Option.some.inj this).symm
   rw[k1,k2,show xs.getD j .non=xs[j] by simp [List.getD,g1],show ys.getD j .non=ys[j] by simp [List.getD,g2]]
   exact Z9w ru1 ru2 (all_eq_true.mp fx _ (getElem_mem _)) (all_eq_true.mp fy _ (getElem_mem _))
  ·refine Z10 I q ?_
   unfold Zp9
   rw[size_toArray,<- hl,hs]
   simp
 ·refine SeqAt.RcNeAt.lists_lengths pl.isList pl2.isList (by simp only [size_toArray,bne_iff_ne];omega) hu X.prog X.w _ _ ?_
  refine Z10 I q ?_
  unfold Zp9
  rw[beq_eq_false_iff_ne.mpr hs]
  rfl
end
inductive tCut (t u:TS)(D:Ends)(σ:St)(H:Hp):Prop
 |mk (Pv:St->Hp->Prop) (_:t { D with nx:=Pv } σ H) (_:∀ σ' H',Pv σ' H'->u D σ' H'):tCut t u D σ H
section
variable {X:Cx}{st:Stmt}{rest:List Stmt}{t u:TS}
theorem Z0g (h1:PS X st t)(h2:PSs X rest u):PSs X (st::rest) (tCut t u):=by
 intro pins s σ H D I h
 obtain⟨Pv,h,hr⟩:=h
 refine wpAny_execs_cons (thn (h1 pins s σ H { D with nx:=Pv } I h) fun f s1 q=>?_)
 cases f with
 |next=>
  obtain⟨σ',H',I',q⟩:=q
  exact h2 pins s1 σ' H' D I' (hr σ' H' q)
 |ret v=>exact q
 |brk=>exact q
 |cont=>exact q
end
def Zc9 (kindOf:Str->Option NameKind)(XN:List Str)(scope:Scope)(N':List Str)(src:List (Option Nat)):Bool:=
 (scope.kind == .function)&&(scope.names.all fun y=>(y.2 != .cell)&&(y.2 != .local||scope.names.lookup y.1==some .local)&&(y.2 != .free||((kindOf y.1==some .cell||kindOf y.1==some .free)&&scope.names.lookup y.1 != some .local))) &&
 (N'.length==src.length)&&((List.range src.length).all fun i=>match src[i]? with
  |some (some j)=>(match N'[i]?,XN[j]? with|some x,some y=>x==y&&scope.names.contains (x,NameKind.free)|_,_=>false)
  |_=>true)
theorem Z0d {X:Cx}{scope:Scope}{N':List Str}{src:List (Option Nat)}(sc:Scope)(hsc:X.env.scope=sc)(N:List Str)(hN:X.N=N)(h:Zc9 (fun x=>sc.names.lookup x) N scope N' src=true):CompScope X scope N' src:=by
 subst hsc hN
 unfold Zc9 at h
 simp only [Bool.and_eq_true,all_eq_true,beq_iff_eq,bne_iff_ne,ne_eq,Bool.or_eq_true] at h
 obtain⟨⟨⟨h1,h2⟩,h3⟩,h4⟩:=h
 refine⟨h1,fun y hy=>(h2 y hy).1.1,fun y hy hl=>?_,fun n hn=>?_,fun n hn=>?_,h3,fun i j e=>?_⟩
 ·rcases(h2 y hy).1.2 with z|z
  ·exact absurd hl z
  ·exact z
 ·rcases(h2 _ hn).2 with z|z
  ·exact absurd rfl z
  ·exact z.1
 ·rcases(h2 _ hn).2 with z|z
  ·exact absurd rfl z
  ·exact z.2
 ·have hi:i<src.length:=(List.getElem?_eq_some_iff.mp e).1
  have q:=h4 i (mem_range.mpr hi)
  rw[e] at q
  dsimp only at q
  cases e1:N'[i]? with
  |none=>rw[e1] at q;cases q
  |some x=>
   cases e2:X.N[j]? with
   |none=>rw[e1,e2] at q;cases q
   |some y=>
    rw[e1,e2] at q
    simp only [Bool.and_eq_true,beq_iff_eq] at q
    obtain⟨rfl,q⟩:=q
    exact⟨x,rfl,rfl,by simpa using q⟩
def Nx (N i:Nat)(P:Prop):Prop:=∃m',m'<N-i/\m'=N-(i+1)/\i+1<=N/\P
theorem nx {N i:Nat}{P:Prop}(h:i<N)(p:P):Nx N i P:=⟨_,by omega,rfl,h,p⟩
section
variable {x:Str}{σ0:St}{H:Hp}{g:TG}{tt:TT}{te:TE}{Q:List V->Hp->Prop}
theorem Z7s {lo:Int}{n:Nat}(Pv:Nat->List V->St->Hp->Prop)(h0:Pv 0 [] σ0 H)
  (hs:∀i ys σc H,i<n->Pv i ys σc H->ys.length<sizeLine/\g (.int (lo+i)) σc H fun σ2 H2=>tt σ2 H2 fun b H3=>
   if b=true then te σ2 H3 fun v H4=>Nx n i (Pv (i+1) (ys ++ [v]) σ2 H4) else Nx n i (Pv (i+1) ys σ2 H3))
  (hd:∀ys σc H,Pv n ys σc H->Q ys H):
  ∃W:Nat->Nat->List V->St->Hp->Prop,(∃m,W 0 m [] σ0 H)/\∀i m ys σc H,W i m ys σc H →
   ((Itr lo n).stop i H/\Q ys H)∨((Itr lo n).go i H/\ys.length<sizeLine/\∀v H',(Itr lo n).yld i H v H'->g v σc H' fun σ2 H2=>tt σ2 H2 fun b H3=>
    if b=true then te σ2 H3 fun v H4=>∃m',m'<m/\W (i+1) m' (ys ++ [v]) σ2 H4 else ∃m',m'<m/\W (i+1) m' ys σ2 H3):=by
 refine⟨fun i m ys σc H=>m=n-i/\i<=n/\Pv i ys σc H,⟨_,rfl,Nat.zero_le _,h0⟩,?_⟩
 rintro i m ys σc H ⟨rfl,hi,p⟩
 by_cases hlt:i<n
 ·obtain⟨z,_⟩:=hs i ys σc H hlt p
  refine .inr ⟨hlt,z,fun v H' y=>?_⟩
  obtain⟨e,ev⟩:=y
  subst e ev
  exact(hs i ys σc _ hlt p).2
 ·have e:i=n:=by omega
  subst e
  exact .inl ⟨Nat.le_refl _,hd ys σc H p⟩
end
theorem Z01 {H:Hp}{a:Addr}{o:HO}(h:H a=none):Same H (upd H a o):=fun b u e=>by rw[Z0c (Z0j e h)];exact e
theorem Zn8 {α : Type}{xs:List α}(h:0<xs.length)(i:Int):∃v,v∈xs/\atI xs (i % (xs.length:Int))=some v:=by
 have h0:0<=i % (xs.length:Int):=Int.emod_nonneg _ (by omega)
 have h1:i % (xs.length:Int)<xs.length:=Int.emod_lt_of_pos _ (by omega)
 obtain⟨j,hj⟩:=Int.eq_ofNat_of_zero_le h0
 have hl:j<xs.length:=by omega
 refine⟨xs[j],getElem_mem hl,?_⟩
 rw[hj]
 exact Z26 (List.getElem?_eq_getElem hl)
theorem Z4n {α : Type}{xs:List α}{i:Int}(h0:0<=i)(h1:i<xs.length):∃v,v∈xs/\atI xs i=some v:=by
 obtain⟨j,hj⟩:=Int.eq_ofNat_of_zero_le h0
 have hl:j<xs.length:=by omega
 refine⟨xs[j],getElem_mem hl,?_⟩
 rw[hj]
 exact Z26 (List.getElem?_eq_getElem hl)
section
variable {X:Cx}{es:List Expr}{te:TE}{t:TA}
theorem Z18 {c:Const}{j:Nat}{p:Pos}(h:PE X (.Constant c j p) te)(hr:PA X es t):PA X (.Constant c j p::es) (Zf2 te t):=Z0b h hr rfl
theorem Z0e {x:Str}{p:Pos}(h:PE X (.Name x p) te)(hr:PA X es t):PA X (.Name x p::es) (Zf2 te t):=Z0b h hr rfl
theorem Z9g {xs:List Expr}{j:Nat}{p:Pos}(h:PE X (.Tuple xs j p) te)(hr:PA X es t):PA X (.Tuple xs j p::es) (Zf2 te t):=Z0b h hr rfl
theorem Z2h {f:Expr}{xs:List Expr}{ks:List Keyword}{p:Pos}(h:PE X (.Call f xs ks p) te)(hr:PA X es t):PA X (.Call f xs ks p::es) (Zf2 te t):=Z0b h hr rfl
end
def Z7t:Expr->Option V
 | .Constant (.int i) _ _=>some (.int i)
 | .Constant (.str x) _ _=>some (.str x)
 | .Constant (.bool b) _ _=>some (.bl b)
 | .Constant .none _ _=>some .non
 |_=>none
theorem Za4 {X:Cx}:∀{es:List Expr} {vs:List V},es.map Z7t=vs.map some->PA X es (fun _ H Q=>Q vs H)
 |[],[],_=>Z02
 |[],v::vs,h=>by cases h
 |e::es,[],h=>by cases h
 |e::es,v::vs,h=>by
  rw[map_cons,map_cons] at h
  injection h with h1 h2
  have ih:=Za4 (X:=X) h2
  cases e with
  |Constant c j p=>
   cases c with
   |int i=>cases h1;exact Z18 Z03 ih
   |str x=>cases h1;exact Z18 Z08 ih
   |bool b=>cases h1;exact Z18 Z34 ih
   |none=>cases h1;exact Z18 Zmq ih
   |_=>cases h1
  |_=>cases h1
theorem nd1 (x:Str) : [x].Nodup:=by simp
section
variable {K:W.Frag}{a:Addr}{xs:List V}{σ0:St}{H:Hp}{g:TG}{tt:TT}{te:TE}{Q:List V->Hp->Prop}
theorem Z51 (Pv:Nat->List V->St->Hp->Prop)(h0:Pv 0 [] σ0 H)(hl:∀i ys σc H,Pv i ys σc H->SqT K H a xs)
  (hs:∀i x ys σc H,xs[i]? = some x->i<xs.length->Pv i ys σc H->ys.length<sizeLine/\g x σc H fun σ2 H2=>tt σ2 H2 fun b H3=>
   if b=true then te σ2 H3 fun v H4=>Nx xs.length i (Pv (i+1) (ys ++ [v]) σ2 H4) else Nx xs.length i (Pv (i+1) ys σ2 H3))
  (hd:∀ys σc H,Pv xs.length ys σc H->Q ys H):
  ∃W:Nat->Nat->List V->St->Hp->Prop,(∃m,W 0 m [] σ0 H)/\∀i m ys σc H,W i m ys σc H →
   ((Itt K a).stop i H/\Q ys H)∨((Itt K a).go i H/\ys.length<sizeLine/\∀v H',(Itt K a).yld i H v H'->g v σc H' fun σ2 H2=>tt σ2 H2 fun b H3=>
    if b=true then te σ2 H3 fun v H4=>∃m',m'<m/\W (i+1) m' (ys ++ [v]) σ2 H4 else ∃m',m'<m/\W (i+1) m' ys σ2 H3):=by
 refine⟨fun i m ys σc H=>m=xs.length-i/\i<=xs.length/\Pv i ys σc H,⟨_,rfl,Nat.zero_le _,h0⟩,?_⟩
 rintro i m ys σc H ⟨rfl,hi,p⟩
 have q:=hl i ys σc H p
 by_cases hlt:i<xs.length
 ·have hx:xs[i]? = some xs[i]:=List.getElem?_eq_getElem hlt
  obtain⟨z,_⟩:=hs i _ ys σc H hx hlt p
  refine .inr ⟨⟨xs,xs[i],q,hx⟩,z,fun v H' y=>?_⟩
  obtain⟨e,y⟩:=y
  subst e
  exact(hs i v ys σc _ (y xs q) hlt p).2
 ·have e:i=xs.length:=by omega
  subst e
  exact .inl ⟨⟨xs,q,Nat.le_refl _⟩,hd ys σc H p⟩
theorem Z0y (Pv:Nat->List V->St->Hp->Prop)(h0:Pv 0 [] σ0 H)(hl:∀i ys σc H,Pv i ys σc H->SqL K H a xs)
  (hs:∀i x ys σc H,xs[i]? = some x->i<xs.length->Pv i ys σc H->ys.length<sizeLine/\g x σc H fun σ2 H2=>tt σ2 H2 fun b H3=>
   if b=true then te σ2 H3 fun v H4=>Nx xs.length i (Pv (i+1) (ys ++ [v]) σ2 H4) else Nx xs.length i (Pv (i+1) ys σ2 H3))
  (hd:∀ys σc H,Pv xs.length ys σc H->Q ys H):
  ∃W:Nat->Nat->List V->St->Hp->Prop,(∃m,W 0 m [] σ0 H)/\∀i m ys σc H,W i m ys σc H →
   ((Itl K a).stop i H/\Q ys H)∨((Itl K a).go i H/\ys.length<sizeLine/\∀v H',(Itl K a).yld i H v H'->g v σc H' fun σ2 H2=>tt σ2 H2 fun b H3=>
    if b=true then te σ2 H3 fun v H4=>∃m',m'<m/\W (i+1) m' (ys ++ [v]) σ2 H4 else ∃m',m'<m/\W (i+1) m' ys σ2 H3):=by
 refine⟨fun i m ys σc H=>m=xs.length-i/\i<=xs.length/\Pv i ys σc H,⟨_,rfl,Nat.zero_le _,h0⟩,?_⟩
 rintro i m ys σc H ⟨rfl,hi,p⟩
 have q:=hl i ys σc H p
 by_cases hlt:i<xs.length
 ·have hx:xs[i]? = some xs[i]:=List.getElem?_eq_getElem hlt
  obtain⟨z,_⟩:=hs i _ ys σc H hx hlt p
  refine .inr ⟨⟨xs,xs[i],q,hx⟩,z,fun v H' y=>?_⟩
  obtain⟨e,y⟩:=y
  subst e
  exact(hs i v ys σc _ (y xs q) hlt p).2
 ·have e:i=xs.length:=by omega
  subst e
  exact .inl ⟨⟨xs,q,Nat.le_refl _⟩,hd ys σc H p⟩
end
theorem Z35 {X:Cx}{K:W.Frag}(hK:X.K=K):Z4t X (.builtin "isinstance") (fun xs H Q=>∃x T ty b,xs = [x,.ty T]/\TyOf K H x ty/\PySem.W.kitOne K ty (.type T)=some b/\Q (.bl b) H):=by
 subst hK
 exact Z3t
theorem Zfi {X:Cx}{e st:Expr}{te ts:TE}{pos p2:Pos}(he:PE X e te)(hst:PE X st ts):PE X (.Subscript e (.Slice none none (some st) p2) pos)
  (fun σ H Q=>te σ H fun x H1=>ts σ H1 fun y H2=>y = .int (-1)/\∃a xs,x = .ref a/\SqL X.K H2 a xs/\∀p,H2 p=none->Q (.ref p) (upd H2 p (.lst xs.reverse))):=by
 intro pins s σ H Q I h
 refine Subscript_ (thn (he pins s σ H _ I h) fun v s1 ⟨x,H1,I1,r1,q1⟩=>?_)
 refine wpAny_Slice ?_
 rw[evalPart_none]
 refine wpAny_pure (wpAny_pure ?_)
 rw[evalPart_some]
 refine thn (hst pins s1 σ H1 _ I1 q1) fun vs s3 ⟨y,H3,I3,ry,ey,a,xs,ex,hx,q⟩=>?_
 subst ey ex
 cases r1
 obtain⟨t,rfl⟩:=ry
 have I4:Inv X pins σ H3 { s3 with heap:=s3.heap.push { cls:=.type "slice",data:=.fields #[.none,.none,.int (-1) t] } }:=I3.kept (t':=s3.toks) fun b ob q=>Heap.get?_push_of_some _ q
 obtain⟨its,r,ht,hz⟩:=I4.list hx
 have hlen:=r.length
 refine tail_any (ops:=[.ref a,.ref s3.heap.objs.size]) ht.isList.typeIs slot_list_getitem.lookup (wpAny_getItem_list_slice ht.isList (Heap.IsSliceOf.new ..) .none .none (.int (-1) t) (by simp) ?_ (by rw[size_toArray] <;> omega)) (by with_unfolding_all rfl)
 rw[PySem.W.krv_pick]
 refine⟨.ref _,_,I4.laid (t':=s3.toks) (o:=.lst xs.reverse) (fun b ob q=>Heap.get?_push_of_some _ q) (Nat.le_refl _) ?_,rfl,q _ (I4.hok.fresh (Nat.le_refl _))⟩
 exact⟨by rw[length_reverse];exact hz,its.reverse,0,r.reverse,by
  rw[show(its.toArray.toList.reverse).toArray=its.reverse.toArray by simp]
  exact Heap.get?_push_size _ rfl⟩
theorem Z3h {α : Type}{l:List α}{i:Nat}{c : α}(p : α -> Bool)(h:l[i]? = some c):(l.take (i+1)).filter p=(l.take i).filter p++(if p c=true then [c] else []):=by
 rw[take_add_one,h,filter_append]
 cases hp:p c <;> simp [hp]
section
variable {X:Cx}{K:W.Frag}
theorem Z52 (hK:X.K=K):OpR X (compareOp .NotIn) (rIn K true):=by subst hK;exact Z46
theorem Z1u (hK:X.K=K):IxR X (rIxT K):=by subst hK;exact Z0x
theorem Zi3 (hK:X.K=K):IxR X (rIxL K):=by subst hK;exact Z16
end
theorem strs_of:∀{ts:List Str} {us:List Value},Vals (ts.map V.str) us->StrsAre us ts
 |[],_,.nil=>.nil
 |t::ts,_,.cons r rs=>by obtain⟨k,rfl⟩:=r;exact .cons t k (strs_of rs)
theorem Zfj:∀{us:List Value} {ts:List Str},StrsAre us ts->Vals (ts.map V.str) us
 |_,_,.nil=>.nil
 |_,_,.cons y t r=>.cons ⟨t,rfl⟩ (Zfj r)
inductive PV where
 |at (v:V)
 |tup (xs:List PV)
mutual
def Z67:PV->PV->Bool
 | .at v,.at w=>eqV v w
 | .tup xs,.tup ys=>Z1y xs ys
 | .at _,.tup _=>false
 | .tup _,.at _=>false
def Z1y:List PV->List PV->Bool
 |[],[]=>true
 |x::xs,y::ys=>Z67 x y&&Z1y xs ys
 |[],_::_=>false
 |_::_,[]=>false
end
mutual
inductive IsPV (K:W.Frag)(H:Hp):Nat->V->PV->Prop where
 |at {n:Nat} {v:V} (f:Z45 v=true):IsPV K H n v (.at v)
 |tup {n:Nat} {a:Addr} {vs:List V} {ts:List PV} (h:SqT K H a vs) (r:IsPVs K H n vs ts):IsPV K H (n+1) (.ref a) (.tup ts)
inductive IsPVs (K:W.Frag)(H:Hp):Nat->List V->List PV->Prop where
 |nil {n:Nat}:IsPVs K H n [] []
 |cons {n:Nat} {v:V} {vs:List V} {t:PV} {ts:List PV} (h:IsPV K H n v t) (r:IsPVs K H n vs ts):IsPVs K H n (v::vs) (t::ts)
end
theorem IsPVs.length {K:W.Frag}{H:Hp}{n:Nat}:∀{vs:List V} {ts:List PV},IsPVs K H n vs ts->vs.length=ts.length
 |_,_,.nil=>rfl
 |_,_,.cons _ r=>congrArg (· + 1) r.length
theorem IsPVs.get {K:W.Frag}{H:Hp}{n:Nat}:∀{vs:List V} {ts:List PV} {j:Nat} {v:V},IsPVs K H n vs ts->vs[j]? = some v->∃t,ts[j]? = some t/\IsPV K H n v t
 |_,_,_,_,.nil,e=>by simp at e
 |_,_,0,_,.cons h _,e=>by simp at e;subst e;exact⟨_,rfl,h⟩
 |_,_,j+1,_,.cons _ r,e=>by
  rw[List.getElem?_cons_succ] at e
  obtain⟨t,e2,h⟩:=r.get e
  exact⟨t,by rw[List.getElem?_cons_succ];exact e2,h⟩
theorem Zca:∀{v:V},Z45 v=true->eqV v v=true:=by
 intro v h
 cases v with
 |non=>rfl
 |bl b=>exact beq_self_eq_true b
 |int i=>exact beq_self_eq_true i
 |str x=>exact beq_self_eq_true x
 |_=>cases h
theorem Za5:∀(ts us:List PV),((List.range (min ts.length us.length)).all (fun j=>Z67 (ts.getD j (.at .non)) (us.getD j (.at .non)))&&ts.length==us.length)=Z1y ts us
 |[],[]=>by unfold Z1y;rfl
 |[],_::_=>by unfold Z1y;simp
 |_::_,[]=>by unfold Z1y;simp
 |t::ts,u::us=>by
  have ih:=Za5 ts us
  unfold Z1y
  rw[<- ih]
  simp only [length_cons,Nat.add_min_add_right,List.range_succ_eq_map,all_cons,all_map,Bool.and_assoc]
  simp [Function.comp_def]
section
variable {X:Cx}{pins:List (Addr×Obj)}{σ:St}{H:Hp}{s:Shared}
theorem Z6m {n:Nat}(ih:∀{v:V} {t u:PV},IsPV X.K H n v t->IsPV X.K H n v u->Z67 t u=true):∀(vs:List V) {ts us:List PV},IsPVs X.K H n vs ts->IsPVs X.K H n vs us->Z1y ts us=true:=by
 intro vs
 induction vs with
 |nil=>
  intro ts us h h'
  cases h
  cases h'
  unfold Z1y
  rfl
 |cons v vs ihv=>
  intro ts us h h'
  cases h with
  |cons a b=>
   cases h' with
   |cons a' b'=>
    unfold Z1y
    rw[ih a a',ihv b b']
    rfl
theorem Zko (I:Inv X pins σ H s):∀(n:Nat) {v:V} {t u:PV},IsPV X.K H n v t->IsPV X.K H n v u->Z67 t u=true:=by
 intro n
 induction n with
 |zero=>
  intro v t u h h'
  cases h with
  | «at» f =>
   cases h' with
   | «at» g => unfold Z67; exact Zca f
 |succ n ih=>
  intro v t u h h'
  cases h with
  | «at» f =>
   cases h' with
   | «at» g => unfold Z67; exact Zca f
   |tup a b=>exact absurd (show false=true from f) Bool.false_ne_true
  |tup a r=>
   cases h' with
   | «at» g => exact absurd (show false = true from g) Bool.false_ne_true
   |tup a' r'=>
    have e:=I.tuple_inj a a'
    subst e
    unfold Z67
    exact Z6m ih _ r r'
theorem Zi4 (I:Inv X pins σ H s){n:Nat}{vs:List V}{ts us:List PV}(h:IsPVs X.K H n vs ts)(h':IsPVs X.K H n vs us):Z1y ts us=true:=Z6m (Zko I n) _ h h'
theorem Zi5 (I:Inv X pins σ H s){n:Nat}{A:Around}{vs ws:List V}{ts us:List PV}{its its2:List Value}(r:IsPVs X.K H n vs ts)(r':IsPVs X.K H n ws us)(v1:Vals vs its)(v2:Vals ws its2)
  (ih:∀{x y:V} {t u:PV} {v w:Value},IsPV X.K H n x t->IsPV X.K H n y u->RelV x v->RelV y w->SeqAt.EqAt A s v w (Z67 t u)):
  (∀j (h1:j<its.toArray.size) (h2:j<its2.toArray.size),SeqAt.EqAt A s its.toArray[j] its2.toArray[j] ((fun j=>Z67 (ts.getD j (.at .non)) (us.getD j (.at .non))) j)) ∧
  ((List.range (min its.toArray.size its2.toArray.size)).all (fun j=>Z67 (ts.getD j (.at .non)) (us.getD j (.at .non)))&&its.toArray.size==its2.toArray.size)=Z1y ts us:=by
 have l1:=v1.length
 have l2:=v2.length
 have l3:=r.length
 have l4:=r'.length
 constructor
 ·intro j h1 h2
  simp only [size_toArray] at h1 h2
  have g1:vs[j]? = some vs[j]:=List.getElem?_eq_getElem (by omega)
  have g2:ws[j]? = some ws[j]:=List.getElem?_eq_getElem (by omega)
  obtain⟨u1,e1,ru1⟩:=v1.get g1
  obtain⟨u2,e2,ru2⟩:=v2.get g2
  obtain⟨t1,f1,p1⟩:=r.get g1
  obtain⟨t2,f2,p2⟩:=r'.get g2
  have k1:its.toArray[j]=u1:=by
   have:its[j]? = some its[j]:=List.getElem?_eq_getElem h1
   rw[e1] at this
   simpa using (Option.some.inj this).symm
  have k2:its2.toArray[j]=u2:=by
   have:its2[j]? = some its2[j]:=List.getElem?_eq_getElem h2
   rw[e2] at this
   simpa using (Option.some.inj this).symm
  rw[k1,k2]
  show SeqAt.EqAt A s u1 u2 (Z67 (ts.getD j (.at .non)) (us.getD j (.at .non)))
  rw[show ts.getD j (.at .non)=t1 by simp [List.getD,f1],show us.getD j (.at .non)=t2 by simp [List.getD,f2]]
  exact ih p1 p2 ru1 ru2
 ·rw[size_toArray,size_toArray,<- l1,<- l2,l3,l4]
  exact Za5 ts us
theorem Zi6 (I:Inv X pins σ H s){n:Nat}{A:Around}(hu:A.units+(n+1)<cLine)
  (ih:∀(A:Around),A.units+n<cLine->∀{x y:V} {t u:PV} {v w:Value},IsPV X.K H n x t->IsPV X.K H n y u->RelV x v->RelV y w->SeqAt.EqAt A s v w (Z67 t u))
  {a b:Addr} {vs ws:List V} {ts us:List PV} {its its2:List Value} (h:SqT X.K H a vs) (r:IsPVs X.K H n vs ts) (h':SqT X.K H b ws) (r':IsPVs X.K H n ws us)
  (v1:Vals vs its) (pl:IsTup s.heap a its.toArray) (v2:Vals ws its2) (pl2:IsTup s.heap b its2.toArray):SeqAt.EqAt A s (.ref a) (.ref b) (Z1y ts us):=by
 by_cases hab:a=b
 ·subst hab
  have e:=I.tuple_inj h h'
  subst e
  rw[Zi4 I r r']
  exact SeqAt.EqAt.same _
 ·obtain⟨e1,e2⟩:=Zi5 (A:=A.in1) I r r' v1 v2 (fun hx hy rx ry=>ih A.in1 (by show A.units+1+n<cLine;omega) hx hy rx ry)
  rw[<- e2]
  exact SeqAt.EqAt.of_refs hab (SeqAt.RcAt.tuples pl pl2 (by omega) e1)
theorem Zb5 (I:Inv X pins σ H s):∀(n:Nat) (A:Around),A.units+n<cLine->∀{x y:V} {t u:PV} {v w:Value},IsPV X.K H n x t->IsPV X.K H n y u->RelV x v->RelV y w->SeqAt.EqAt A s v w (Z67 t u):=by
 intro n
 induction n with
 |zero=>
  intro A hu x y t u v w hx hy rx ry
  cases hx with
  | «at» f =>
   cases hy with
   | «at» g => unfold Z67; exact Z9w rx ry f g
 |succ n ih=>
  intro A hu x y t u v w hx hy rx ry
  have hu0:A.units<cLine:=by omega
  cases hx with
  | «at» f =>
   cases hy with
   | «at» g => unfold Z67; exact Z9w rx ry f g
   |tup h r=>
    cases ry
    obtain⟨its,_,pl,_⟩:=I.tuple h
    unfold Z67
    cases x with
    |non=>cases rx;exact SeqAt.EqAt.none_tuple pl hu0
    |bl b=>cases rx;exact SeqAt.EqAt.bool_tuple b pl hu0
    |int i=>obtain⟨k,rfl⟩:=rx;exact SeqAt.EqAt.int_tuple i k pl hu0
    |str z=>obtain⟨k,rfl⟩:=rx;exact SeqAt.EqAt.str_tuple z k pl hu0
    |_=>cases f
  |tup h r=>
   cases rx
   obtain⟨its,v1,pl,_⟩:=I.tuple h
   cases hy with
   | «at» g =>
    unfold Z67
    cases y with
    |non=>cases ry;exact SeqAt.EqAt.tuple_none pl hu0
    |bl b=>cases ry;exact SeqAt.EqAt.tuple_bool b pl hu0
    |int i=>obtain⟨k,rfl⟩:=ry;exact SeqAt.EqAt.tuple_int i k pl hu0
    |str z=>obtain⟨k,rfl⟩:=ry;exact SeqAt.EqAt.tuple_str z k pl hu0
    |_=>cases g
   |tup h' r'=>
    cases ry
    obtain⟨its2,v2,pl2,_⟩:=I.tuple h'
    unfold Z67
    exact Zi6 I hu ih h r h' r' v1 pl v2 pl2
end
section
variable {X:Cx}
inductive rEqT (K:W.Frag)(n:Nat)(neg:Bool)(x:V)(y:V)(H:Hp)(Q:VK):Prop
 |mk (a b vs ws ts us:_) (_:x = .ref a) (_:y = .ref b) (_:SqT K H a vs) (_:IsPVs K H n vs ts) (_:SqT K H b ws) (_:IsPVs K H n ws us) (_:Q (.bl (if neg then !Z1y ts us else Z1y ts us)) H):rEqT K n neg x y H Q
theorem Zfk (n:Nat)(hu:X.A.units+(n+1)<cLine):OpR X (compareOp .Eq) (rEqT X.K n false):=by
 intro pins s σ H x y v u Q I rx ry h
 obtain⟨a,b,vs,ws,ts,us,rfl,rfl,ha,r,hb,r',q⟩:=h
 cases rx
 cases ry
 obtain⟨its,v1,pl,_⟩:=I.tuple ha
 obtain⟨its2,v2,pl2,_⟩:=I.tuple hb
 obtain⟨e1,e2⟩:=Zi5 (A:=X.A.in1) I r r' v1 v2 (fun hx hy rx ry=>Zb5 I n X.A.in1 (by show X.A.units+1+n<cLine;omega) hx hy rx ry)
 refine SeqAt.eq_tupleAt pl pl2 (by omega) e1 (Z10 I q ?_)
 exact e2.symm
theorem Zfl (n:Nat)(hu:X.A.units+(n+1)<cLine):OpR X (compareOp .NotEq) (rEqT X.K n true):=by
 intro pins s σ H x y v u Q I rx ry h
 obtain⟨a,b,vs,ws,ts,us,rfl,rfl,ha,r,hb,r',q⟩:=h
 cases rx
 cases ry
 obtain⟨its,v1,pl,_⟩:=I.tuple ha
 obtain⟨its2,v2,pl2,_⟩:=I.tuple hb
 obtain⟨e1,e2⟩:=Zi5 (A:=X.A.in1) I r r' v1 v2 (fun hx hy rx ry=>Zb5 I n X.A.in1 (by show X.A.units+1+n<cLine;omega) hx hy rx ry)
 refine SeqAt.RcNeAt.tuples pl pl2 (by omega) e1 X.prog X.w _ _ (Z10 I q ?_)
 show(!Z1y ts us)=_
 rw[e2]
end
end L2
namespace L2
open PySem PySem.Spec PyProof.Rows PySem.Builtin PySem.Builtin.Str
theorem Zkp {n:Nat}{j:Int}(h:(n:Int)<=j):(strSliceIndices none (some j) 1 n).length=n:=by
 unfold strSliceIndices sliceRange
 simp only [show(1:Int)>0 by decide,if_true,length_map,length_range]
 split <;> (try split) <;> (try split) <;> (try simp only [Int.ediv_one]) <;> omega
theorem Zkq {x:Str}{j:Int}(hx:0<x.length)(hj:1<=j):0<(Txt.slice x none (some j)).length:=by
 have hl:x.cps.toList.length=x.length:=by simp [Str.length]
 by_cases h:j<=x.length
 ·have e:=beq_iff_eq.mp (slice_closes_to (x:=x) (j:=j) ⟨by omega,by rw[hl];exact h⟩)
  rw[e]
  show 0<(List.toArray _).size
  rw[size_toArray,length_take,length_drop,hl]
  omega
 ·have e:Txt.slice x none (some j)=x:=by
   unfold Txt.slice
   rw[Zkp (show((x.length:Nat):Int)<=j by omega)]
   simp
  rw[e];exact hx
theorem Zk0 {x:Str}{j:Int}(hj:0<=j):((Txt.slice x none (some j)).length:Int)<=j:=by
 have hl:x.cps.toList.length=x.length:=by simp [Str.length]
 by_cases h:j<=x.length
 ·have e:=beq_iff_eq.mp (slice_closes_to (x:=x) (j:=j) ⟨hj,by rw[hl];exact h⟩)
  rw[e]
  show(((List.toArray _).size:Nat):Int)<=j
  rw[size_toArray,length_take,length_drop,hl]
  omega
 ·have:=Txt.slice_le x none (some j)
  omega
theorem Zi7 {x:Str}{i:Int}(h0:0<=i)(h:i<=x.length):((Txt.slice x (some i) none).length:Int)=x.length-i:=by
 have hl:x.cps.toList.length=x.length:=by simp [Str.length]
 rw[slice_from_eq h0 h rfl]
 show(((List.toArray _).size:Nat):Int)=_
 rw[size_toArray,length_take,length_drop,hl]
 omega
end L2
namespace L2
open PySem PySem.Spec PyProof.Rows
def Zi8:Expr->Option (List V)
 | .List es _=>es.mapM Z7t
 |_=>none
theorem Zi9:∀{es:List Expr} {vs:List V},es.mapM Z7t=some vs->es.map Z7t=vs.map some:=by
 intro es
 induction es with
 |nil=>
  intro vs h
  rw[List.mapM_nil] at h
  have:vs = []:=(Option.some.inj h).symm
  subst this
  rfl
 |cons e es ih=>
  intro vs h
  rw[List.mapM_cons] at h
  cases he:Z7t e with
  |none=>rw[he] at h;cases h
  |some v=>
   cases hr:es.mapM Z7t with
   |none=>rw[he,hr] at h;cases h
   |some r=>
    rw[he,hr] at h
    have:vs=v::r:=(Option.some.inj h).symm
    subst this
    rw[map_cons,map_cons,he,ih hr]
theorem Z53 {X:Cx}{e:Expr}{vs:List V}(h:Zi8 e=some vs):PE X e (Zqb (fun _ H Q=>Q vs H)):=by
 cases e with
 |List es p=>exact Z14 (Za4 (Zi9 h))
 |_=>cases h
inductive Th where
 |at (v:V)
 |tup (xs:List Th)
 |lst (xs:List Th)
def smallV:V->Bool
 | .str x=>decide (x.length<=1000)
 |v=>Z45 v
theorem smallV.flat {v:V}(h:smallV v=true):Z45 v=true:=by
 cases v with
 |str x=>rfl
 |_=>exact h
mutual
inductive IsTh (H:Hp):V->Th->Prop where
 |at {v:V} (f:smallV v=true):IsTh H v (.at v)
 |tup {a:Addr} {vs:List V} {ts:List Th} (h:H a=some (.tup vs)) (r:IsThs H vs ts):IsTh H (.ref a) (.tup ts)
 |lst {a:Addr} {vs:List V} {ts:List Th} (h:H a=some (.lst vs)) (r:IsThs H vs ts):IsTh H (.ref a) (.lst ts)
inductive IsThs (H:Hp):List V->List Th->Prop where
 |nil:IsThs H [] []
 |cons {v:V} {vs:List V} {t:Th} {ts:List Th} (h:IsTh H v t) (r:IsThs H vs ts):IsThs H (v::vs) (t::ts)
end
def Kp (H H':Hp):Prop:=∀a o,H a=some o->(∀kvs,o ≠ .dK kvs)->H' a=some o
theorem Kp.of {H H1:Hp}(a:Same H H1):Kp H H1:=fun c o e _=>a c o e
mutual
theorem IsTh.kp {H H':Hp}(k:Kp H H'):∀{v:V} {t:Th},IsTh H v t->IsTh H' v t
 |_,_,.at f=>.at f
 |_,_,.tup h r=>.tup (k _ _ h (fun _ z=>by cases z)) (IsThs.kp k r)
 |_,_,.lst h r=>.lst (k _ _ h (fun _ z=>by cases z)) (IsThs.kp k r)
theorem IsThs.kp {H H':Hp}(k:Kp H H'):∀{vs:List V} {ts:List Th},IsThs H vs ts->IsThs H' vs ts
 |_,_,.nil=>.nil
 |_,_,.cons h r=>.cons (IsTh.kp k h) (IsThs.kp k r)
end
theorem IsThs.len {H:Hp}:∀(vs:List V) {ts:List Th},IsThs H vs ts->vs.length=ts.length:=by
 intro vs
 induction vs with
 |nil=>intro ts h;cases h;rfl
 |cons v vs ih=>
  intro ts h
  cases h with
  |cons a b=>rw[length_cons,length_cons,ih b]
theorem IsThs.app {H:Hp}:∀(vs:List V) {ws:List V} {ts us:List Th},IsThs H vs ts->IsThs H ws us->IsThs H (vs++ws) (ts++us):=by
 intro vs
 induction vs with
 |nil=>intro ws ts us h g;cases h;exact g
 |cons v vs ih=>
  intro ws ts us h g
  cases h with
  |cons a b=>exact .cons a (ih b g)
section
variable {X:Cx}
theorem Zkr {c:TT}{tb:TS}{D:Ends}{σ:St}{H:Hp}(Pv:Nat->St->Hp->Prop)(m0:Nat)(h0:Pv m0 σ H)
  (hs:∀m σ H,Pv m σ H->c σ H fun b H1=>if b=true then tb { D with nx:=fun σ' H'=>∃m',m'<m/\Pv m' σ' H',ct:=fun σ' H'=>∃m',m'<m/\Pv m' σ' H',bk:=D.nx } σ H1 else D.nx σ H1)
  (mono:∀ σ H Q Q',(∀b H1,Q b H1->Q' b H1)->c σ H Q->c σ H Q'):tWhile c tb D σ H:=by
 refine⟨Pv,⟨m0,h0⟩,?_⟩
 intro m σ H p
 refine mono σ H _ _ (fun b H1 q=>?_) (hs m σ H p)
 cases b with
 |true=>exact⟨_,fun σ' H' z=>z,q⟩
 |false=>exact q
end
end L2
namespace L2
open PySem PySem.Spec PyProof.Rows
section
variable {X:Cx}
theorem Z6n (hu:X.A.units<cLine):OpR X (compareOp .Eq) (fun x y H Q=>∃a b xs,x = .ref a/\y = .ref b/\SqL X.K H a xs/\SqL X.K H b []/\Q (.bl xs.isEmpty) H):=by
 intro pins s σ H x y v u Q I rx ry h
 obtain⟨a,b,xs,rfl,rfl,hx,hy,q⟩:=h
 cases rx
 cases ry
 obtain⟨its,r,pl,hz⟩:=I.list hx
 obtain⟨its2,r2,pl2,hz2⟩:=I.list hy
 cases r2
 cases r with
 |nil=>
  refine SeqAt.eq_listAt (e:=fun _=>true) pl.isList pl2.isList rfl hu (fun j h1 h2=>absurd h2 (by simp)) ?_
  exact Z10 I q (by simp)
 |cons r1 r'=>
  refine SeqAt.eq_list_lengthsAt pl.isList pl2.isList (by simp) hu ?_
  exact Z10 I q rfl
end
end L2
namespace HT
open PySem PySem.Spec PyProof.Rows
section
variable {prog:Program}{w:World}{A:Around}{E:Value->Shared->Prop}{s:Shared}
theorem getItem_tuple_all {t sl:Addr}{items:Array Value}{vl vu:Value}{lo hi:Option Int}{Q:Value->Shared->Prop}(ht:IsTup s.heap t items)(hs:s.heap.IsSliceOf sl vl vu .none)(pl:IsPart vl lo)(pu:IsPart vu hi)
  (hw:sIx items.size 0 lo=0/\sIx items.size items.size hi=items.size) (h:Q (.ref t) s):wpAny (model prog w) A (getItem (.ref t) (.ref sl)) Q E s:=by
 obtain⟨os,hos,hcs,hds⟩:=id hs
 have hTs:s.TypeIs (.ref sl) "slice":=⟨os,hos,hcs⟩
 unfold getItem
 try with_reducible refine wpAny_holding ?_
 first|refine wpAny_bind (wpAny_pure ?_)|skip
 refine wpAny_bind (wpAny_sequenceKey ht.typeIs (by decide) ?_)
 refine wpAny_bind (wpAny_callSpecial?_slot (name:=Str.ofString "__getitem__") ht.typeIs PyProof.Rows.slot_tuple_getitem
  (wpAny_call_entry PyProof.Rows.slot_tuple_getitem ht.typeIs entry_tuple_getitem ?_ (args_tuple_getitem _ _)))
 show wpAny _ _ (Builtin.Tuple.tupleItemsOf (.ref t) >>= _) _ _ s
 refine wpAny_bind (tupleItemsOf_ ht ?_)
 refine wpAny_bind (wpAny_typeOf hTs ?_)
 rw[if_pos (by decide)]
 refine wpAny_bind (Z3y hs pl pu ?_)
 have hno:((((sIx items.size 0 lo:Nat):Int)==0&&(1:Int)==1&&(sIx items.size items.size hi-sIx items.size 0 lo)==items.size)=true):=by
  rw[hw.1,hw.2];simp
 show wpAny _ _ (if (((sIx items.size 0 lo:Nat):Int)==0&&(1:Int)==1&&(sIx items.size items.size hi-sIx items.size 0 lo)==items.size)=true then _ else _) _ _ s
 rw[if_pos hno]
 refine wpAny_bind (m:=Builtin.Tuple.tupleIsExact _) (wpAny_bind (wpAny_typeOf ht.typeIs (wpAny_pure ?_)))
 rw[if_pos (by decide)]
 refine wpAny_bind (wpAny_rule ?_)
 exact wpAny_pure ⟨_,rfl,wpAny_pure h⟩
end
end HT
namespace L2
open PySem PySem.Spec PyProof.Rows
section
variable {X:Cx}
theorem Zia {xs:List V}{lo hi:Option Int}(h:HT.sIx xs.length 0 lo=0/\HT.sIx xs.length xs.length hi=xs.length):Z7g xs lo hi=xs:=by
 unfold Z7g
 rw[h.1,h.2,drop_zero,Nat.sub_zero,take_of_length_le (Nat.le_refl _)]
theorem Zcb (hc:X.calm=true):Z4t X (.builtin "sum") (fun xs H Q=>∃(a:Addr) (ns:List Int),xs = [.ref a]/\SqL X.K H a (ns.map V.int)/\Q (.int ns.sum) H):=by
 intro pins s σ H xs us Q I r h
 obtain⟨a,ns,rfl,ha,q⟩:=h
 obtain⟨u,rfl,ru⟩:=Z7f r
 cases ru
 obtain⟨its,r1,pl,hz⟩:=I.list ha
 have hi:=Zdm r1
 obtain⟨ys,hys⟩:=hi.allInts.items
 have e1:(intItems ys).toList=its:=by rw[<- hys]
 have e2:preSum (numAt ys) ys.size=ns.sum:=by
  rw[preSum_eq,take_of_length_le (by simp),<- nums_intItems,e1,hi.numsOf]
 refine sum_intListG (I.ok.hd hc) (hys▸pl.isList) fun h' tk t' hk=>?_
 rw[e2]
 exact⟨.int ns.sum,H,I.kept hk,⟨_,rfl⟩,q⟩
inductive rSlP (x:V)(lo:Option Int)(hi:Option Int)(H:Hp)(Q:VK):Prop
 |mk (a xs:_) (_:x = .ref a) (_:H a=some (.tup xs)) (_:∀p H',Same H H'->H' p=some (.tup (Z7g xs lo hi))->Q (.ref p) H'):rSlP x lo hi H Q
theorem Zb6:SlR X rSlP:=by
 intro pins s σ H x v vl vu lo hi sl Q I rx hs pl pu h
 obtain⟨a,xs,rfl,hx,q⟩:=h
 by_cases hw:HT.sIx xs.length 0 lo=0/\HT.sIx xs.length xs.length hi=xs.length
 ·cases rx
  obtain⟨its,r,ht,hz⟩:=I.tuple (SqT.of hx)
  have hlen:its.toArray.size=xs.length:=by rw[size_toArray];exact r.length.symm
  refine⟨"tuple",_,PyProof.Rows.slot_tuple_getitem.lookup,ht.typeIs,?_⟩
  refine HT.getItem_tuple_all ht hs pl pu (by rw[hlen];exact hw) ?_
  exact⟨.ref a,H,I,rfl,q a H (Same.refl H) (by rw[Zia hw];exact hx)⟩
 ·exact Zn3 pins s σ H (.ref a) v vl vu lo hi sl Q I rx hs pl pu ⟨a,xs,rfl,SqT.of hx,hw,fun p hp=>q p _ (Z01 hp) Z00⟩
inductive rCatP (x:V)(y:V)(H:Hp)(Q:VK):Prop
 |mk (a b xs ys:_) (_:x = .ref a) (_:y = .ref b) (_:H a=some (.tup xs)) (_:H b=some (.tup ys)) (_:xs.length+ys.length<=sizeLine) (_:∀p H',Same H H'->H' p=some (.tup (xs++ys))->Q (.ref p) H'):rCatP x y H Q
theorem Zfm:OpR X (binaryOp .Add) rCatP:=by
 intro pins s σ H x y v u Q I rx ry h
 obtain⟨a,b,xs,ys,rfl,rfl,ha,hb,hz,q⟩:=h
 by_cases hx:xs = []
 ·subst hx
  cases rx
  cases ry
  obtain⟨its,r1,p1,_⟩:=I.tuple (SqT.of ha)
  obtain⟨its2,r2,p2,_⟩:=I.tuple (SqT.of hb)
  cases r1
  obtain⟨⟨cls,dd,data,sl⟩,ho,hc,n,hd⟩:=id p1
  obtain⟨⟨cls2,dd2,data2,sl2⟩,ho2,hc2,n2,hd2⟩:=id p2
  simp only at hc hd hc2 hd2
  subst hc hd hc2 hd2
  exact concat_meets ⟨_,ho,rfl⟩ ⟨_,ho2,rfl⟩ noFill_tuple_add seq_tuple_add PySem.F.slot_tuple_add PySem.F.entry_tuple_add (PySem.F.args_tuple_add_2 _ _)
   (tuple_addW0 a b _ _ n n2 dd dd2 sl sl2 (by simp)) ⟨ho,ho2,⟨.ref b,H,I,rfl,q b H (Same.refl H) hb⟩⟩
 ·refine Zkk pins s σ H (.ref a) (.ref b) v u Q I rx ry ⟨a,b,xs,ys,rfl,rfl,SqT.of ha,SqT.of hb,hx,hz,fun hy=>?_,fun hy p hp=>?_⟩
  ·subst hy
   exact q a H (Same.refl H) (by rw[append_nil];exact ha)
  ·exact q p _ (Z01 hp) Z00
end
end L2
namespace L2
open PySem PySem.Spec PyProof.Rows
def isTup:Th->Bool
 | .tup _=>true
 |_=>false
def Zop:Th->String
 | .at .non=>"NoneType"
 | .at (.bl _)=>"bool"
 | .at (.int _)=>"int"
 | .at (.str _)=>"str"
 | .tup _=>"tuple"
 | .lst _=>"list"
 |_=>""
def Zn9:Th->Bool
 | .at (.bl _)=>true
 |_=>false
def Zna:Th->Bool
 | .at (.int _)=>true
 | .at (.bl _)=>true
 |_=>false
theorem Zb7 {K:W.Frag}{H:Hp}{v:V}{t:Th}(h:IsTh H v t):TyOf K H v (.type (Zop t)):=by
 cases h with
 | «at» f =>
  cases v with
  |non=>exact .non
  |bl b=>exact .bl b
  |int i=>exact .int i
  |str x=>exact .str x
  |_=>exact absurd (show false=true from f) Bool.false_ne_true
 |tup e r=>exact .tup e
 |lst e r=>exact .lst e
structure Kits (K:W.Frag):Prop where
 int:∀{H:Hp} {v:V} {t:Th},IsTh H v t->PySem.W.kitOne K (.type (Zop t)) (.type "int")=some (Zna t)
 bl:∀{H:Hp} {v:V} {t:Th},IsTh H v t->PySem.W.kitOne K (.type (Zop t)) (.type "bool")=some (Zn9 t)
 tup:∀{H:Hp} {v:V} {t:Th},IsTh H v t->PySem.W.kitOne K (.type (Zop t)) (.type "tuple")=some (isTup t)
theorem Z1c {H:Hp}:∀(vs:List V) {ts:List Th} {i:Nat} {v:V},IsThs H vs ts->vs[i]? = some v->∃t,ts[i]? = some t/\IsTh H v t:=by
 intro vs
 induction vs with
 |nil=>intro ts i v h e;cases e
 |cons u vs ih=>
  intro ts i v h e
  cases h with
  |cons a b=>
   cases i with
   |zero=>
    have e':u=v:=by simpa using e
    subst e'
    exact⟨_,rfl,a⟩
   |succ i=>
    rw[List.getElem?_cons_succ] at e
    obtain⟨t,e1,e2⟩:=ih b e
    exact⟨t,by rw[List.getElem?_cons_succ];exact e1,e2⟩
theorem Znb {H:Hp}:∀(vs:List V) {ts:List Th} {i:Nat} {t:Th},IsThs H vs ts->ts[i]? = some t->∃v,vs[i]? = some v/\IsTh H v t:=by
 intro vs
 induction vs with
 |nil=>intro ts i t h e;cases h;simp at e
 |cons v vs ih=>
  intro ts i t h e
  cases h with
  |cons a b=>
   cases i with
   |zero=>simp at e;subst e;exact⟨v,rfl,a⟩
   |succ i=>simp at e;obtain⟨w,e1,e2⟩:=ih b e;exact⟨w,by simpa using e1,e2⟩
theorem Z13 {H:Hp}{v:V}{ts:List Th}(h:IsTh H v (.tup ts)):∃a vs,v = .ref a/\H a=some (.tup vs)/\IsThs H vs ts:=by
 cases h with
 |tup e r=>exact⟨_,_,rfl,e,r⟩
theorem Zk1 {H:Hp}{v:V}{ts:List Th}(h:IsTh H v (.lst ts)):∃a vs,v = .ref a/\H a=some (.lst vs)/\IsThs H vs ts:=by
 cases h with
 |lst e r=>exact⟨_,_,rfl,e,r⟩
theorem Z1i {H:Hp}{v w:V}(h:IsTh H v (.at w)):v=w/\smallV w=true:=by
 cases h with
 | «at» f => exact ⟨rfl, f⟩
theorem Zib {H:Hp}:∀(ws:List V) {us:List Th},IsThs H ws us->ws ≠ []->∃ws' y us' u,ws=ws' ++ [y]/\us=us' ++ [u]/\IsThs H ws' us'/\IsTh H y u:=by
 intro ws
 induction ws with
 |nil=>intro us h n;exact absurd rfl n
 |cons v vs ih=>
  intro us h _
  cases h with
  | @cons _ _ t ts a b=>
   cases vs with
   |nil=>cases b;exact⟨[],v,[],t,rfl,rfl,.nil,a⟩
   |cons v2 vs2=>
    obtain⟨ws',y,us',u,e1,e2,h1,h2⟩:=ih b (by intro z;cases z)
    exact⟨v::ws',y,t::us',u,by rw[e1];rfl,by rw[e2];rfl,.cons a h1,h2⟩
theorem Zfn {H:Hp}:∀(vs:List V) {ts:List Th},IsThs H vs ts->IsThs H vs.reverse ts.reverse:=by
 intro vs
 induction vs with
 |nil=>intro ts h;cases h;exact .nil
 |cons v vs ih=>
  intro ts h
  cases h with
  |cons a b=>
   rw[reverse_cons,reverse_cons]
   exact IsThs.app _ (ih b) (.cons a .nil)
mutual
def Th.sz:Th->Nat
 | .at _=>1
 | .tup xs=>1+szs xs
 | .lst xs=>1+szs xs
def szs:List Th->Nat
 |[]=>0
 |x::xs=>Th.sz x+szs xs
end
theorem Znc (t:Th):1<=Th.sz t:=by
 cases t with
 | «at» v => simp [Th.sz]
 |tup xs=>simp [Th.sz]
 |lst xs=>simp [Th.sz]
theorem Zks:∀us ws:List Th,szs (us++ws)=szs us+szs ws:=by
 intro us
 induction us with
 |nil=>intro ws;simp [szs]
 |cons u us ih=>intro ws;rw[cons_append,szs,szs,ih];omega
theorem Zb8:∀ts:List Th,ts.length<=szs ts:=by
 intro ts
 induction ts with
 |nil=>simp [szs]
 |cons t ts ih=>have:=Znc t;rw[length_cons,szs];omega
theorem Znd:∀(ts:List Th) (t:Th),t∈ts->Th.sz t<=szs ts:=by
 intro ts
 induction ts with
 |nil=>intro t h;cases h
 |cons u ts ih=>
  intro t h
  rw[szs]
  rcases mem_cons.mp h with z|z
  ·subst z;omega
  ·have:=ih t z;omega
def Z1a (ts:List Th):List Th:=ts.filter isTup
def OkT:Nat->Th->Prop
 | 0,_=>False
 |n+1,t=>∃(w:Str) (ts:List Th),t = .tup (.at (.str w)::ts)/\(w="let"->(Z1a ts).length=2)/\∀x∈ts,isTup x=true->OkT n x
theorem OkT.up:∀(n:Nat) {t:Th},OkT n t->OkT (n+1) t:=by
 intro n
 induction n with
 |zero=>intro t h;exact h.elim
 |succ n ih=>
  intro t h
  obtain⟨w,ts,e,h1,h2⟩:=h
  exact⟨w,ts,e,h1,fun x hx hx2=>ih (h2 x hx hx2)⟩
theorem Z2x {H H':Hp}{p:Addr}(s:Same H H')(h:H' p=none):H p=none:=by
 cases e:H p with
 |none=>rfl
 |some o=>rw[s p o e] at h;cases h
theorem Zpb (x:V)(xs:List V):Z7g (x::xs) (some 1) none=xs:=by
 have e1:HT.sIx (x::xs).length 0 (some 1)=min 1 (x::xs).length:=rfl
 have e2:HT.sIx (x::xs).length (x::xs).length none=(x::xs).length:=rfl
 unfold Z7g
 rw[e1,e2,length_cons]
 have e3:min 1 (xs.length+1)=1:=by omega
 rw[e3]
 show List.take (xs.length+1-1) xs=xs
 exact take_of_length_le (by omega)
end L2
namespace L2
open PySem
def Z2r (xs:List Th):Bool:=match xs with
 | .at (.str w)::_=>decide (w="let")
 |_=>false
def Z38 (l:Bool)(me:Th):Nat->List (Str×Th)
 | 0=>if l=true then [(("opened":Str),me)] else []
 | 1=>if l=true then [(("closed":Str),me)] else []
 |_=>[]
mutual
def Z0s:Th->List (Str×Th)
 | .tup xs=>(("node":Str),Th.tup xs)::Z2y (Z2r xs) (.tup xs) 0 xs
 | .at _=>[]
 | .lst _=>[]
def Z2y (l:Bool)(me:Th):Nat->List Th->List (Str×Th)
 |_,[]=>[]
 |i,x::xs=>if isTup x=true then Z0s x++(Z38 l me i++Z2y l me (i+1) xs) else Z2y l me i xs
end
def Z2s (l:Bool)(me:Th):Nat->List Th->List (Str×Th)
 |_,[]=>[]
 |i,k::ks=>Z0s k++(Z38 l me i++Z2s l me (i+1) ks)
theorem Z3i (l:Bool)(me:Th):∀(xs:List Th) (i:Nat),Z2y l me i xs=Z2s l me i (Z1a xs):=by
 intro xs
 induction xs with
 |nil=>intro i;simp [Z2y,Z2s,Z1a]
 |cons x xs ih=>
  intro i
  rw[Z2y]
  unfold Z1a
  rw[filter_cons]
  split
  ·rw[Z2s,ih];rfl
  ·rw[ih];rfl
theorem Z48 (me:Th):∀(ks:List Th) (i:Nat),Z2s false me i ks=(ks.map Z0s).flatten:=by
 intro ks
 induction ks with
 |nil=>intro i;rfl
 |cons k ks ih=>
  intro i
  have e:Z38 false me i = []:=by
   match i with
   | 0=>rfl
   | 1=>rfl
   |_+2=>rfl
  rw[Z2s,ih,e,map_cons,flatten_cons,nil_append]
theorem Zb9 {xs:List Th}(h:Z2r xs=false):Z0s (.tup xs)=(("node":Str),Th.tup xs)::((Z1a xs).map Z0s).flatten:=by
 rw[Z0s,Z3i,h,Z48]
theorem Zfo {xs:List Th}{k1 k2:Th}(h:Z2r xs=true)(hk:Z1a xs = [k1,k2]):Z0s (.tup xs)=(("node":Str),Th.tup xs)::(Z0s k1++((("opened":Str),Th.tup xs)::(Z0s k2 ++ [(("closed":Str),Th.tup xs)]))):=by
 rw[Z0s,Z3i,h,hk]
 simp [Z2s,Z38]
def Z5o (p:Str×Th):List (Str×Th):=if p.1="node" then Z0s p.2 else [p]
def Z2o (st:List (Str×Th)):List (Str×Th):=(st.reverse.map Z5o).flatten
theorem Z54 (st:List (Str×Th))(x:Str×Th):Z2o (st ++ [x])=Z5o x++Z2o st:=by
 unfold Z2o;simp
theorem Zcc (st r:List (Str×Th)):Z2o (st++r.reverse)=(r.map Z5o).flatten++Z2o st:=by
 unfold Z2o;simp
theorem Z4h (t:Th):Z5o (("node":Str),t)=Z0s t:=by unfold Z5o;simp
theorem Zdt (t:Th):Z5o (("opened":Str),t) = [(("opened":Str),t)]:=by
 unfold Z5o;rw[if_neg (by show ¬ (("opened":Str)="node");decide+kernel)]
theorem Zba (t:Th):Z5o (("closed":Str),t) = [(("closed":Str),t)]:=by
 unfold Z5o;rw[if_neg (by show ¬ (("closed":Str)="node");decide+kernel)]
theorem Zdu {st:List (Str×Th)}{xs:List Th}(h:Z2r xs=false):Z2o (st ++ [(("node":Str),Th.tup xs)])=(("node":Str),Th.tup xs)::Z2o (st++((Z1a xs).map fun k=>(("node":Str),k)).reverse):=by
 rw[Z54,Zcc,Z4h,Zb9 h,map_map]
 show _::(_++_)=_::(_++_)
 congr 2
theorem Zic {st:List (Str×Th)}{xs:List Th}{k1 k2:Th}(h:Z2r xs=true)(hk:Z1a xs = [k1,k2]):
  Z2o (st ++ [(("node":Str),Th.tup xs)])=(("node":Str),Th.tup xs)::Z2o (st++([(("node":Str),k1),(("opened":Str),Th.tup xs),(("node":Str),k2),(("closed":Str),Th.tup xs)]:List (Str×Th)).reverse):=by
 rw[Z54,Zcc,Z4h,Zfo h hk]
 simp [Z4h,Zdt,Zba]
def pr (p:Str×Th):Th:=.tup [.at (.str p.1),p.2]
mutual
def cnt:Th->Nat
 | .tup xs=>1+Z3j xs
 | .at _=>0
 | .lst _=>0
def Z3j:List Th->Nat
 |[]=>0
 |x::xs=>cnt x+Z3j xs
end
mutual
def dp:Th->Nat
 | .tup xs=>1+dps xs
 | .at _=>0
 | .lst _=>0
def dps:List Th->Nat
 |[]=>0
 |x::xs=>max (dp x) (dps xs)
end
theorem Zkt (t:Th)(h:isTup t=false):cnt t=0:=by
 cases t with
 | «at» v => simp [cnt]
 |lst xs=>simp [cnt]
 |tup xs=>cases h
theorem Zfp:∀xs:List Th,Z3j xs=Z3j (Z1a xs):=by
 intro xs
 induction xs with
 |nil=>rfl
 |cons x xs ih=>
  unfold Z1a
  rw[Z3j,filter_cons]
  split
  ·rw[Z3j,ih];rfl
  ·rw[Zkt x (by simp_all),Nat.zero_add,ih];rfl
def Z2j (l:List (Str×Th)):List (Str×Th):=l.filter fun p=>decide (p.1="node")
end L2
namespace Srt
open PySem PyProof.Rows
def Rs (p:Array Nat):Prop:=p.toList.Pairwise (· < ·)
theorem Rs.lt {p:Array Nat}(h:Rs p){i j:Nat}(hij:i<j)(hj:j<p.size):p[i]'(by omega)<p[j]:=by
 have q:=List.pairwise_iff_getElem.mp h i j (by simpa using Nat.lt_trans hij hj) (by simpa using hj) hij
 simpa using q
theorem Rs.le {p:Array Nat}(h:Rs p){i j:Nat}(hij:i<=j)(hj:j<p.size):p[i]'(by omega)<=p[j]:=by
 rcases Nat.lt_or_eq_of_le hij with z|z
 ·exact Nat.le_of_lt (h.lt z hj)
 ·subst z
  exact Nat.le_refl _
theorem Z8k {p:Array Nat}(h:Rs p)(x:Nat):∀(f lo hi:Nat),hi<=p.size->hi-lo<=f->lo<=hi->(∀i (q:i<p.size),i<lo->p[i]<x)->(∀i (q:i<p.size),hi<=i->x<=p[i]) →
  SetTable.below.go p x f lo hi<=p.size/\(∀i (q:i<p.size),i<SetTable.below.go p x f lo hi->p[i]<x)/\∀i (q:i<p.size),SetTable.below.go p x f lo hi<=i->x<=p[i]
 | 0,lo,hi,a,b,c,d,e=>by
  obtain rfl:lo=hi:=by omega
  exact⟨a,d,e⟩
 |f+1,lo,hi,a,b,c,d,e=>by
  unfold SetTable.below.go
  by_cases z:lo<hi
  ·rw[if_pos z]
   have hm:(lo+hi) / 2<p.size:=by omega
   have g:p.getD ((lo+hi) / 2) x=p[(lo+hi) / 2]:=by rw[Array.getD_eq_getD_getElem?,getElem?_pos p _ hm];rfl
   dsimp only
   rw[g]
   by_cases y:p[(lo+hi) / 2]<x
   ·rw[if_pos y]
    exact Z8k h x f _ hi a (by omega) (by omega) (fun i q r=>Nat.lt_of_le_of_lt (h.le (by omega) hm) y) e
   ·rw[if_neg y]
    exact Z8k h x f lo _ (by omega) (by omega) (by omega) d fun i q r=>Nat.le_trans (Nat.le_of_not_lt y) (h.le r q)
  ·rw[if_neg z]
   obtain rfl:lo=hi:=by omega
   exact⟨a,d,e⟩
theorem Zcd {p:Array Nat}(h:Rs p)(x:Nat):SetTable.below p x<=p.size/\(∀i (q:i<p.size),i<SetTable.below p x->p[i]<x)/\∀i (q:i<p.size),SetTable.below p x<=i->x<=p[i]:=
 Z8k h x p.size 0 p.size (Nat.le_refl _) (by omega) (Nat.zero_le _) (fun i q r=>absurd r (by omega)) fun i q r=>absurd r (by omega)
theorem Zce {p:Array Nat}(h:Rs p){x n:Nat}(hn:n<=p.size)(h1:∀i (q:i<p.size),i<n->p[i]<x)(h2:∀i (q:i<p.size),n<=i->x<=p[i]):SetTable.below p x=n:=by
 obtain⟨a,b,c⟩:=Zcd h x
 rcases Nat.lt_trichotomy (SetTable.below p x) n with z|z|z
 ·have u:=h1 _ (by omega) z
  have v:=c (SetTable.below p x) (by omega) (Nat.le_refl _)
  omega
 ·exact z
 ·have u:=b n (by omega) z
  have v:=h2 n (by omega) (Nat.le_refl _)
  omega
theorem Rs.put {p:Array Nat}(h:Rs p){x:Nat}(hx:p[SetTable.below p x]? ≠ some x):Rs (SetTable.insertAt p (SetTable.below p x) x):=by
 obtain⟨a,b,c⟩:=Zcd h x
 unfold Rs
 rw[SetTable.toList_insertAt]
 refine List.pairwise_append.mpr ⟨h.sublist (List.take_sublist _ _),pairwise_cons.mpr ⟨fun y hy=>?_,h.sublist (List.drop_sublist _ _)⟩,fun u hu y hy=>?_⟩
 ·obtain⟨i,hi⟩:=mem_iff_getElem?.mp hy
  rw[List.getElem?_drop,Array.getElem?_toList] at hi
  obtain⟨q,rfl⟩:=Array.getElem?_eq_some_iff.mp hi
  have z:=c _ q (by omega)
  rcases Nat.lt_or_eq_of_le z with z|z
  ·exact z
  ·exfalso
   rcases Nat.eq_zero_or_pos i with e|e
   ·subst e
    refine hx ?_
    rw[Array.getElem?_eq_some_iff]
    exact⟨q,z.symm⟩
   ·have w:=c (SetTable.below p x) (by omega) (Nat.le_refl _)
    have v:=h.lt (i:=SetTable.below p x) (j:=SetTable.below p x+i) (by omega) q
    omega
 ·obtain⟨i,hi⟩:=mem_iff_getElem?.mp hu
  rw[List.getElem?_take] at hi
  have ux:u<x:=by
   by_cases l:i<SetTable.below p x
   ·rw[if_pos l,Array.getElem?_toList] at hi
    obtain⟨q,rfl⟩:=Array.getElem?_eq_some_iff.mp hi
    exact b i q l
   ·rw[if_neg l] at hi
    cases hi
  rcases mem_cons.mp hy with rfl|hy
  ·exact ux
  ·obtain⟨k,hk⟩:=mem_iff_getElem?.mp hy
   rw[List.getElem?_drop,Array.getElem?_toList] at hk
   obtain⟨q,rfl⟩:=Array.getElem?_eq_some_iff.mp hk
   exact Nat.lt_of_lt_of_le ux (c _ q (by omega))
def Zne (t:SetTable)(j:Nat):Prop:=t.place[SetTable.below t.place j]? ≠ some j
theorem Za6 {t:SetTable}{j:Nat}(h:∀i,t.slot j ≠ .live i):Zne t j:=by
 intro e
 refine h (SetTable.below t.place j) ?_
 unfold SetTable.slot
 dsimp only
 rw[if_pos (by rw[e];exact beq_self_eq_true _)]
theorem Z55 (t:SetTable)(p:SetTable.Probe):(t.advance p).dummy=p.dummy:=by
 unfold SetTable.advance
 split <;> rfl
theorem Z5p {t:SetTable}{ha:Nat->Int}{h:Int}{j:Nat}{d:Option Nat}:∀(f:Nat) (p:SetTable.Probe),(∀x,p.dummy=some x->Zne t x)->SetTable.probe.go t ha h f p=some (.empty j d)->Zne t j/\∀x,d=some x->Zne t x
 | 0,p,_,e=>by
  unfold SetTable.probe.go at e
  cases e
 |f+1,p,hp,e=>by
  unfold SetTable.probe.go at e
  cases hs:t.slot p.j with
  |empty=>
   rw[hs] at e
   dsimp only at e
   cases e
   exact⟨Za6 fun i z=>(by rw[hs] at z;cases z),hp⟩
  |dummy=>
   rw[hs] at e
   dsimp only at e
   refine Z5p f _ (fun x hx=>?_) e
   rw[Z55] at hx
   cases hx
   exact Za6 fun i z=>by rw[hs] at z;cases z
  |live i=>
   rw[hs] at e
   dsimp only at e
   split at e
   ·cases e
   ·exact Z5p f _ (fun x hx=>hp x (by rw[Z55] at hx;exact hx)) e
theorem Zfq {t:SetTable}{h:Int}{j:Nat}{b:Bool}(e:t.freeSlot h=some (j,b)):Zne t j:=by
 unfold SetTable.freeSlot at e
 split at e
 ·next k d q=>
  obtain⟨a,c⟩:=Z5p _ _ (fun x z=>by cases z) q
  cases d with
  |none=>
   cases e
   exact a
  |some x=>
   cases e
   exact c _ rfl
 ·cases e
theorem Z4i (t:SetTable)(n:Nat):Rs (t.standIn n).place:=by
 show(Array.range n).toList.Pairwise (· < ·)
 rw[Array.toList_range]
 exact List.pairwise_lt_range
theorem Zfr {t:SetTable}(hr:Rs t.place)(es:Array (Int×Value))(h:Int)(x:Value):Rs (layNew t es h x).2.1.place/\(layNew t es h x).2.1.led=t.led:=by
 unfold layNew
 split
 ·next j b e=>
  show Rs ((t.put j).1.orStandIn _).place/\((t.put j).1.orStandIn _).led=t.led
  unfold SetTable.orStandIn
  split
  ·exact⟨hr.put (Zfq e),rfl⟩
  ·exact⟨Z4i _ _,rfl⟩
 ·exact⟨Z4i _ _,rfl⟩
theorem Zku (f:Nat->Option (Nat×Nat))(hf:∀j p,f j=some p->p.1=j)(n:Nat):(((List.range n).filterMap f).map (·.1)).Pairwise (· < ·):=by
 rw[List.pairwise_map,List.pairwise_filterMap]
 refine List.Pairwise.imp ?_ (List.pairwise_lt_range (n:=n))
 intro a b hab p hp q hq
 rw[hf a p hp,hf b q hq]
 exact hab
theorem Z6o {t:SetTable}(es:Array (Int×Value))(n:Nat):Rs (relayAll t es n).2.1.place/\(relayAll t es n).2.1.led=t.led:=by
 unfold relayAll
 split
 ·next t' order e=>
  dsimp only
  split
  ·unfold SetTable.relaid SetTable.laid at e
   cases q:SetTable.layClean (SetTable.sizeAbove n-1) (es.map (·.1)) with
   |none=>
    rw[q] at e
    cases e
   |some owner=>
    rw[q] at e
    cases e
    refine⟨?_,rfl⟩
    refine Zku (fun j=>(owner.getD j none).map fun x=>(j,x)) (fun j p hp=>?_) _
    cases z:owner.getD j none with
    |none=>
     rw[z] at hp
     cases hp
    |some y=>
     rw[z] at hp
     cases hp
     rfl
  ·exact⟨Z4i _ _,rfl⟩
 ·exact⟨Z4i _ _,rfl⟩
theorem Z7u {α : Type}{l:List α}{i:Nat}(hi:i<l.length):(l[i]::l.eraseIdx i).Perm l:=by
 rw[List.eraseIdx_eq_take_drop_succ]
 refine List.perm_middle.symm.trans (List.Perm.of_eq ?_)
 rw[<- List.drop_eq_getElem_cons hi,take_append_drop]
theorem Zfs {α : Type}(f:Nat->Nat):∀(n k:Nat) (l:List α) (out:Array α),l.length<=n->(pickOrder.go f n k l out).toList.Perm (out.toList++l)
 | 0,k,l,out,h=>by
  obtain rfl:l = []:=List.length_eq_zero_iff.mp (by omega)
  unfold pickOrder.go
  rw[append_nil]
 |n+1,k,l,out,h=>by
  unfold pickOrder.go
  cases q:l[f k % l.length]? with
  |none=>
   dsimp only
   have:l = []:=by
    cases l with
    |nil=>rfl
    |cons a t=>
     have z:=List.getElem?_eq_none_iff.mp q
     have w:=Nat.mod_lt (f k) (show 0<(a::t).length from Nat.succ_pos _)
     omega
   subst this
   rw[append_nil]
  |some x=>
   dsimp only
   obtain⟨hi,hx⟩:=List.getElem?_eq_some_iff.mp q
   refine(Zfs f n (k+1) _ _ (by rw[List.length_eraseIdx_of_lt hi];omega)).trans ?_
   rw[Array.toList_push,append_assoc]
   refine List.Perm.append_left _ ?_
   subst hx
   exact Z7u hi
theorem Z6p {α : Type}(f:Nat->Nat)(xs:Array α):(pickOrder f xs).toList.Perm xs.toList:=by
 refine(Zfs f xs.size 0 xs.toList #[] (by simp)).trans ?_
 exact List.Perm.of_eq (nil_append _)
section
variable {M:Model}{A:Around}{E:Value->Shared->Prop}
theorem Za7 {src:Source}{n:Nat}{s:Shared}{Q:Nat->Shared->Prop}(hn:n≠0)(h:∀i d,i<n->Q i { s with drawn:=d }):wpAny M A (choose src n) Q E s:=
 fun _ _ _=>⟨hn,h _ _ (Nat.mod_lt _ (Nat.pos_of_ne_zero hn))⟩
theorem Za8 {α : Type}:∀(n:Nat) (l:List α) (s:Shared) (Q:List α -> Shared->Prop),l.length<=n->(∀m d,m.Perm l->Q m { s with drawn:=d })->wpAny M A (drawOrder n l) Q E s
 | 0,l,s,Q,h,q=>by
  obtain rfl:l = []:=List.length_eq_zero_iff.mp (by omega)
  unfold drawOrder
  exact wpAny_pure (q [] s.drawn (List.Perm.refl _))
 |n+1,[],s,Q,h,q=>by
  unfold drawOrder
  exact wpAny_pure (q [] s.drawn (List.Perm.refl _))
 |n+1,a::t,s,Q,h,q=>by
  unfold drawOrder
  refine wpAny_bind (Za7 (by simp) fun i d hi=>?_)
  have e:(a::t)[i]? = some (a::t)[i]:=getElem?_pos _ i hi
  rw[e]
  dsimp only
  refine wpAny_bind (Za8 n _ _ _ (by rw[List.length_eraseIdx_of_lt hi];omega) fun m d' hm=>?_)
  exact wpAny_pure (q _ d' ((List.Perm.cons _ hm).trans (Z7u hi)))
end
def byT (w:World):Bool:=w.params.followText "set-order"
section
variable {P:Program}{w:World}{A:Around}{E:Value->Shared->Prop}{s:Shared}
theorem Zft (b:Bool){s₁:Shared}{Q':Unit->Shared->Prop}(q:Q' () s₁):wpAny (model P w) A (match b with|true=>rule "set.scan.the-table-gave-way" | false=>pure ()) Q' E s₁:=by
 cases b
 ·exact wpAny_pure q
 ·exact wpAny_rule q
end
end Srt
namespace Srt
open PySem PyProof.Rows PySem.Spec
abbrev Zdv (w:World):Obj:={ cls:=.type "set",dict:=none,data:=.set #[] 0 (.fresh 0 0 (!byT w)) }
section
variable {P:Program}{w:World}{A:Around}{E:Value->Shared->Prop}{s:Shared}
theorem Zqy (a:Value){Q₁:Value->Shared->Prop}(h:Q₁ (.ref s.heap.objs.size) { s with heap:=s.heap.push (Zdv w) }):codeAny (model P w) A (.call (.builtin "set.__new__") ⟨[.type "set",a],[]⟩) (wants Q₁ E) s:=by
 refine codeAny_of_tree ?_
 show wpAny _ A.in1 (checkBuiltinCall "set.__new__" ⟨[.type "set",a],[]⟩ >>= fun _=>again (.builtin "set.__new__" ⟨[.type "set",a],[]⟩)) _ _ s
 refine wpAny_bind (wpAny_of_eq (F.newCall_set_1 a) (wpAny_pure ⟨plainId_quiet F.plain_set_new _,codeAny_builtin F.entry_set_new ?k⟩))
 case k=>
  rw[Around.under_plainId F.plain_set_new _]
  have hsub:=sub_set_self
  obtain⟨hp,g,d,tk,os⟩:=s
  unfold Builtin.«set.__new__» Builtin.Frozenset.newClass
  dsimp only
  wp_walk
  refine wpAny_askSetting (wpAny_pure ?j)
  case j=>
   simp only [newObj]
   exact wpAny_bind (wpAny_alloc (wpAny_pure (wpAny_pure h)))
end
theorem sl_next:Slot "set_iterator" "__next__" "set_iterator.__next__":=by
 refine .of (owner:="set_iterator") (n:="__next__") ?_ ?_ ?_ ?_ ?_ ?_
 ·rw[typeLookup_type,builtinLookup_eq_fast]
  kernel_rfl
 ·decide+kernel
 ·decide+kernel
 ·decide+kernel
 ·first|exact .inl (by decide+kernel)|exact .inr (by decide+kernel)
 ·rw[isSubtype_type]
  kernel_rfl
theorem Zfu:Slot "set_iterator" "__iter__" "set_iterator.__iter__":=by
 refine .of (owner:="set_iterator") (n:="__iter__") ?_ ?_ ?_ ?_ ?_ ?_
 ·rw[typeLookup_type,builtinLookup_eq_fast]
  kernel_rfl
 ·decide+kernel
 ·decide+kernel
 ·decide+kernel
 ·first|exact .inl (by decide+kernel)|exact .inr (by decide+kernel)
 ·rw[isSubtype_type]
  kernel_rfl
theorem Z8l : entryFor table "set_iterator.__next__" = some Builtin.«set_iterator.__next__» := entryFor_of_tree (by kernel_rfl)
theorem Zkv : entryFor table "set.__iter__" = some Builtin.«frozenset.__iter__» := entryFor_alias (id' := "frozenset.__iter__") (by kernel_rfl) rfl (by decide +kernel) (by kernel_rfl)
theorem Zkw : entryFor table "set_iterator.__iter__" = some Builtin.«dict_keyiterator.__iter__» := entryFor_alias (id' := "dict_keyiterator.__iter__") (by kernel_rfl) rfl (by decide +kernel) (by kernel_rfl)
theorem Z8m (a:Value):argsOk "set_iterator.__next__" ⟨[a],[]⟩:=by
 unfold argsOk
 kernel_rfl
theorem Zkx (a:Value):argsOk "set_iterator.__iter__" ⟨[a],[]⟩:=by
 unfold argsOk
 kernel_rfl
def SA (h:Heap)(a:Addr)(es:Array (Int×Value))(ep:Nat)(t:SetTable):Prop:=∃o,h.get? a=some o/\o.ExactSet/\o.data = .set es ep t/\t.fits es.size=true
def SI (h:Heap)(it:Addr)(first:Value)(i:Nat)(a:Addr)(n ep:Nat):Prop:=h.get? it=some { cls:=.type "set_iterator",data:=.fields #[first,.int i 0,.ref a,.int n 0,.int ep 0] }
section
variable {P:Program}{w:World}{A:Around}{E:Value->Shared->Prop}{s:Shared}
theorem Z8n {Q:Bool->Shared->Prop}(h:Q (byT w) s):wpAny (model P w) A setsByText Q E s:=by
 unfold setsByText
 exact wpAny_bind (wpAny_askSetting (wpAny_pure h))
theorem SI.type {it a:Addr}{first:Value}{i n ep:Nat}(x:SI s.heap it first i a n ep):s.TypeIs (.ref it) "set_iterator":=⟨_,x,rfl⟩
theorem SI.set {it a:Addr}{f f':Value}{i n ep:Nat}{h:Heap}(x:SI h it f i a n ep):SI ((h.update it (Obj.mapFields (·.setIfInBounds 0 f'))).update it (Obj.mapFields (·.setIfInBounds 1 (rawInt ((i:Int)+1))))) it f' (i+1) a n ep:=by
 have g1:(h.update it (Obj.mapFields (·.setIfInBounds 0 f'))).get? it=some { cls:=.type "set_iterator",data:=.fields #[f',.int i 0,.ref a,.int n 0,.int ep 0] }:=Heap.get?_update_self _ x rfl
 exact Heap.get?_update_self _ g1 rfl
theorem SI.set1 {it a:Addr}{f:Value}{i n ep:Nat}{h:Heap}(x:SI h it f i a n ep):SI (h.update it (Obj.mapFields (·.setIfInBounds 1 (rawInt ((i:Int)+1))))) it f (i+1) a n ep:=Heap.get?_update_self _ x rfl
theorem Za9 {it a:Addr}{i slot ep nx:Nat}{x:Value}{es:Array (Int×Value)}{t:SetTable}{Q:Option Value->Shared->Prop}(hit:SI s.heap it (.int slot 0) i a es.size ep)(hs:SA s.heap a es ep t)
  (hn:∀(Q':Option (Value×Nat)->Shared->Prop) E',Q' (some (x,nx)) s->wpAny (model P w) A.in1 (setNext a slot i ep) Q' E' s)
  (q:∀h',SI h' it (.int nx 0) (i+1) a es.size ep->Heap.SameBut it s.heap h'->Q (some x) { s with heap:=h' }):wpAny (model P w) A (pyNext (.ref it)) Q E s:=by
 obtain⟨o,ho,hx,hdat,hf⟩:=hs
 unfold pyNext
 refine wpAny_bind (wpAny_attempt (wpAny_callSpecial?_slot (name:=Str.ofString "__next__") hit.type sl_next (wpAny_call_entry sl_next hit.type Z8l ?_ (Z8m _))))
 unfold Builtin.«set_iterator.__next__»
 refine wpAny_bind (wpAny_pure (wpAny_bind (wpAny_fieldsOf hit rfl ?_)))
 dsimp only
 refine wpAny_bind (wpAny_setEntries_of ho hdat hf ?_)
 rw[if_neg (by simp)]
 refine wpAny_bind (hn _ _ ?_)
 dsimp only
 refine wpAny_bind (wpAny_setField hit rfl (by simp) ?_)
 have g1:(s.heap.update it (Obj.mapFields (·.setIfInBounds 0 (rawInt nx)))).get? it=some { cls:=.type "set_iterator",data:=.fields #[.int nx 0,.int i 0,.ref a,.int es.size 0,.int ep 0] }:=Heap.get?_update_self _ hit rfl
 refine wpAny_bind (wpAny_setField g1 rfl (by simp) ?_)
 exact wpAny_pure ⟨_,rfl,wpAny_pure (q _ hit.set ((Heap.SameBut.update ..).trans (Heap.SameBut.update ..)))⟩
theorem Zaa {it a:Addr}{i slot ep:Nat}{es:Array (Int×Value)}{t:SetTable}{Q:Option Value->Shared->Prop}(hh:A.handled=none)(hit:SI s.heap it (.int slot 0) i a es.size ep)(hs:SA s.heap a es ep t)
  (hn:∀(Q':Option (Value×Nat)->Shared->Prop) E',Q' none s->wpAny (model P w) A.in1 (setNext a slot i ep) Q' E' s)
  (q:∀h',Heap.ExtBut it s.heap h'->Q none { s with heap:=h' }):wpAny (model P w) A (pyNext (.ref it)) Q E s:=by
 obtain⟨o,ho,hx,hdat,hf⟩:=hs
 unfold pyNext
 refine wpAny_bind (wpAny_attempt (wpAny_callSpecial?_slot (name:=Str.ofString "__next__") hit.type sl_next (wpAny_call_entry sl_next hit.type Z8l ?_ (Z8m _))))
 unfold Builtin.«set_iterator.__next__»
 refine wpAny_bind (wpAny_pure (wpAny_bind (wpAny_fieldsOf hit rfl ?_)))
 dsimp only
 refine wpAny_bind (wpAny_setEntries_of ho hdat hf ?_)
 rw[if_neg (by simp)]
 refine wpAny_bind (hn _ _ ?_)
 dsimp only
 refine wpAny_bind (wpAny_setField hit rfl (by simp) ?_)
 refine wpAny_bind ?_
 simp only [newExc,newTuple]
 refine wpAny_bind (wpAny_newObj_type ?_ (by size_fits))
 refine wpAny_bind (m:=firstArgMember _ _) (wpAny_of_eq (a:=Value.none) rfl ?_)
 refine wpAny_newObj_type ?_ (by size_fits)
 simp only [raiseNew]
 refine wpAny_bind (wpAny_handled ?_)
 rw[(show A.in1.handled=none from hh)]
 refine wpAny_bind (wpAny_pure (wpAny_throw ?_))
 refine wpAny_bind (wpAny_isInstance (T:="StopIteration") (b:=true) ⟨_,Heap.get?_push_size _ rfl,rfl⟩ isSubtype_stop ?_)
 exact wpAny_pure (q _ (((Heap.SameBut.update ..).extBut.push _).push _))
theorem Zdw {it a tp:Addr}{i ep:Nat}{es:Array (Int×Value)}{t:SetTable}{ps:List Nat}{p:Nat}{e:Int×Value}{Q:Option Value->Shared->Prop}(hit:SI s.heap it (.ref tp) i a es.size ep)(hs:SA s.heap a es ep t)
  (ht:s.heap.get? tp=some { cls:=.type "tuple",data:=.seq (ps.map fun(k:Nat)=>Value.int k 0).toArray 0 }) (hp:ps[i]? = some p) (he:es[p]? = some e)
  (q:∀h',SI h' it (.ref tp) (i+1) a es.size ep->Heap.SameBut it s.heap h'->Q (some e.2) { s with heap:=h' }):wpAny (model P w) A (pyNext (.ref it)) Q E s:=by
 obtain⟨o,ho,hx,hdat,hf⟩:=hs
 unfold pyNext
 refine wpAny_bind (wpAny_attempt (wpAny_callSpecial?_slot (name:=Str.ofString "__next__") hit.type sl_next (wpAny_call_entry sl_next hit.type Z8l ?_ (Z8m _))))
 unfold Builtin.«set_iterator.__next__»
 refine wpAny_bind (wpAny_pure (wpAny_bind (wpAny_fieldsOf hit rfl ?_)))
 dsimp only
 refine wpAny_bind (wpAny_setEntries_of ho hdat hf ?_)
 rw[if_neg (by simp)]
 refine wpAny_bind (wpAny_seqItems ht rfl ?_)
 have e1:(ps.map fun(k:Nat)=>Value.int k 0).toArray[(i:Int).toNat]? = some (.int p 0):=by
  rw[Int.toNat_natCast,List.getElem?_toArray,List.getElem?_map,hp]
  rfl
 dsimp only
 rw[e1]
 dsimp only
 rw[Int.toNat_natCast,Int.toNat_natCast]
 unfold setNextDrawn
 refine wpAny_bind (wpAny_bind (wpAny_setState_of ho hdat hf ?_))
 dsimp only
 rw[if_neg (by simp),he]
 refine wpAny_pure ?_
 refine wpAny_bind (wpAny_setField hit rfl (by simp) ?_)
 exact wpAny_pure ⟨_,rfl,wpAny_pure (q _ hit.set1 (Heap.SameBut.update ..))⟩
theorem Z7h {it a tp:Addr}{i ep:Nat}{es:Array (Int×Value)}{t:SetTable}{ps:List Nat}{Q:Option Value->Shared->Prop}(hh:A.handled=none)(hit:SI s.heap it (.ref tp) i a es.size ep)(hs:SA s.heap a es ep t)
  (ht:s.heap.get? tp=some { cls:=.type "tuple",data:=.seq (ps.map fun(k:Nat)=>Value.int k 0).toArray 0 }) (hp:ps[i]? = none)
  (q:∀h',Heap.ExtBut it s.heap h'->Q none { s with heap:=h' }):wpAny (model P w) A (pyNext (.ref it)) Q E s:=by
 obtain⟨o,ho,hx,hdat,hf⟩:=hs
 unfold pyNext
 refine wpAny_bind (wpAny_attempt (wpAny_callSpecial?_slot (name:=Str.ofString "__next__") hit.type sl_next (wpAny_call_entry sl_next hit.type Z8l ?_ (Z8m _))))
 unfold Builtin.«set_iterator.__next__»
 refine wpAny_bind (wpAny_pure (wpAny_bind (wpAny_fieldsOf hit rfl ?_)))
 dsimp only
 refine wpAny_bind (wpAny_setEntries_of ho hdat hf ?_)
 rw[if_neg (by simp)]
 refine wpAny_bind (wpAny_seqItems ht rfl ?_)
 have e1:(ps.map fun(k:Nat)=>Value.int k 0).toArray[(i:Int).toNat]? = none:=by
  rw[Int.toNat_natCast,List.getElem?_toArray,List.getElem?_map,hp]
  rfl
 dsimp only
 rw[e1]
 dsimp only
 refine wpAny_bind (wpAny_setField hit rfl (by simp) ?_)
 have g1:(s.heap.update it (Obj.mapFields (·.setIfInBounds 0 (rawInt 0)))).get? it=some { cls:=.type "set_iterator",data:=.fields #[.int 0 0,.int i 0,.ref a,.int es.size 0,.int ep 0] }:=Heap.get?_update_self _ hit rfl
 refine wpAny_bind (wpAny_setField g1 rfl (by simp) ?_)
 refine wpAny_bind ?_
 simp only [newExc,newTuple]
 refine wpAny_bind (wpAny_newObj_type ?_ (by size_fits))
 refine wpAny_bind (m:=firstArgMember _ _) (wpAny_of_eq (a:=Value.none) rfl ?_)
 refine wpAny_newObj_type ?_ (by size_fits)
 simp only [raiseNew]
 refine wpAny_bind (wpAny_handled ?_)
 rw[(show A.in1.handled=none from hh)]
 refine wpAny_bind (wpAny_pure (wpAny_throw ?_))
 refine wpAny_bind (wpAny_isInstance (T:="StopIteration") (b:=true) ⟨_,Heap.get?_push_size _ rfl,rfl⟩ isSubtype_stop ?_)
 exact wpAny_pure (q _ ((((Heap.SameBut.update ..).trans (Heap.SameBut.update ..)).extBut.push _).push _))
theorem Zcf {a:Addr}{i slot ep:Nat}{es:Array (Int×Value)}{t:SetTable}{Q:Option (Value×Nat)->Shared->Prop}(hs:SA s.heap a es ep t)(hb:byT w=false)(hd:(!t.plain&&decide (es.size>1))=false)(hl:t.led=true)
  (q:Q (match es[SetTable.below t.place slot]?,t.place[SetTable.below t.place slot]? with|some (_,x),some j=>some (x,j+1)|_,_=>none) s):wpAny (model P w) A (setNext a slot i ep) Q E s:=by
 obtain⟨o,ho,hx,hdat,hf⟩:=hs
 unfold setNext
 refine wpAny_bind (wpAny_setState_of ho hdat hf ?_)
 dsimp only
 refine wpAny_bind (Z8n ?_)
 rw[hb,if_neg Bool.false_ne_true]
 split
 ·next z=>
  have z:(!t.plain&&decide (es.size>1))=true:=z
  rw[hd] at z
  cases z
 ·refine wpAny_bind ?_
  show wpAny (model P w) A (if (!t.led && !es.isEmpty)=true then unsupported "set:maker-not-led" else pure PUnit.unit) _ _ _
  rw[hl,if_neg (by simp)]
  exact wpAny_pure (wpAny_pure q)
theorem Z56 {a:Addr}{i slot ep:Nat}{es:Array (Int×Value)}{t:SetTable}{Q:Option (Value×Nat)->Shared->Prop}(hs:SA s.heap a es ep t)(hb:byT w=true)
  (q:Q (((pickOrder (w.params.setOrder a ep) es)[i]?).map fun e=>(e.2,slot)) s):wpAny (model P w) A (setNext a slot i ep) Q E s:=by
 obtain⟨o,ho,hx,hdat,hf⟩:=hs
 unfold setNext
 refine wpAny_bind (wpAny_setState_of ho hdat hf ?_)
 dsimp only
 refine wpAny_bind (Z8n ?_)
 rw[hb,if_pos rfl,if_neg (by simp)]
 unfold setWalk
 refine wpAny_bind (wpAny_bind (wpAny_setState_of ho hdat hf ?_))
 dsimp only
 refine wpAny_bind (Z8n ?_)
 rw[hb,if_pos rfl]
 refine wpAny_bind (wpAny_askSetting (wpAny_pure (wpAny_pure q)))
end
section
variable {P:Program}{w:World}{A:Around}
theorem SI.at {h h':Heap}{it a:Addr}{f:Value}{i n ep:Nat}(x:SI h it f i a n ep)(k:∀o,h.get? it=some o->h'.get? it=some o):SI h' it f i a n ep:=k _ x
theorem SA.at {h h':Heap}{a:Addr}{es:Array (Int×Value)}{ep:Nat}{t:SetTable}(x:SA h a es ep t)(k:∀o,h.get? a=some o->h'.get? a=some o):SA h' a es ep t:=by
 obtain⟨o,ho,r⟩:=x
 exact⟨o,k o ho,r⟩
theorem Z6q {it a:Addr}{f:Value}{i n ep:Nat}{s:Shared}{Q:Value->Shared->Prop}{E:Value->Shared->Prop}(hit:SI s.heap it f i a n ep)(h:Q (.ref it) s):wpAny (model P w) A (pyIter (.ref it)) Q E s:=by
 refine wpAny_pyIter_slot hit.type Zfu (wpAny_call_entry Zfu hit.type Zkw ?_ (Zkx _))
 show wpAny _ _ (ret (.ref it)) _ _ s
 exact wpAny_pure ⟨_,rfl,"set_iterator",_,hit.type,sl_next.lookup,h⟩
def at0 (t:SetTable)(i:Nat):Nat:=if i=0 then 0 else t.place.getD (i-1) 0+1
theorem Zab {t:SetTable}(hr:Rs t.place){i:Nat}(hi:i<=t.place.size):SetTable.below t.place (at0 t i)=i:=by
 unfold at0
 by_cases e:i=0
 ·subst e
  rw[if_pos rfl]
  exact Zce hr (Nat.zero_le _) (fun i q r=>absurd r (by omega)) fun i q r=>Nat.zero_le _
 ·rw[if_neg e]
  have g:t.place.getD (i-1) 0=t.place[i-1]:=by rw[Array.getD_eq_getD_getElem?,getElem?_pos t.place _ (by omega)];rfl
  rw[g]
  refine Zce hr hi (fun k q r=>?_) fun k q r=>?_
  ·exact Nat.lt_succ_of_le (hr.le (by omega) (by omega))
  ·exact hr.lt (by omega) q
theorem Zdx (hh:A.handled=none)(it a:Addr)(hne:a≠it)(es:Array (Int×Value))(ep:Nat)(t:SetTable)(hb:byT w=false)(hd:(!t.plain&&decide (es.size>1))=false)(hl:t.led=true)(hr:Rs t.place)(hz:t.place.size=es.size):
  Walks P w A it [it,a] [it] es.size (fun i v=>(es.toList.map (·.2))[i]? = some v) (fun i h=>SI h it (.int (at0 t i:Nat) 0) i a es.size ep/\SA h a es ep t) where
 sub:=fun b h=>by simp at h;simp [h]
 frame:=fun _ _ _ st hk=>⟨st.1.at fun o e=>hk it (by simp) o e,st.2.at fun o e=>hk a (by simp) o e⟩
 item:=fun i s Q E hi st q=>by
  have hj:t.place[i]? = some t.place[i]:=getElem?_pos _ _ (by omega)
  have he:es[i]? = some es[i]:=getElem?_pos es i hi
  refine Za9 (x:=es[i].2) (nx:=t.place[i]+1) st.1 st.2 (fun Q' E' q'=>Zcf st.2 hb hd hl ?_) fun h' si sb=>?_
  ·rw[Zab hr (by omega),hj,he]
   exact q'
  ·have e1:at0 t (i+1)=t.place[i]+1:=by
    unfold at0
    rw[if_neg (by omega),Nat.add_sub_cancel,Array.getD_eq_getD_getElem?,hj]
    rfl
   refine q _ h' s.toks (by rw[List.getElem?_map,Array.getElem?_toList,he];rfl) ⟨by rw[e1];exact si,st.2.at fun o e=>sb.extBut a o hne e⟩ fun b o hb' e=>sb.extBut b o (fun z=>hb' (by simp [z])) e
 done:=fun s Q E st q=>by
  refine Zaa hh st.1 st.2 (fun Q' E' q'=>Zcf st.2 hb hd hl ?_) fun h' he=>q h' s.toks fun b o hb' e=>he b o (fun z=>hb' (by simp [z])) e
  rw[Zab hr (by omega),getElem?_neg es _ (by omega)]
  exact q'
 self:=fun _ _ _ _ st q=>Z6q st.1 q
theorem Zfv (hh:A.handled=none)(it a:Addr)(hne:a≠it)(es:Array (Int×Value))(ep:Nat)(t:SetTable)(hb:byT w=true):
  Walks P w A it [it,a] [it] es.size (fun i v=>((pickOrder (w.params.setOrder a ep) es).toList.map (·.2))[i]? = some v) (fun i h=>SI h it (.int (0:Nat) 0) i a es.size ep/\SA h a es ep t) where
 sub:=fun b h=>by simp at h;simp [h]
 frame:=fun _ _ _ st hk=>⟨st.1.at fun o e=>hk it (by simp) o e,st.2.at fun o e=>hk a (by simp) o e⟩
 item:=fun i s Q E hi st q=>by
  have sz:(pickOrder (w.params.setOrder a ep) es).size=es.size:=by
   have z:=(Z6p (w.params.setOrder a ep) es).length_eq
   simpa using z
  have he:(pickOrder (w.params.setOrder a ep) es)[i]? = some (pickOrder (w.params.setOrder a ep) es)[i]:=getElem?_pos _ _ (by omega)
  refine Za9 (x:=(pickOrder (w.params.setOrder a ep) es)[i].2) (nx:=0) st.1 st.2 (fun Q' E' q'=>Z56 st.2 hb ?_) fun h' si sb=>?_
  ·rw[he]
   exact q'
  ·refine q _ h' s.toks (by rw[List.getElem?_map,Array.getElem?_toList,he];rfl) ⟨si,st.2.at fun o e=>sb.extBut a o hne e⟩ fun b o hb' e=>sb.extBut b o (fun z=>hb' (by simp [z])) e
 done:=fun s Q E st q=>by
  have sz:(pickOrder (w.params.setOrder a ep) es).size=es.size:=by
   have z:=(Z6p (w.params.setOrder a ep) es).length_eq
   simpa using z
  refine Zaa hh st.1 st.2 (fun Q' E' q'=>Z56 st.2 hb ?_) fun h' he=>q h' s.toks fun b o hb' e=>he b o (fun z=>hb' (by simp [z])) e
  rw[getElem?_neg _ _ (by omega)]
  exact q'
 self:=fun _ _ _ _ st q=>Z6q st.1 q
theorem Zdy (hh:A.handled=none)(it a tp:Addr)(hne:a≠it)(hne2:tp≠it)(es:Array (Int×Value))(ep:Nat)(t:SetTable)(ps:List Nat)(hps:ps.Perm (List.range es.size)):
  Walks P w A it [it,a,tp] [it] es.size (fun i v=>(ps.map fun p=>(es.getD p (0,.none)).2)[i]? = some v)
   (fun i h=>SI h it (.ref tp) i a es.size ep/\SA h a es ep t/\h.get? tp=some { cls:=.type "tuple",data:=.seq (ps.map fun(k:Nat)=>Value.int k 0).toArray 0 }) where
 sub:=fun b h=>by simp at h;simp [h]
 frame:=fun _ _ _ st hk=>⟨st.1.at fun o e=>hk it (by simp) o e,st.2.1.at fun o e=>hk a (by simp) o e,hk tp (by simp) _ st.2.2⟩
 item:=fun i s Q E hi st q=>by
  have lp:ps.length=es.size:=by rw[hps.length_eq,length_range]
  have hp:ps[i]? = some ps[i]:=getElem?_pos _ _ (by omega)
  have lt:ps[i]<es.size:=mem_range.mp (hps.mem_iff.mp (getElem_mem ..))
  have he:es[ps[i]]? = some es[ps[i]]:=getElem?_pos es ps[i] lt
  refine Zdw st.1 st.2.1 st.2.2 hp he fun h' si sb=>?_
  refine q _ h' s.toks ?_ ⟨si,st.2.1.at fun o e=>sb.extBut a o hne e,sb.extBut tp _ hne2 st.2.2⟩ fun b o hb' e=>sb.extBut b o (fun z=>hb' (by simp [z])) e
  rw[List.getElem?_map,hp,Option.map_some,Array.getD_eq_getD_getElem?,he]
  rfl
 done:=fun s Q E st q=>by
  have lp:ps.length=es.size:=by rw[hps.length_eq,length_range]
  refine Z7h hh st.1 st.2.1 st.2.2 (getElem?_neg _ _ (by omega)) fun h' he=>q h' s.toks fun b o hb' e=>he b o (fun z=>hb' (by simp [z])) e
 self:=fun _ _ _ _ st q=>Z6q st.1 q
end
theorem map_range (es:Array (Int×Value)):((List.range es.size).map fun p=>(es.getD p (0,.none)).2)=es.toList.map (·.2):=by
 refine List.ext_getElem? fun i=>?_
 rw[List.getElem?_map,List.getElem?_map]
 have e:es.toList[i]? = es[i]? := Array.getElem?_toList
 rw[e]
 by_cases hi:i<es.size
 ·rw[List.getElem?_range hi,getElem?_pos es i hi,Option.map_some,Option.map_some,Array.getD_eq_getD_getElem?,getElem?_pos es i hi]
  rfl
 ·rw[getElem?_neg es i hi,List.getElem?_eq_none (by simpa using hi)]
  rfl
section
variable {P:Program}{w:World}{A:Around}{E:Value->Shared->Prop}{s:Shared}
theorem Zk2 {α : Type}{M:Model}{c:Prop}[Decidable c]{t e:Sem α}{Q : α -> Shared->Prop}(hc:c)(h:wpAny M A t Q E s):wpAny M A (if c then t else e) Q E s:=by
 rw[if_pos hc]
 exact h
theorem Znf:splitId "set.__len__"=some ("set","__len__"):=by decide+kernel
theorem Zid {a:Addr}{Q:Bool->Shared->Prop}(hT:s.TypeIs (.ref a) "set")(h:Q false s):wpAny (model P w) A (Builtin.List.listLengthHint (.ref a)) Q E s:=by
 unfold Builtin.List.listLengthHint
 refine wpAny_bind (wpAny_specialOf hT F.slot_set_len.lookup ?_)
 dsimp only
 rw[Znf]
 dsimp only
 refine wpAny_bind (wpAny_isInstance (b:=true) hT sub_set_self ?_)
 rw[if_neg (by decide)]
 refine Zk2 (by decide+kernel) ?_
 refine wpAny_bind (wpAny_typeOf hT ?_)
 exact wpAny_pure h
theorem Zky {a b:Addr}(h:a≠b):Builtin.List.listSameRef (.ref a) (.ref b)=false:=by
 unfold Builtin.List.listSameRef
 simp [h]
end
end Srt
namespace L2
open PySem PySem.Spec PyProof.Rows
mutual
def plT:Th->Bool
 | .at (.int _)=>true
 | .at (.str _)=>true
 | .at _=>false
 | .tup xs=>Z4q xs
 | .lst _=>false
def Z4q:List Th->Bool
 |[]=>true
 |x::xs=>plT x&&Z4q xs
end
mutual
def pvT:Th->PV
 | .at v=>.at v
 | .tup xs=>.tup (Z62 xs)
 | .lst _=>.at .non
def Z62:List Th->List PV
 |[]=>[]
 |x::xs=>pvT x::Z62 xs
end
mutual
theorem Zpc {K:W.Frag}{H:Hp}:∀{v:V} {t:Th},IsTh H v t->∀n,plT t=true->dp t<=n->IsPV K H n v (pvT t)
 |_,_,.at f,n,hp,hd=>by rw[pvT];exact .at (smallV.flat f)
 |_,_,.tup h r,n,hp,hd=>by
  rw[dp] at hd
  rw[plT] at hp
  rw[pvT]
  cases n with
  |zero=>exact absurd hd (by omega)
  |succ n=>exact .tup (SqT.of h) (Z7v r n hp (by omega))
 |_,_,.lst h r,n,hp,hd=>by rw[plT] at hp;cases hp
theorem Z7v {K:W.Frag}{H:Hp}:∀{vs:List V} {ts:List Th},IsThs H vs ts->∀n,Z4q ts=true->dps ts<=n->IsPVs K H n vs (Z62 ts)
 |_,_,.nil,n,hp,hd=>by rw[Z62];exact .nil
 |_,_,.cons h r,n,hp,hd=>by
  rw[Z4q,Bool.and_eq_true] at hp
  rw[dps] at hd
  rw[Z62]
  exact .cons (Zpc h n hp.1 (by omega)) (Z7v r n hp.2 (by omega))
end
theorem Zfw {v w:V}(hv:plT (.at v)=true)(hw:plT (.at w)=true):eqV v w=true↔v=w:=by
 cases v with
 |int i=>
  cases w with
  |int j=>simp [eqV]
  |str y=>simp [eqV]
  |_=>simp [plT] at hw
 |str x=>
  cases w with
  |int j=>simp [eqV]
  |str y=>simp [eqV]
  |_=>simp [plT] at hw
 |_=>simp [plT] at hv
mutual
theorem Zie:∀(t u:Th),plT t=true->plT u=true->(Z67 (pvT t) (pvT u)=true↔t=u)
 | .at v,.at w,ht,hu=>by rw[pvT,pvT,Z67,Zfw ht hu];simp
 | .at v,.tup ys,ht,hu=>by rw[pvT,pvT,Z67];simp
 | .tup xs,.at w,ht,hu=>by rw[pvT,pvT,Z67];simp
 | .tup xs,.tup ys,ht,hu=>by rw[plT] at ht hu;rw[pvT,pvT,Z67,Z6r xs ys ht hu];simp
 | .lst _,_,ht,hu=>by rw[plT] at ht;cases ht
 |_,.lst _,ht,hu=>by rw[plT] at hu;cases hu
theorem Z6r:∀(ts us:List Th),Z4q ts=true->Z4q us=true->(Z1y (Z62 ts) (Z62 us)=true↔ts=us)
 |[],[],_,_=>by rw[Z62,Z1y];simp
 |[],y::ys,_,_=>by rw[Z62,Z62,Z1y];simp
 |x::xs,[],_,_=>by rw[Z62,Z62,Z1y];simp
 |x::xs,y::ys,ht,hu=>by
  rw[Z4q,Bool.and_eq_true] at ht hu
  rw[Z62,Z62,Z1y,Bool.and_eq_true,Zie x y ht.1 hu.1,Z6r xs ys ht.2 hu.2]
  simp
end
section
variable {X:Cx}
inductive rSame (neg:Bool)(n:Nat)(mk:List Th->Th)(x:V)(y:V)(H:Hp)(Q:VK):Prop
 |mk (ts us:_) (_:IsTh H x (mk ts)) (_:IsTh H y (mk us)) (_:Z4q ts=true) (_:Z4q us=true) (_:dps ts<=n) (_:dps us<=n) (_:(ts=us->Q (.bl (!neg)) H)) (_:(ts≠us->Q (.bl neg) H)):rSame neg n mk x y H Q
theorem Zbb {n:Nat}{ts us:List Th}{Q:V->Hp->Prop}{H:Hp}{b neg:Bool}(p1:Z4q ts=true)(p2:Z4q us=true)(q1:ts=us->Q (.bl (!neg)) H)(q2:ts≠us->Q (.bl neg) H)(e:b=if neg then !Z1y (Z62 ts) (Z62 us) else Z1y (Z62 ts) (Z62 us)):Q (.bl b) H:=by
 have hi:=Z6r ts us p1 p2
 by_cases z:ts=us
 ·rw[hi.mpr z] at e
  have:b = !neg:=by rw[e];cases neg <;> rfl
  rw[this]
  exact q1 z
 ·have hf:Z1y (Z62 ts) (Z62 us)=false:=by
   cases h:Z1y (Z62 ts) (Z62 us) with
   |false=>rfl
   |true=>exact absurd (hi.mp h) z
  rw[hf] at e
  have:b=neg:=by rw[e];cases neg <;> rfl
  rw[this]
  exact q2 z
theorem Zkz {K:W.Frag}(hK:X.K=K)(n:Nat)(hu:X.A.units+(n+1)<cLine):OpR X (compareOp .Eq) (rSame false n .tup):=by
 subst hK
 intro pins s σ H x y v u Q I rx ry h
 obtain⟨ts,us,hx,hy,p1,p2,d1,d2,q1,q2⟩:=h
 obtain⟨a,vs,rfl,ha,hvs⟩:=Z13 hx
 obtain⟨b,ws,rfl,hb,hws⟩:=Z13 hy
 exact Zfk n hu pins s σ H _ _ v u Q I rx ry ⟨a,b,vs,ws,_,_,rfl,rfl,SqT.of ha,Z7v hvs n p1 d1,SqT.of hb,Z7v hws n p2 d2,Zbb (n:=n) (neg:=false) p1 p2 q1 q2 rfl⟩
theorem Zl0 {K:W.Frag}(hK:X.K=K)(n:Nat)(hu:X.A.units+(n+1)<cLine):OpR X (compareOp .NotEq) (rSame true n .lst):=by
 subst hK
 intro pins s σ H x y v u Q I rx ry h
 obtain⟨ts,us,hx,hy,p1,p2,d1,d2,q1,q2⟩:=h
 obtain⟨a,vs,rfl,ha,hvs⟩:=Zk1 hx
 obtain⟨b,ws,rfl,hb,hws⟩:=Zk1 hy
 cases rx
 cases ry
 obtain⟨its,v1,pl,_⟩:=I.list (SqL.of ha)
 obtain⟨its2,v2,pl2,_⟩:=I.list (SqL.of hb)
 have r:=Z7v (K:=X.K) hvs n p1 d1
 have r':=Z7v (K:=X.K) hws n p2 d2
 obtain⟨e1,e2⟩:=Zi5 (A:=X.A.in1) I r r' v1 v2 (fun hx hy rx ry=>Zb5 I n X.A.in1 (by show X.A.units+1+n<cLine;omega) hx hy rx ry)
 have hl1:=v1.length
 have hl2:=v2.length
 by_cases hs:its.length=its2.length
 ·refine SeqAt.RcNeAt.lists pl.isList pl2.isList (by simp only [size_toArray];exact hs) (by omega) e1 X.prog X.w _ _ ?_
  refine Z10 I (Zbb (n:=n) (neg:=true) p1 p2 q1 q2 rfl) ?_
  show(!Z1y (Z62 ts) (Z62 us))=_
  rw[<- e2]
  simp [hs]
 ·refine SeqAt.RcNeAt.lists_lengths pl.isList pl2.isList (by simp only [size_toArray,bne_iff_ne];exact hs) (by omega) X.prog X.w _ _ ?_
  refine Z10 I (Zbb (n:=n) (neg:=true) p1 p2 q1 q2 rfl) ?_
  show(!Z1y (Z62 ts) (Z62 us))=_
  rw[<- e2]
  simp [hs]
end
def Zng (td ty tx:TE):TE:=fun σ H Q=>td σ H fun x H1=>∃a,x = .ref a/\IsD H1 a/\ty σ H1 fun y H2=>tx σ H2 fun z H3=>∃kvs k,H3 a=some (.dK kvs)/\y=kV k/\kvs.length<sizeLine ∧
 (∀v,Z2m kvs k=some v->Q v H3)/\(Z2m kvs k=none->Q z (upd H3 a (.dK (Z3z kvs k z))))
section
variable {X:Cx}{o e f:Expr}{apos cpos:Pos}{td ty tx:TE}
theorem Zif (ho:PE X o td)(he:PE X e ty)(hf:PE X f tx)(m:M2 X o "setdefault" apos e f cpos):PE X (.Call (.Attribute o "setdefault" apos) [e,f] [] cpos) (Zng td ty tx):=by
 intro pins s σ H Q I h
 refine wpAny_Call_method m.base m.few m.line PySem.F.plainAttrs_dict PySem.F.slot_dict_setdefault PySem.F.type_dict_setdefault (thn (ho pins s σ H _ I h) fun u s1 ⟨x,H1,I1,rx,a,ex,d,q1⟩=>?_)
 subst ex
 obtain rfl:u=Value.ref a:=rx
 obtain⟨t1,t2,_⟩:=Zjz I1 d
 refine⟨t1,t2,?_⟩
 rw[m.trees]
 refine Calls.callWith_builtin rfl (Calls.evalArgs_plain (Calls.spliced_cons (thn (he pins s1 σ H1 _ I1 q1) fun iv s2 ⟨y,H2,I2,ry,q2⟩=>
  Calls.spliced_cons (thn (hf pins s2 σ H2 _ I2 q2) fun fv s3 ⟨z,H3,I3,rz,kvs,k,ea,ey,hl,q3,q4⟩=>Calls.spliced_nil ?_))))
 subst ey
 obtain⟨hz,hd,vs,rel,dd⟩:=Zkm I3.hok ea
 refine call_meetsIn PySem.F.slot_dict_setdefault dd.typeIs PySem.F.entry_dict_setdefault (PySem.F.args_dict_setdefault_3 _ _ _) (kt_meets_setdefault (Z1l X.prog X.w) a (Zdp ry) hd fv) ⟨vs,dd,by rw[<- rel.length];exact hz,fun v' hv=>?_,fun hn h' dd' hs=>?_⟩
 ·cases l:Z2m kvs k with
  |none=>
   have hn:valueAt vs k=none:=RelO.none_of (by rw[<- l];exact rel.val k)
   rw[hn] at hv
   cases hv
  |some v=>
   obtain⟨w',hw,rw'⟩:=RelO.some_of (v:=v) (o:=valueAt vs k) (by rw[<- l];exact rel.val k)
   rw[hw] at hv
   cases hv
   exact⟨v,H3,I3.tok _,rw',q3 v l⟩
 ·have l:Z2m kvs k=none:=by
   cases l:Z2m kvs k with
   |none=>rfl
   |some v=>
    obtain⟨w',hw,rw'⟩:=RelO.some_of (v:=v) (o:=valueAt vs k) (by rw[<- l];exact rel.val k)
    rw[hw] at hn
    cases hn
  have he:∃q,h'.get? a=some q:=let ⟨q,_,_,hq,_⟩:=dd';⟨q,hq⟩
  have hl':(Z3z kvs k z).length<=sizeLine:=by have:=Z2w kvs k z;omega
  exact⟨z,_,Z8i I3 (by rw[ea];exact True.intro) hs he (Zc5 hl' hd (rel.put k rz) dd'),rz,q4 l⟩
end
end L2
namespace L2
open PySem PySem.Spec PyProof.Rows PySem.Builtin PySem.AutoSeq1
theorem Z63:mroOf (.type "reversed")=pure [.type "reversed",.type "object"]:=by rw[mroOf_type];kernel_rfl
theorem Z4v:typeLookup (.type "reversed") "__new__"=pure (some (.builtin "reversed.__new__")):=by rw[typeLookup_type,builtinLookup_eq_fast];kernel_rfl
theorem Z8o:Bind.madeBy (.type "reversed")=pure (some "reversed.__new__"):=madeBy_type Z63 Z4v (by decide+kernel)
theorem Zac:isSubtype (.type "reversed") (.type "reversed")=pure true:=by rw[isSubtype_type];kernel_rfl
theorem Zdz:isSubtype (.type "list_reverseiterator") (.type "reversed")=pure false:=by rw[isSubtype_type];kernel_rfl
theorem Z57 : entryFor table "reversed.__new__" = some Builtin.«reversed.__new__» := entryFor_of_tree (by kernel_rfl)
theorem Z5q (a:Value):checkTypeCall "reversed" ⟨[a],[]⟩=pure ():=by kernel_rfl
theorem Z68 (a:Value):checkBuiltinCall "reversed.__new__" ⟨[.type "reversed",a],[]⟩=pure ():=by kernel_rfl
section
variable {prog:Program}{w:World}{A:Around}{E:Value->Shared->Prop}{s:Shared}
theorem Z7i {T U newId:String}{Bn:Builtin}{args:List Value}{S:PySem.Spec}{Q:Value->Shared->Prop}{c:Value}{tl:List Value}(h1:(Value.type T==Value.type "type")=false)
  (h2:((Manifest.find? T).bind (·.mro.findSome? fun t=>(Manifest.find? t).bind fun b=>if b.noNew then some true else if b.attrs.any (·.1=="__new__") then some false else none)).getD false=false)
  (hmro:mroOf (.type T)=pure (c::tl)) (hmade:Bind.madeBy (.type T)=pure (some newId)) (plain:plainId newId=true) (hsub:isSubtype (.type U) (.type T)=pure false)
  (hct:checkTypeCall T ⟨args,[]⟩=pure ()) (hcn:checkBuiltinCall newId ⟨.type T::args,[]⟩=pure ())
  (entryN:entryFor table newId=some Bn) (g:Meets (Bn ⟨.type T::args,[]⟩) S)
  (h:S A.in1 (wants (fun obj s₁=>s₁.TypeIs obj U/\Q obj s₁) E) s):wpAny (model prog w) A (call (.type T) args) Q E s:=by
 refine wpAny_call (codeAny_of_tree ?_)
 show wpAny _ _ (callAny (.type T) _) _ _ _
 refine wpAny_pure ⟨Code.quiet_builtin _ (by decide+kernel),codeAny_builtin F.entry_type_call ?_⟩
 rw[Around.under_plain (weight_type_call_type T args []) (units_type_call_type T args [])]
 repeat (any_goals (first|assumption|wp_step))
 refine codeAny_mono (codeAny_call_builtin plain entryN (wpAny_of_eq hcn (g prog w A.in1 _ s h))) fun r s₁ hr=>?_
 cases r with
 |error e=>exact hr
 |ok fl=>
  cases fl with
  |ret obj=>
   obtain⟨hT,hq⟩:=hr
   repeat (any_goals (first|assumption|wp_step))
  |_=>exact hr.elim
end
theorem Zig {prog:Program}{w:World}{A:Around}{s:Shared}{R:Result->Shared->Prop}{l:Addr}{items:Array Value}{n:Nat}(hl:s.heap.get? l=some { cls:=.type "list",dict:=none,data:=.seq items n,slots:=#[] })
  (h:R (.ok (.ret (Value.ref s.heap.objs.size))) { s with heap:=s.heap.push { cls:=Value.type "list_reverseiterator",data:=.fields #[.ref l,rawInt ((items.size:Int)-1)] } }):
  codeAny (model prog w) A (.call (.builtin "list.__reversed__") ⟨[.ref l],[]⟩) R s:=
 codeAny_call_builtin F.slot_list_reversed.plain F.entry_list_reversed (F.slot_list_reversed.check _ _ _ _ _ _ _ _ ⟨_,hl,rfl⟩ (F.args_list_reversed_1 _) (PySem.AutoListH.list___reversed___list_0 l items n prog w A R s ⟨hl,h⟩))
theorem Z58 (l:Addr)(items:Array Value)(n:Nat):
  Meets (Builtin.«reversed.__new__» ⟨[.type "reversed", .ref l], []⟩) (fun _ R s => s.heap.get? l = some { cls := .type "list", dict := none, data := .seq items n, slots := #[] } ∧
   R (.ok (.ret (Value.ref s.heap.objs.size))) { s with heap:=s.heap.push { cls:=Value.type "list_reverseiterator",data:=.fields #[.ref l,rawInt ((items.size:Int)-1)] } }):=
 .of_wp fun prog w A R s h=>by
  obtain⟨hp,g,d,tk,os⟩:=s;obtain⟨hl,h⟩:=h
  have hsub:=Zac
  have hT:Shared.TypeIs ⟨hp,g,d,tk,os⟩ (.ref l) "list":=⟨_,hl,rfl⟩
  have hlk:=F.slot_list_reversed.lookup
  have hbd:=F.slot_list_reversed.bind (.ref l)
  wp_walk
  refine Zig hl ?_
  exact wpAny_pure ⟨_,rfl,h⟩
section
variable {prog:Program}{w:World}{A:Around}{E:Value->Shared->Prop}{s:Shared}
theorem Z8p {l:Addr}{items:Array Value}{n:Nat}{Q:Value->Shared->Prop}(hl:s.heap.get? l=some { cls:=.type "list",dict:=none,data:=.seq items n,slots:=#[] })
  (h:Q (.ref s.heap.objs.size) { s with heap:=s.heap.push { cls:=Value.type "list_reverseiterator",data:=.fields #[.ref l,rawInt ((items.size:Int)-1)] } }):
  wpAny (model prog w) A (call (.type "reversed") [.ref l]) Q E s:=
 Z7i (U:="list_reverseiterator") (by decide+kernel) (by decide+kernel) Z63 Z8o (by decide+kernel) Zdz (Z5q _) (Z68 _) Z57 (Z58 l items n)
  ⟨hl,⟨_,Heap.get?_push_size _ rfl,rfl⟩,h⟩
def IsRevIter (h:Heap)(it l:Addr)(k:Int):Prop:=∃o,h.get? it=some o/\o.cls = .type "list_reverseiterator"/\o.data = .fields #[.ref l,.int k 0]
theorem IsRevIter.typeIs {it l:Addr}{k:Int}(x:IsRevIter s.heap it l k):s.TypeIs (.ref it) "list_reverseiterator":=let ⟨o,ho,hc,_⟩:=x;⟨o,ho,hc⟩
theorem slot_rev_next:Slot "list_reverseiterator" "__next__" "list_reverseiterator.__next__":=
 .of (owner:="list_reverseiterator") (n:="__next__") (by rw[typeLookup_type,builtinLookup_eq_fast];kernel_rfl) (by decide+kernel) (by decide+kernel) (by decide+kernel)
  (by first|exact .inl (by decide+kernel)|exact .inr (by decide+kernel)) (by rw[isSubtype_type];kernel_rfl)
theorem Z59:Slot "list_reverseiterator" "__iter__" "list_reverseiterator.__iter__":=
 .of (owner:="list_reverseiterator") (n:="__iter__") (by rw[typeLookup_type,builtinLookup_eq_fast];kernel_rfl) (by decide+kernel) (by decide+kernel) (by decide+kernel)
  (by first|exact .inl (by decide+kernel)|exact .inr (by decide+kernel)) (by rw[isSubtype_type];kernel_rfl)
theorem Z4r : entryFor table "list_reverseiterator.__next__" = some Builtin.«list_reverseiterator.__next__» := entryFor_of_tree (by kernel_rfl)
theorem Z7j : entryFor table "list_reverseiterator.__iter__" = some Builtin.«dict_keyiterator.__iter__» :=
 entryFor_alias (id':="dict_keyiterator.__iter__") (by kernel_rfl) (by first|rfl|decide+kernel | (unfold String.splitOn;simp +decide [String.splitOnAux])) (by decide+kernel) (by kernel_rfl)
theorem Z5a (a:Value):argsOk "list_reverseiterator.__next__" ⟨[a],[]⟩:=by unfold argsOk;kernel_rfl
theorem Z8q (a:Value):argsOk "list_reverseiterator.__iter__" ⟨[a],[]⟩:=by unfold argsOk;kernel_rfl
theorem Z7w {it l:Addr}{k:Int}{Q:Value->Shared->Prop}(hz:IsRevIter s.heap it l k)(h:Q (.ref it) s):wpAny (model prog w) A (pyIter (.ref it)) Q E s:=by
 refine wpAny_pyIter_slot hz.typeIs Z59 (wpAny_call_entry Z59 hz.typeIs Z7j ?_ (Z8q _))
 show wpAny _ _ (ret (.ref it)) _ _ s
 exact wpAny_pure ⟨_,rfl,"list_reverseiterator",_,hz.typeIs,slot_rev_next.lookup,h⟩
theorem Z8r {it l:Addr}{k:Nat}{items:Array Value}{x:Value}{Q:Option Value->Shared->Prop}(hit:IsRevIter s.heap it l k)(hl:s.heap.IsList l items)(hx:items[k]? = some x)
  (hQ:∀h',IsRevIter h' it l ((k:Int)-1)->Heap.SameBut it s.heap h'->Q (some x) { s with heap:=h' }):wpAny (model prog w) A (pyNext (.ref it)) Q E s:=by
 obtain⟨o,ho,hc,hd⟩:=id hit
 obtain⟨ol,hol,_,nl,hdl⟩:=hl
 unfold pyNext
 refine wpAny_bind (wpAny_attempt (wpAny_callSpecial?_slot (name:=Str.ofString "__next__") hit.typeIs slot_rev_next
  (wpAny_call_entry slot_rev_next hit.typeIs Z4r ?_ (Z5a _))))
 show wpAny _ _ (field (.ref it) 1 >>= _) _ _ s
 refine wpAny_bind (wpAny_field ho hd (x:=.int k 0) rfl ?_)
 show wpAny _ _ (if ((k:Int)<0) then _ else _) _ _ s
 rw[if_neg (by omega)]
 show wpAny _ _ (field (.ref it) 0 >>= _) _ _ s
 refine wpAny_bind (wpAny_field ho hd (x:=.ref l) rfl ?_)
 refine wpAny_bind (wpAny_seqItems hol hdl ?_)
 simp only [Int.toNat_natCast,hx]
 refine wpAny_bind (wpAny_setField ho hd (by simp) (wpAny_pure ⟨x,rfl,wpAny_pure (hQ _ ?_ (Heap.SameBut.update ..))⟩))
 exact⟨_,Heap.get?_update_self _ ho (Obj.isFreed_of_fields (Obj.data_mapFields hd _)),(Obj.cls_mapFields ..).trans hc,by
  rw[Obj.data_mapFields hd];simp [rawInt]⟩
theorem Zad {it l:Addr}{Q:Option Value->Shared->Prop}(hh:A.handled=none)(hit:IsRevIter s.heap it l (-1))
  (hQ:∀h',(∀b o,s.heap.get? b=some o->h'.get? b=some o)->Q none { s with heap:=h' }):wpAny (model prog w) A (pyNext (.ref it)) Q E s:=by
 obtain⟨o,ho,hc,hd⟩:=id hit
 unfold pyNext
 refine wpAny_bind (wpAny_attempt (wpAny_callSpecial?_slot (name:=Str.ofString "__next__") hit.typeIs slot_rev_next
  (wpAny_call_entry slot_rev_next hit.typeIs Z4r ?_ (Z5a _))))
 show wpAny _ _ (field (.ref it) 1 >>= _) _ _ s
 refine wpAny_bind (wpAny_field ho hd (x:=.int (-1) 0) rfl ?_)
 show wpAny _ _ (if ((-1:Int)<0) then _ else _) _ _ s
 rw[if_pos (by decide)]
 refine wpAny_bind (wpAny_rule ?_)
 refine wpAny_bind ?_
 show wpAny _ _ (newExc (.type "StopIteration") [] >>= _) _ _ _
 refine wpAny_bind ?_
 simp only [newExc,newTuple]
 refine wpAny_bind (wpAny_newObj_type ?_ (by size_fits))
 refine wpAny_bind (m:=firstArgMember _ _) (wpAny_of_eq (a:=Value.none) (by first|rfl | (simp only [firstArgMember];rfl)) ?_)
 refine wpAny_newObj_type ?_ (by size_fits)
 simp only [raiseNew]
 refine wpAny_bind (wpAny_handled ?_)
 rw[show A.in1.handled=none from hh]
 refine wpAny_bind (wpAny_pure (wpAny_throw ?_))
 refine wpAny_bind (wpAny_isInstance (T:="StopIteration") (b:=true) ⟨_,Heap.get?_push_size _ rfl,rfl⟩ isSubtype_stop ?_)
 exact wpAny_pure (hQ _ fun b o e=>Heap.get?_push_of_some _ (Heap.get?_push_of_some _ e))
end
def Itv (K:W.Frag)(a:Addr)(n:Nat):It:=
 ⟨fun i H=>i<n/\∃xs x,SqL K H a xs/\xs[n-1-i]? = some x,fun i H x H'=>H'=H/\∀xs,SqL K H a xs->xs[n-1-i]? = some x,fun i H=>i=n⟩
theorem Zih {P:Program}{w:World}{K:W.Frag}{tg:Expr}(a it:Addr)(n:Nat):Turn P w K tg (Itv K a n) [it] it (fun i h=>IsRevIter h it a ((n:Int)-1-i)) where
 mem:=by simp
 obj:=fun i h st b hb=>by
  have e:b=it:=by simpa using hb
  subst e
  obtain⟨o,e,c,d⟩:=st
  exact⟨o,e,fun v z=>by rw[d] at z;cases z⟩
 keep:=fun i h h' st k=>by
  obtain⟨o,e,c,d⟩:=st
  exact⟨o,k it (by simp) o e,c,d⟩
 item:=by
  intro X hP hw hK hc i pins s σ H E I hf st hg
  subst hP hw hK
  obtain⟨hin,xs,x,hq,hx⟩:=hg
  obtain⟨its,rv,p,hz⟩:=I.list hq
  obtain⟨u,hu,ru⟩:=rv.get hx
  obtain⟨f0,f1,f2,f3,f4,f5⟩:=hf it (by simp)
  have ek:(n:Int)-1-i=((n-1-i:Nat):Int):=by omega
  rw[ek] at st
  refine Z8r st p.isList (x:=u) (by simpa using hu) fun h' st' sb=>?_
  have I1:Inv X pins σ H { s with heap:=h' }:=I.turned (t':=s.toks) (fun b o hb e=>(sb.2 b hb).trans e) f0 f1 f3 f4 f5
  have e2:((n-1-i:Nat):Int)-1=(n:Int)-1-((i+1:Nat):Int):=by omega
  rw[e2] at st'
  obtain⟨o,e,c,d⟩:=id st'
  exact⟨u,rfl,Zhq (s:={ s with heap:=h' }) e c d (by decide) ⟨x,H,I1,ru,⟨rfl,fun ys hy=>by rw[I.list_inj hy hq];exact hx⟩,st',fun b hb=>(hf b hb).1⟩⟩
 done:=by
  intro X hP hw hK hc i pins s σ H E I hf st hg
  subst hP hw hK
  have e:i=n:=hg
  subst e
  have ek:(i:Int)-1-i = -1:=by omega
  rw[ek] at st
  exact Zad (I.ok.hd hc) st fun h' kk=>⟨rfl,I.kept (t':=s.toks) kk⟩
 self:=fun _ _ _ _ _ st h=>Z7w st h
def Zqz (K:W.Frag)(ta:TA):TI:=fun σ H R=>ta σ H fun vs H1=>∃a xs,vs = [.ref a]/\H1 a=some (.lst xs)/\R (Itv K a xs.length) H1
section
variable {X:Cx}
theorem Znh {tg:Expr}{a:Expr}{ta:TA}{p pos:Pos}(hg:Gl X "reversed")(hm:X.mg "reversed"=none)(ha:PA X [a] ta)(hs:starEach [a] X.env = [(false,eval a X.env)]:=by rfl):
  PI X tg (.Call (.Name "reversed" p) [a] [] pos) (Zqz X.K ta):=by
 intro pins s σ H R I h
 refine wpAny_Call_Name_kw (Z9k I hg hm (by decide+kernel:bootBuiltins "reversed"=some (.type "reversed")) ?_)
 refine PyProof.Rows.callWith_type1 (thn (ha pos pins s σ H _ I h) fun us s1 ⟨vs,H1,I1,r1,q1⟩=>?_) hs (by rfl)
 obtain⟨l,xs,rfl,hl,hR⟩:=q1
 cases r1 with
 |cons r rr=>
  cases rr
  cases r
  obtain⟨_,its,n,rv,h1⟩:=(show ObjOk X.prog X.w H1 s1.heap l (.lst xs) from I1.hok l _ hl)
  refine Z8p h1 ?_
  have hlen:=rv.length
  have st:IsRevIter (s1.heap.push { cls:=Value.type "list_reverseiterator",data:=.fields #[.ref l,rawInt ((its.toArray.size:Int)-1)] }) s1.heap.objs.size l ((xs.length:Int)-1-((0:Nat):Int)):=by
   refine⟨_,Heap.get?_push_size _ rfl,rfl,?_⟩
   rw[size_toArray,<- hlen]
   simp [rawInt]
  refine Z7w st ?_
  refine⟨s1.heap.objs.size,[s1.heap.objs.size],_,_,H1,rfl,I1.kept (t':=s1.toks) fun b o e=>Heap.get?_push_of_some _ e,Zih l _ xs.length,st,fun b hb=>?_,hR⟩
  have e:b=s1.heap.objs.size:=by simpa using hb
  subst e
  exact I1.fpOk (Nat.le_refl _) (I1.hok.fresh (Nat.le_refl _))
end
end L2
namespace L2
open PySem PySem.Spec PyProof.Rows
theorem Zl1 {K:W.Frag}{a:Addr}{xs:List V}{g:TG}{tb:TS}{D:Ends}{σ:St}{H:Hp}(Pv:Nat->St->Hp->Prop)(h0:Pv 0 σ H)(hl:∀i σ H,i<=xs.length->Pv i σ H->SqL K H a xs)
  (hs:∀i x σ H,i<xs.length->xs[xs.length-1-i]? = some x->Pv i σ H->g x σ H fun σ2 H2=>tb { D with nx:=Pv (i+1),ct:=Pv (i+1),bk:=D.nx } σ2 H2) (hd:∀ σ H,Pv xs.length σ H->D.nx σ H):
  ∃W:Nat->Nat->St->Hp->Prop,(∃m,W 0 m σ H)/\∀i m σ H,W i m σ H →
   ((Itv K a xs.length).stop i H/\D.nx σ H)∨((Itv K a xs.length).go i H/\∃N:St->Hp->Prop,(∀ σ' H',N σ' H'->∃m',m'<m/\W (i+1) m' σ' H')/\∀x H',(Itv K a xs.length).yld i H x H'->g x σ H' fun σ2 H2=>tb { D with nx:=N,ct:=N,bk:=D.nx } σ2 H2):=by
 refine⟨fun i m σ H=>m=xs.length-i/\i<=xs.length/\Pv i σ H,⟨xs.length,by simp,Nat.zero_le _,h0⟩,?_⟩
 rintro i m σ H ⟨rfl,hi,p⟩
 have q:=hl i σ H hi p
 by_cases hlt:i<xs.length
 ·have hj:xs.length-1-i<xs.length:=by omega
  refine .inr ⟨⟨hlt,xs,xs[xs.length-1-i],q,List.getElem?_eq_getElem hj⟩,Pv (i+1),fun σ' H' p'=>⟨xs.length-(i+1),by omega,rfl,hlt,p'⟩,fun x H' y=>?_⟩
  obtain⟨e,y⟩:=y
  subst e
  exact hs i x σ _ hlt (y xs q) p
 ·have e:i=xs.length:=by omega
  subst e
  exact .inl ⟨rfl,hd σ H p⟩
theorem Zcg {xs:List V}{z:Int}(h0:0<=z)(h1:z.toNat<=xs.length):Z7g xs none (some z)=xs.take z.toNat:=by
 have e:HT.sIx xs.length xs.length (some z)=z.toNat:=by
  show(if z<0 then (z+(xs.length:Int)).toNat else min z.toNat xs.length)=_
  rw[if_neg (by omega)]
  omega
 unfold Z7g
 rw[e]
 show(xs.drop 0).take (z.toNat-0)=_
 rw[drop_zero,Nat.sub_zero]
theorem Z3k {xs:List V}{z:Int}(h0:0<=z)(h1:z.toNat<=xs.length):Z7g xs (some z) none=xs.drop z.toNat:=by
 have e:HT.sIx xs.length 0 (some z)=z.toNat:=by
  show(if z<0 then (z+(xs.length:Int)).toNat else min z.toNat xs.length)=_
  rw[if_neg (by omega)]
  omega
 unfold Z7g
 rw[e]
 show(xs.drop z.toNat).take (xs.length-z.toNat)=_
 rw[take_of_length_le (by rw[length_drop];omega)]
theorem Z8s {H:Hp}:∀(n:Nat) {vs:List V} {ts:List Th},IsThs H vs ts->IsThs H (vs.take n) (ts.take n)
 | 0,_,_,_=>by simp only [take_zero];exact .nil
 |_+1,_,_,.nil=>.nil
 |n+1,_,_,.cons h r=>.cons h (Z8s n r)
theorem Zch {H:Hp}:∀(n:Nat) {vs:List V} {ts:List Th},IsThs H vs ts->IsThs H (vs.drop n) (ts.drop n)
 | 0,_,_,h=>h
 |_+1,_,_,.nil=>.nil
 |n+1,_,_,.cons h r=>Zch n r
end L2
namespace K36
open PySem L2
abbrev Zbc:Stmt:=top 4
abbrev Z64:Stmt:=top 5
abbrev Z6s:Stmt:=top 6
abbrev Zae:Stmt:=top 7
abbrev Z3l:Stmt:=top 9
abbrev Zaf:Stmt:=top 10
abbrev Z49:Stmt:=top 12
abbrev Z3m:Stmt:=top 13
abbrev Zfx:Stmt:=top 14
abbrev Z2z:Stmt:=top 17
abbrev Z1z:Stmt:=top 18
abbrev Z30:Stmt:=top 19
abbrev Z2f:Stmt:=top 20
abbrev Z2k:Stmt:=top 21
abbrev Z6t:Stmt:=top 22
abbrev Zfy:Stmt:=top 24
abbrev Zfz:Stmt:=top 25
abbrev Z3n:Stmt:=top 26
abbrev Z5b:Stmt:=top 27
abbrev Z36:Stmt:=top 28
abbrev Zag:Stmt:=top 29
abbrev Z2a:Stmt:=top 30
abbrev Ze0:Stmt:=top 31
abbrev Z6u:Stmt:=top 32
abbrev Z4j:Stmt:=top 33
abbrev Z7x:Stmt:=top 34
abbrev Zg0:Stmt:=top 35
abbrev Z5r:Stmt:=top 36
abbrev Z6v:Stmt:=top 37
abbrev Z4w:Stmt:=top 38
abbrev Z6w:Stmt:=top 39
abbrev Z4x:Stmt:=top 40
abbrev Z8t:Stmt:=top 41
abbrev Zah:Stmt:=top 42
abbrev Z3u:Stmt:=top 44
abbrev Z3v:Stmt:=top 45
abbrev Ze1:Stmt:=top 46
abbrev Z4a:Stmt:=top 47
abbrev Z1j:Stmt:=top 48
abbrev Z7y:Stmt:=top 49
abbrev Zl2:Stmt:=top 50
def Z1r (l:Addr)(n:Nat)(z:Int):List (Key×V):=[(Sum.inr "cells",.ref l),(Sum.inr "at",.int n),(Sum.inr "left",.int z)]
structure Feed (H:Hp)(d l:Addr)(ns:List Int)(n:Nat):Prop where
 dc:∃z,H d=some (.dK (Z1r l n z))
 ls:H l=some (.lst (ns.map V.int))
 sz:ns.length<=63
def But (d:Addr)(H H':Hp):Prop:=∀b o,H b=some o->b≠d->H' b=some o
theorem But.refl (d:Addr)(H:Hp):But d H H:=fun _ _ e _=>e
theorem But.trans {d:Addr}{H H1 H2:Hp}(a:But d H H1)(b:But d H1 H2):But d H H2:=fun c o e n=>b c o (a c o e n) n
theorem But.of {d:Addr}{H H1:Hp}(a:Same H H1):But d H H1:=fun c o e _=>a c o e
theorem Zii (l:Addr)(n:Nat)(z:Int):Z2m (Z1r l n z) (Sum.inr "cells")=some (.ref l):=by with_unfolding_all rfl
theorem Zpd (l:Addr)(n:Nat)(z:Int):Z2m (Z1r l n z) (Sum.inr "at")=some (.int n):=by with_unfolding_all rfl
theorem Zl3 (l:Addr)(n:Nat)(z:Int):Z2m (Z1r l n z) (Sum.inr "left")=some (.int z):=by with_unfolding_all rfl
theorem Zni (l:Addr)(n:Nat)(z:Int):Z3z (Z1r l n z) (Sum.inr "at") (.int ((n:Int)+1))=Z1r l (n+1) z:=by with_unfolding_all rfl
theorem Zij (l:Addr)(n:Nat)(z y:Int):Z3z (Z1r l n z) (Sum.inr "left") (.int y)=Z1r l n y:=by with_unfolding_all rfl
theorem Z6x {H:Hp}{d l:Addr}{n:Nat}{z:Int}(h:H d=some (.dK (Z1r l n z))):DGet H d (.str "cells") (some (.ref l)):=by
 have:=DGet.k (k:=Sum.inr "cells") h;rw[Zii] at this;exact this
theorem Znj {H:Hp}{d l:Addr}{n:Nat}{z:Int}(h:H d=some (.dK (Z1r l n z))):DGet H d (.str "at") (some (.int n)):=by
 have:=DGet.k (k:=Sum.inr "at") h;rw[Zpd] at this;exact this
theorem Z8u {H:Hp}{d l:Addr}{n:Nat}{z:Int}(h:H d=some (.dK (Z1r l n z))):DGet H d (.str "left") (some (.int z)):=by
 have:=DGet.k (k:=Sum.inr "left") h;rw[Zl3] at this;exact this
theorem Znk {H:Hp}{d l:Addr}{n:Nat}{z:Int}(h:H d=some (.dK (Z1r l n z))):DPut H d (.str "at") (.int ((n:Int)+1)) (upd H d (.dK (Z1r l (n+1) z))):=by
 have:=DPut.k (k:=Sum.inr "at") (v:=.int ((n:Int)+1)) h (by show 3<sizeLine;decide);rw[Zni] at this;exact this
theorem Zci {H:Hp}{d l:Addr}{n:Nat}{z y:Int}(h:H d=some (.dK (Z1r l n z))):DPut H d (.str "left") (.int y) (upd H d (.dK (Z1r l n y))):=by
 have:=DPut.k (k:=Sum.inr "left") (v:=.int y) h (by show 3<sizeLine;decide);rw[Zij] at this;exact this
theorem Feed.ne {H:Hp}{d l:Addr}{ns:List Int}{n:Nat}(F:Feed H d l ns n):l≠d:=by
 obtain⟨⟨z,h⟩,g,_⟩:=F
 exact Z3c g h (by intro q;cases q)
theorem Feed.but {H H':Hp}{d l:Addr}{ns:List Int}{n m:Nat}{z:Int}(F:Feed H d l ns n)(b:But d H H')(h:H' d=some (.dK (Z1r l m z))):Feed H' d l ns m:=⟨⟨z,h⟩,b l _ F.ls F.ne,F.sz⟩
theorem But.upd {d:Addr}{H:Hp}{o:HO}:But d H (upd H d o):=fun c u e n=>by rw[Z0c n];exact e
inductive spFeed_ (K:W.Frag)(vs:List V)(H:Hp)(Q:VK):Prop
 |mk (a:Addr) (ns:List Int) (_:vs = [.ref a]) (_:SqL K H a (ns.map V.int)) (_:ns.length<=63) (_:∀d l H',Feed H' d l ns 0->H d=none->Same H H'->Q (.ref d) H'):spFeed_ K vs H Q
def Zk3 (K:W.Frag):Sp:=fun vs H Q _=>spFeed_ K vs H Q
inductive spDraw_ (vs:List V)(H:Hp)(Q:VK):Prop
 |mk (d l:Addr) (ns:List Int) (n:Nat) (m:Int) (_:vs = [.ref d,.int m]) (_:Feed H d l ns n) (_:n<=1000000000000) (_:0<m) (_:m<18446744073709551616) (_:∀r n' H',0<=r->r<m->n'<=n+1->Feed H' d l ns n'->But d H H'->Q (.int r) H'):spDraw_ vs H Q
def spDraw:Sp:=fun vs H Q _=>spDraw_ vs H Q
theorem Zpe {ns:List Int}(h:ns.length<=63):Z7g (ns.map V.int) none (some 63)=ns.map V.int:=by
 have e1:HT.sIx (ns.map V.int).length 0 none=0:=rfl
 have e2:HT.sIx (ns.map V.int).length (ns.map V.int).length (some 63)=min 63 (ns.map V.int).length:=rfl
 unfold Z7g
 rw[e1,e2,drop_zero,take_of_length_le]
 rw[length_map];omega
theorem Zqd (x:Int) : -(2 ^ 64)<x % 2147483629:=by omega
theorem Zqe (x:Int):x % 2147483629<2 ^ 64:=by omega
theorem Zg1 (ns:List Int):(ns.map V.int).all Z45=true:=by
 rw[all_map];exact all_eq_true.mpr fun _ _=>rfl
theorem Feed.same {H H':Hp}{d l:Addr}{ns:List Int}{n:Nat}(F:Feed H d l ns n)(s:Same H H'):Feed H' d l ns n:=let ⟨⟨z,h⟩,g,q⟩:=F;⟨⟨z,s _ _ h⟩,s _ _ g,q⟩
theorem Z5c {xs:List V}(h:xs.length<=1000):xs.length<=sizeLine:=Nat.le_trans h (by decide)
structure Txt0 (mg:Str->Option Value):Prop where
 len:mg "len"=none
 list:mg "list"=none
 range:mg "range"=none
section
variable {P:Program}{w:World}{K:W.Frag}{mg:Str->Option Value}{base:Heap}
theorem Znl:FnScope ["_law_script"] ["_law_script"] (Z04 Zfy):=.q
theorem Zl4 {f:Addr}{fd:FuncData}(F:Fun K "_law_feed" "_law_feed" Zfy f fd)(T:Txt0 mg):FnOk P w K mg base CX0 1 f fd ["_law_script"] (Zk3 K):=by
 refine F.ok Znl (fun vs H Q E h=>?_) (fun cdv A outer s H vs Q E hr h=>?_)
 ·obtain⟨a,ns,rfl,_⟩:=h
  rfl
 ·obtain⟨a,ns,rfl,hS,hl,k⟩:=h
  refine⟨_,Z07 (Z0h (Zfd (Z29 Z08 (Z15 Z9y (by rfl) T.list (by rfl) (Z0b (Z1d Z2l (pv 0) Z1p (Z1m Z03)) Z02)) (Z29 Z08 Z03 (Z29 Z08 Z03 Zfc))) rfl rfl (by intro z;cases z) (by decide))),?_⟩
  intro d hd
  refine⟨_,rfl,_,rfl,a,_,rfl,(Z01 hd).seq hS,fun p hp=>?_⟩
  refine⟨p,_,rfl,.inl (SqL.of Z00),fun l hl'=>?_⟩
  have hdl:d≠l:=Z0j (H:=upd (upd H d (.dK [])) p (.lst (Z7g (ns.map V.int) none (some 63)))) (by rw[Z0c (Z0j Z00 hp)];exact Z00) hl'
  have hpd:p≠d:=fun z=>by rw[z,Z00] at hp;cases hp
  refine⟨by rw[Z0c hdl,Z0c hpd.symm];exact Z00,Z1r l 0 0,rfl,by show 3<=15;decide,?_⟩
  have em:Z6k [] (Z1r l 0 0)=Z1r l 0 0:=by with_unfolding_all rfl
  rw[em]
  refine k d l _ ⟨⟨0,Z00⟩,?_,hl⟩ hd ?_
  ·rw[Z0c hdl.symm,Z00,Zpe hl]
  ·intro b o e
   have hb:(upd H d (.dK [])) b=some o:=Z01 hd b o e
   have hb2:=Z01 (o:=.lst (Z7g (ns.map V.int) none (some 63))) hp b o hb
   rw[Z0c (Z0j e hd)]
   exact Z01 hl' b o hb2
theorem scDraw:FnScope ["_law_feed_here","_law_many","_law_found","_law_at","_law_cell","_law_number"] ["_law_feed_here","_law_many"] (Z04 Zfz):=.q
theorem Z8v {f:Addr}{fd:FuncData}(F:Fun K "_law_draw" "_law_draw" Zfz f fd)(T:Txt0 mg):FnOk P w K mg base CX0 1 f fd ["_law_feed_here","_law_many"] spDraw:=by
 refine F.ok scDraw (fun vs H Q E h=>?_) (fun cdv A outer s H vs Q E hr h=>?_)
 ·obtain⟨d,l,ns,n,m,rfl,_⟩:=h
  rfl
 ·obtain⟨d,l,ns,n,m,rfl,FD,hn,hm0,hm1,k⟩:=h
  have hu:=Zb3 hr
  have hu0:=hr.units0
  obtain⟨⟨z,hd⟩,hls,hsz⟩:=id FD
  refine⟨_,Z05 (Z11 (Z09 Zht (Z0t hu (pv 0) Z08 (fun _ _=>rfl)) Z03 (Z0i _))
    (Z05 (Z0a (i:=2) scDraw.nd rfl (Or.inl rfl) (Z0m Z3e (Z0t hu (pv 0) Z08 (fun _ _=>rfl)) (pv 1))) <|
     Z05 (Z2n hu (pv 0) Z08 (Z0m Z6c (Z0t hu (pv 0) Z08 (fun _ _=>rfl)) (pv 1)) rfl) <|
     Z07 (Z0h (pv 2))) Z0k) <|
   Z05 (Z0a (i:=3) scDraw.nd rfl (Or.inl rfl) (Z0t hu (pv 0) Z08 (fun _ _=>rfl))) <|
   Z05 (Z2n hu (pv 0) Z08 (Z0m Z1w (pv 3) Z03) rfl) <|
   Z05 (Z0a (i:=4) scDraw.nd rfl (Or.inl rfl) (Z0m Z1w (Z0m Z25 (pv 3) (pv 3)) Z03)) <|
   Z0g (Z11 (Z09 (Z4g hu0) (Z0t hu (pv 0) Z08 (fun _ _=>rfl)) (Z14 Z02) (Z0i _))
    (Z07 (Z0a (i:=4) scDraw.nd rfl (Or.inl rfl) (Z0q Z16 (Z0t hu (pv 0) Z08 (fun _ _=>rfl)) (Z0m Z3e (pv 3) (Z0r Z0u (by rfl) T.len PySem.boot_len (Z0b (Z0t hu (pv 0) Z08 (fun _ _=>rfl)) Z02))) (fun _ _=>rfl)))) Z0k) <|
   Z05 (Z11 (Z09 Zmx (pv 4) (Z0m Zmw Z03 Z03) (Z0i _))
    (Z05 (Z2n hu (pv 0) Z08 (Z0m Z6c (pv 4) (pv 1)) rfl) <| Z07 (Z0h (Z0m Z3e (pv 4) (pv 1)))) Z0k) <|
   Z05 (Z0a (i:=5) scDraw.nd rfl (Or.inl rfl) (Z0m Z3e (Z0m Z25 (Z0m Z1w (Z0m Z1w (Z0m Z3e (pv 4) Z03) (Z0m Z25 Z03 (pv 3))) Z03) Z03) Z03)) <|
   Z05 (Z0a (i:=5) scDraw.nd rfl (Or.inl rfl) (Z0m Z3e (Z0m Z1w (Z0m Z1w (Z0m Z25 (pv 5) (pv 5)) (Z0m Z25 Z03 (pv 3))) Z03) Z03)) <|
   Z05 (Z0a (i:=5) scDraw.nd rfl (Or.inl rfl) (Z0m Z3e (Z0m Z1w (Z0m Z25 (pv 5) Z03) (pv 3)) Z03)) <|
   Z07 (Z0h (Z0m Z3e (Z0m Z6c (Z0m Z3e (Z0m Z25 (pv 5) (pv 5)) Z03) Z03) (pv 1))),?_⟩
  refine⟨_,rfl,d,.int z,rfl,Z8u hd,_,_,rfl,rfl,_,rfl,?_⟩
  refine Z1e (fun hz=>?_) (fun hz=>?_)
  ·refine⟨_,rfl,d,.int z,rfl,Z8u hd,_,rfl,_,_,rfl,rfl,hm0,?_⟩
   refine⟨_,rfl,d,.int z,rfl,Z8u hd,_,rfl,_,_,rfl,rfl,⟨hm0,hm1⟩,_,rfl,d,_,rfl,Zci hd,_,rfl,?_⟩
   exact k _ n _ (Int.emod_nonneg _ (by omega)) (Int.emod_lt_of_pos _ hm0) (Nat.le_succ _) (FD.but But.upd Z00) But.upd
  ·refine⟨_,rfl,d,.int n,rfl,Znj hd,?_⟩
   refine⟨_,rfl,_,_,rfl,rfl,_,rfl,d,_,rfl,Znk hd,?_⟩
   have hd1:upd H d (.dK (Z1r l (n+1) z)) d=some (.dK (Z1r l (n+1) z)):=Z00
   have F1:Feed (upd H d (.dK (Z1r l (n+1) z))) d l ns (n+1):=FD.but But.upd Z00
   have B1:But d H (upd H d (.dK (Z1r l (n+1) z))):=But.upd
   generalize upd H d (.dK (Z1r l (n+1) z))=H1 at hd1 F1 B1 ⊢
   have hls1:=F1.ls
   refine⟨_,rfl,_,rfl,_,_,rfl,rfl,.inl ⟨by omega,by omega⟩,_,_,rfl,rfl,?_⟩
   refine⟨fun σ' H'=>∃c o,σ' = [some (.ref d),some (.int m),o,some (.int n),some (.int c),none]/\Feed H' d l ns (n+1)/\But d H H',?_,?_⟩
   ·refine⟨_,rfl,d,.ref l,rfl,Z6x hd1,Nat.zero_le _,fun e he=>⟨l,e,ns.map V.int,[],rfl,rfl,SqL.of (Z01 he _ _ hls1),SqL.of Z00,Zg1 ns,rfl,_,rfl,?_⟩⟩
    have F2:=F1.same (Z01 (o:=.lst []) he)
    have B2:But d H (upd H1 e (.lst [])):=B1.trans (But.of (Z01 he))
    obtain⟨⟨z2,hd2⟩,hls2,_⟩:=id F2
    refine Z1e (fun hne=>?_) (fun hne=>?_)
    ·have hpos:0<(ns.map V.int).length:=by
      cases ns with
      |nil=>exact absurd hne (by decide)
      |cons _ _=>exact Nat.succ_pos _
     obtain⟨v,hv,hat⟩:=Zn8 hpos (n:Int)
     obtain⟨c,_,rfl⟩:=mem_map.mp hv
     refine⟨_,rfl,d,.ref l,rfl,Z6x hd2,_,rfl,_,rfl,d,.ref l,rfl,Z6x hd2,l,ns.map V.int,rfl,.inl (SqL.of hls2),_,_,rfl,rfl,(by show(0:Int)<((ns.map V.int).length:Int);omega),l,ns.map V.int,_,.int c,rfl,rfl,SqL.of hls2,hat,?_⟩
     exact⟨c,none,rfl,F2,B2⟩
    ·exact⟨_,none,rfl,F2,B2⟩
   ·rintro σ' H2 ⟨c,o,rfl,F2,B2⟩
    obtain⟨⟨z2,hd2⟩,hls2,_⟩:=id F2
    refine⟨_,rfl,_,_,rfl,rfl,⟨by decide,by decide,by decide⟩,_,_,rfl,rfl,_,rfl,?_⟩
    refine Z1e (fun hge=>?_) (fun hge=>?_)
    ·refine⟨_,rfl,_,rfl,_,_,rfl,rfl,⟨hm0,hm1⟩,_,rfl,d,_,rfl,Zci hd2,_,rfl,_,rfl,_,_,rfl,rfl,hm0,?_⟩
     exact k _ (n+1) _ (Int.emod_nonneg _ (by omega)) (Int.emod_lt_of_pos _ hm0) (Nat.le_refl _) (F2.but But.upd Z00) (B2.trans But.upd)
    ·refine⟨_,rfl,_,_,rfl,rfl,(by show(0:Int)<2147483647;decide),_,rfl,_,_,rfl,rfl,.inl ⟨by decide,by decide⟩,_,_,rfl,rfl,_,_,rfl,rfl,_,_,rfl,rfl,.inr ⟨by decide,by decide⟩,_,_,rfl,rfl,(by show(0:Int)<2147483629;decide),?_⟩
     refine⟨_,rfl,_,rfl,_,_,rfl,rfl,.inl ⟨Zqd _,Zqe _⟩,_,rfl,_,_,rfl,rfl,.inl ⟨by decide,by decide⟩,_,_,rfl,rfl,_,_,rfl,rfl,_,_,rfl,rfl,(by show(0:Int)<2147483647;decide),?_⟩
     refine⟨_,rfl,_,_,rfl,rfl,.inr ⟨by decide,by decide⟩,_,rfl,_,_,rfl,rfl,_,_,rfl,rfl,(by show(0:Int)<2147483629;decide),?_⟩
     refine⟨_,rfl,_,rfl,_,_,rfl,rfl,.inl ⟨Zqd _,Zqe _⟩,_,_,rfl,rfl,(by show(0:Int)<2147483587;decide),_,_,rfl,rfl,⟨by decide,by decide⟩,_,rfl,_,_,rfl,rfl,hm0,?_⟩
     exact k _ (n+1) _ (Int.emod_nonneg _ (by omega)) (Int.emod_lt_of_pos _ hm0) (Nat.le_refl _) F2 B2
def Low (t:Str):Prop:=∀c∈t.cps.toList,97<=c/\c<=122
theorem Zl5:Low "":=by
 have e:("":Str).cps.toList = []:=by decide+kernel
 intro c hc
 rw[e] at hc
 cases hc
theorem Z6y {x y:Str}(a:Low x)(b:Low y):Low (x++y):=by
 intro c hc
 have e:(x++y).cps.toList=x.cps.toList++y.cps.toList:=by
  show(x.cps++y.cps).toList=_
  rw[Array.toList_append]
 rw[e] at hc
 rcases mem_append.mp hc with z|z
 ·exact a c z
 ·exact b c z
theorem Zbd {c:Nat}(h:97<=c/\c<=122):Low ⟨#[c]⟩:=by
 intro d hd
 have:d=c:=by simpa using hd
 subst this
 exact h
def Zg2 (t:Str)(x m:Int):Prop:=((t.length:Int)=m/\Low t)/\(0<m->t.cps.toList[0]? = some (97+(x % 26).toNat))
inductive spSpelled_ (vs:List V)(H:Hp)(Q:VK):Prop
 |mk (x m:Int) (_:vs = [.int x,.int m]) (_:0<=m) (_:m<=10) (_:∀t:Str,Zg2 t x m->Q (.str t) H):spSpelled_ vs H Q
def spSpelled:Sp:=fun vs H Q _=>spSpelled_ vs H Q
abbrev abc:Str:="abcdefghijklmnopqrstuvwxyz"
theorem Znm:∀k:Fin 26,abc.cps.toList[k.val]? = some (97+k.val):=by decide+kernel
theorem Znn (y:Int):atI abc.cps.toList (y % 26)=some (97+(y % 26).toNat):=by
 have h0:0<=y % 26:=by omega
 have h1:y % 26<26:=by omega
 have e:y % 26=((y % 26).toNat:Int):=by omega
 have h:=Z26 (Znm ⟨(y % 26).toNat,by omega⟩)
 rw[<- e] at h
 exact h
theorem scSpelled:FnScope ["_law_number","_law_long","_law_word","_law_k"] ["_law_number","_law_long"] (Z04 Z5b):=.q
theorem Ze2 {f:Addr}{fd:FuncData}(F:Fun K "_law_spelled" "_law_spelled" Z5b f fd)(T:Txt0 mg):FnOk P w K mg base CX0 1 f fd ["_law_number","_law_long"] spSpelled:=by
 refine F.ok scSpelled (fun vs H Q E h=>?_) (fun cdv A outer s H vs Q E hr h=>?_)
 ·obtain⟨x,m,rfl,_⟩:=h
  rfl
 ·obtain⟨x,m,rfl,h0,h1,k⟩:=h
  refine⟨_,Z05 (Z0a (i:=2) scSpelled.nd rfl (Or.inl rfl) Z08) <|
   Z05 (Z43 PassesOwn.never rfl (Z2i rfl T.range (Z0b (pv 1) Z02)) (Z0l (i:=3) scSpelled.nd rfl (Or.inl rfl))
    (Z05 (Z0a (i:=2) scSpelled.nd rfl (Or.inl rfl) (Z0m Z3f (pv 2) (Z0q Zc2 Z08 (Z0m Z3e (pv 0) Z03) (fun _ _=>rfl)))) <|
     Z07 (Z0a (i:=0) scSpelled.nd rfl (Or.inl rfl) (Z0m Z6c (pv 0) Z03)))) <|
   Z07 (Z0h (pv 2)),?_⟩
  refine⟨_,rfl,m,rfl,by omega,by omega,Z3d (n:=m.toNat) (fun i σ H'=>∃y t o,σ = [some (.int y),some (.int m),some (.str t),o]/\t.length=i/\Low t/\(i=0->y=x)/\(0<i->t.cps.toList[0]? = some (97+(x % 26).toNat))/\H'=H) ⟨x,_,none,rfl,rfl,Zl5,fun _=>rfl,fun z=>absurd z (Nat.lt_irrefl _),rfl⟩ ?_ ?_⟩
  ·rintro i σ H' hi ⟨y,t,o,rfl,ht,hlow,hy,hf,rfl⟩
   have hat:=Znn y
   refine⟨_,rfl,_,rfl,_,_,rfl,rfl,(by show(0:Int)<26;decide),abc,_,_,rfl,rfl,(by decide+kernel),hat,_,_,rfl,rfl,?_,_,rfl,_,_,rfl,rfl,⟨by decide,by decide⟩,?_⟩
   ·show t.length+1<=sizeLine
    have:sizeLine=16777216:=sizeLine_eq
    omega
   ·refine⟨_,_,_,rfl,by rw[PySem.Str.length_append,ht];rfl,Z6y hlow (Zbd (by omega)),fun z=>absurd z (Nat.succ_ne_zero _),fun _=>?_,rfl⟩
    show(t.cps ++ #[97+(y % 26).toNat]).toList[0]? = _
    by_cases hz:i=0
    ·have h2:t.cps.toList = []:=by
      apply eq_nil_of_length_eq_zero
      rw[Array.length_toList]
      show t.length=0
      omega
     rw[Array.toList_append,h2,hy hz]
     rfl
    ·have h2:=hf (by omega)
     rw[Array.toList_append,List.getElem?_append_left (by rw[Array.length_toList];show 0<t.length;omega)]
     exact h2
  ·rintro σ H' ⟨y,t,o,rfl,ht,hlow,_,hf,rfl⟩
   exact⟨_,rfl,k t ⟨⟨by omega,hlow⟩,fun z=>hf (by omega)⟩⟩
end
theorem Z2b (ts:List Str):(ts.map V.str).all Z45=true:=by
 rw[all_map]
 exact all_eq_true.mpr fun _ _=>rfl
instance (t:Str):Decidable (Low t):=by unfold Low;exact inferInstance
theorem Z6z {x:Str}{lo hi:Option Int}(h:Low x):Low (Txt.slice x lo hi):=by
 unfold Txt.slice
 split
 ·exact h
 ·intro c hc
  have hc':=hc
  simp only [mem_filterMap] at hc'
  obtain⟨i,_,e⟩:=hc'
  refine h c ?_
  rw[Array.mem_toList_iff]
  exact Array.mem_of_getElem? e
def words8:List Str:=["num","name","op","pick","let","set","say","take"]
def words5:List Str:=["do","again","call","own","hole"]
def words13:List Str:=words8++words5
def short12:List Str:=["a","b","c","d","x","y","z","n","v","aa","ab","tmp"]
theorem Ze3:∀t∈words13,(1<=t.length/\t.length<=5)/\Low t:=by decide+kernel
theorem Ze4:∀t∈short12,(1<=t.length/\t.length<=5)/\Low t:=by decide+kernel
theorem Z1n (t:Str)(ts:List Str):inV (.str t) (ts.map V.str)=true↔t∈ts:=by
 unfold inV
 rw[List.any_map,any_eq_true]
 constructor
 ·rintro⟨y,hy,e⟩
  have e':(y==t)=true:=e
  rw[<- beq_iff_eq.mp e']
  exact hy
 ·intro h
  exact⟨t,h,beq_self_eq_true t⟩
theorem But.lst {d a:Addr}{H H':Hp}{kvs:List (Key×V)}{xs:List V}(b:But d H H')(hd:H d=some (.dK kvs))(h:H a=some (.lst xs)):H' a=some (.lst xs):=b a _ h (Z3c h hd (by intro q;cases q))
theorem Z5s (x y:Str):(x++y).length=x.length+y.length:=PySem.Str.length_append x y
theorem Z5t {x:Str}(h:x.length<=1000):x.length<=sizeLine:=Nat.le_trans h (by decide)
abbrev Nm (t:Str):Prop:=(1<=t.length/\t.length<=8)/\Low t
inductive spLawName_ (vs:List V)(H:Hp)(Q:VK):Prop
 |mk (d l a:Addr) (ns:List Int) (n:Nat) (ts:List Str) (_:vs = [.ref d,.ref a]) (_:Feed H d l ns n) (_:n<=900000000000) (_:H a=some (.lst (ts.map V.str))) (_:ts.length<=89) (_:(∀t∈ts,Nm t)) (_:∀(t:Str) n' H',Nm t->t∉ts->t∉words13->n'<=n+8->Feed H' d l ns n'->But d H H'->Q (.str t) H'):spLawName_ vs H Q
def spLawName:Sp:=fun vs H Q _=>spLawName_ vs H Q
theorem Zcj {t:Str}(h:1<=t.length):∃c,atI t.cps.toList 0=some c:=by
 have hl:t.cps.toList.length=t.length:=by simp [Str.length]
 obtain⟨c,_,e⟩:=Z4n (xs:=t.cps.toList) (i:=0) (by decide) (by rw[hl];omega)
 exact⟨c,e⟩
theorem Zk4 {t:Str}{i:Int}{c:Nat}(h:Low t)(e:atI t.cps.toList i=some c):97<=c/\c<=122:=by
 obtain⟨j,_,e2,_⟩:=Z6i e
 exact h c (mem_of_getElem? e2)
def mi (m:Int)(i:Nat):Int:=(m-1+i) % 8+1
def Z69 (x m:Int)(u:Str)(j:Nat):Prop:=(u.length:Int)=mi m j/\u.cps.toList[0]? = some (97+((x+j) % 26).toNat)
instance (x m:Int)(u:Str)(j:Nat):Decidable (Z69 x m u j):=by unfold Z69;exact inferInstance
theorem Zg3 {x m:Int}{u:Str}{i j:Nat}(hi:i<=103)(hj:j<i)(a:Z69 x m u i)(b:Z69 x m u j):False:=by
 obtain⟨a1,a2⟩:=a
 obtain⟨b1,b2⟩:=b
 unfold mi at a1 b1
 rw[a2] at b2
 have b3:=Option.some.inj b2
 have h1:0<=(x+i) % 26:=by omega
 have h2:0<=(x+j) % 26:=by omega
 omega
structure Left (x m:Int)(ex R:List Str)(i:Nat):Prop where
 few:R.length+i<=103
 all:∀u∈ex,u∈R∨∃j,j<i/\Z69 x m u j
theorem Left.zero {x m:Int}{ex:List Str}(h:ex.length<=102):Left x m ex ex 0:=⟨by omega,fun u hu=>.inl hu⟩
theorem Left.one {x m:Int}{ex R:List Str}(h:ex.length<=102):Left x m ex ex 1:=⟨by omega,fun u hu=>.inl hu⟩
theorem Left.next {x m:Int}{ex R:List Str}{i:Nat}{t:Str}(h:Left x m ex R i)(ht:t∈ex)(k:Z69 x m t i):Left x m ex (R.filter fun u => !decide (Z69 x m u i)) (i+1):=by
 have hR:t∈R:=by
  rcases h.all t ht with z|⟨j,hj,kj⟩
  ·exact z
  ·exact(Zg3 (by have:=h.few;omega) hj k kj).elim
 have hlt:(R.filter fun u => !decide (Z69 x m u i)).length<R.length:=by
  rw[List.length_filter_lt_length_iff_exists]
  exact⟨t,hR,by simp [k]⟩
 refine⟨by have:=h.few;omega,fun u hu=>?_⟩
 rcases h.all u hu with z|⟨j,hj,kj⟩
 ·by_cases q:Z69 x m u i
  ·exact .inr ⟨i,Nat.lt_succ_self _,q⟩
  ·exact .inl (mem_filter.mpr ⟨z,by simp [q]⟩)
 ·exact .inr ⟨j,by omega,kj⟩
theorem Zg4 {X:Cx}{i:Nat}{x:Str}{e:Expr}{te:TE}{pos pos':Pos}(hN:X.N.Nodup)(hi:X.N[i]? = some x)(hx:Loc X.env.scope x)(he:PE X e te)(hs:swapsWith e (some (.Name x pos')) pos.line X.env=pure false)(hf:X.fn x=true∨X.env.scope.names.lookup x=some .local):
  PS X (.Assign [.Name x pos'] e pos) (Zon te (Z9l i)):=Z0a hN hi hx he hs hf
section
variable {P:Program}{w:World}{K:W.Frag}{mg:Str->Option Value}{base:Heap}
structure Helpers (K:W.Frag)(mg:Str->Option Value)(fD fS:Addr)(dD dS:FuncData):Prop where
 T:Txt0 mg
 D:Fun K "_law_draw" "_law_draw" Zfz fD dD
 bD:Binds K dD ["_law_feed_here","_law_many"] []
 mD:mg "_law_draw"=some (.ref fD)
 S:Fun K "_law_spelled" "_law_spelled" Z5b fS dS
 bS:Binds K dS ["_law_number","_law_long"] []
 mS:mg "_law_spelled"=some (.ref fS)
theorem scLawName:FnScope ["_law_feed_here","_law_taken","_law_words","_law_way","_law_long","_law_number","_law_name_here","_law_word","_law_at"] ["_law_feed_here","_law_taken"] (Z04 Z36):=.q
inductive Mid (d l a wd:Addr)(ns:List Int)(n k:Nat)(ts:List Str)(H:Hp)(way m x:Int)(σ':St)(H':Hp):Prop
 |mk (t:Str) (n':Nat) (o7 o8:Option V) (_:σ' = [some (.ref d),some (.ref a),some (.ref wd),some (.int way),some (.int m),some (.int x),some (.str t),o7,o8]) (_:Nm t) (_:n'<=n+k) (_:Feed H' d l ns n') (_:H' a=some (.lst (ts.map V.str))) (_:H' wd=some (.lst (words13.map V.str))) (_:But d H H'):Mid d l a wd ns n k ts H way m x σ' H'
theorem Z7z {f fD fS:Addr}{fd dD dS:FuncData}(F:Fun K "_law_name" "_law_name" Z36 f fd)(U:Helpers K mg fD fS dD dS):FnOk P w K mg base CX0 2 f fd ["_law_feed_here","_law_taken"] spLawName:=by
 have GD:FnOk P w K mg base CX0 1 fD dD ["_law_feed_here","_law_many"] spDraw:=Z8v U.D U.T
 have GS:FnOk P w K mg base CX0 1 fS dS ["_law_number","_law_long"] spSpelled:=Ze2 U.S U.T
 refine F.ok scLawName (fun vs H Q E h=>?_) (fun cdv A outer s H vs Q E hr h=>?_)
 ·obtain⟨d,l,a,ns,n,ts,rfl,_⟩:=h
  rfl
 ·obtain⟨d,l,a,ns,n,ts,rfl,F0,hn,A0,hts,hall,k⟩:=h
  have hu0:=hr.units0
  have hsz:=sizeLine_eq
  have hr1:Room 1 _:=hr.mono (by decide)
  refine'⟨?tt,?body,?fin⟩
  case body=>
   refine' Z05 ?s1 (Z05 ?s2 (Z05 ?s3 (Z05 ?s4 (Z05 ?s5 (Z05 ?s6 (Z0g ?s7 (Z0g ?s8 (Z0g ?s9 (Z0g ?s10 (Z05 ?s11 (Z07 ?s12)))))))))))
   case s1=>exact Z0a (i:=2) scLawName.nd rfl (Or.inl rfl) (Z53 (vs:=words8.map V.str) (by decide+kernel))
   case s2=>exact Z0a (i:=2) scLawName.nd rfl (Or.inl rfl) (Z0m Z2d (pv 2) (Z53 (vs:=words5.map V.str) (by decide+kernel)))
   case s3=>exact Z0a (i:=3) scLawName.nd rfl (Or.inl rfl) (Z06 GD hr1 (by rfl) U.mD U.D.kp U.bD .nil Z0f (Z0e (pv 0) (Z18 Z03 Z02)))
   case s4=>exact Z0a (i:=4) scLawName.nd rfl (Or.inl rfl) (Z0m Z1w Z03 (Z06 GD hr1 (by rfl) U.mD U.D.kp U.bD .nil Z0f (Z0e (pv 0) (Z18 Z03 Z02))))
   case s5=>exact Z0a (i:=5) scLawName.nd rfl (Or.inl rfl) (Z0m Z1w (Z0m Z25 (Z06 GD hr1 (by rfl) U.mD U.D.kp U.bD .nil Z0f (Z0e (pv 0) (Z18 Z03 Z02))) Z03) (Z06 GD hr1 (by rfl) U.mD U.D.kp U.bD .nil Z0f (Z0e (pv 0) (Z18 Z03 Z02))))
   case s6=>exact Z0a (i:=6) scLawName.nd rfl (Or.inl rfl) (Z06 GS hr1 (by rfl) U.mS U.S.kp U.bS .nil Z0f (Z0e (pv 5) (Z0e (pv 4) Z02)))
   case s7=>
    refine' Z11 (Z09 Z1f (pv 3) Z03 (Z0i _)) (Z07 ?b) Z0k
    case b=>
     refine' Z0a (i:=6) scLawName.nd rfl (Or.inl rfl) (Z0m Z3f ?l ?r)
     case l=>exact Z0q Z16 (pv 2) (Z06 GD hr1 (by rfl) U.mD U.D.kp U.bD .nil Z0f (Z0e (pv 0) (Z18 Z03 Z02))) (fun _ _=>rfl)
     case r=>exact Z0q Zc2 (pv 6) Z03 (fun _ _=>rfl)
   case s8=>
    refine' Z11 (Z09 Z1f (pv 3) Z03 (Z0i _)) (Z07 ?b) Z0k
    case b=>
     refine' Zg4 (i:=6) ?ha ?hb ?hc ?hd ?he ?hf
     case ha=>exact scLawName.nd
     case hb=>exact rfl
     case hc=>exact(Or.inl rfl)
     case he=>exact rfl
     case hf=>exact(.inr rfl)
     case hd=>
      refine' @Z0q ((Zhv CX0 P w K mg base ["_law_feed_here","_law_taken","_law_words","_law_way","_law_long","_law_number","_law_name_here","_law_word","_law_at"] "_law_name" (Z04 Z36) f cdv A outer s H E).nox) _ _ _ _ _ _ Z16 ?hl (Z06 GD hr1 (by rfl) U.mD U.D.kp U.bD .nil Z0f (Z0e (pv 0) (Z18 Z03 Z02))) ?hp
      case hl=>
       refine' @Z53 ((Zhv CX0 P w K mg base ["_law_feed_here","_law_taken","_law_words","_law_way","_law_long","_law_number","_law_name_here","_law_word","_law_at"] "_law_name" (Z04 Z36) f cdv A outer s H E).nox) _ (short12.map V.str) ?q
       case q=>decide+kernel
      case hp=>exact(fun _ _=>rfl)
   case s9=>
    refine' Z11 ?c (Z07 ?b) Z0k
    case c=>exact(Z41 (Z09 Z1f (pv 3) Z03 (Z0i _)) (Z2v (Z09 (Z4g hu0) (pv 1) (Z14 Z02) (Z0i _)))).pt
    case b=>
     refine' Z0a (i:=6) scLawName.nd rfl (Or.inl rfl) (Z1d Zfh (Z0m Z3f (Z0q Z16 ?x ?y (fun _ _=>rfl)) ?z) Z1p (Z1m ?u))
     case x=>exact pv 1
     case y=>exact(Z06 GD hr1 (by rfl) U.mD U.D.kp U.bD .nil Z0f (Z0e (pv 0) (Z2h (Z0r Z0u (by rfl) U.T.len PySem.boot_len (Z0e (pv 1) Z02)) Z02)))
     case z=>exact pv 6
     case u=>exact Z0m Z1w Z03 (Z0m Z3e (pv 5) Z03)
   case s10=>
    refine' Z11 ?c (Z05 ?b1 (Z05 ?b2 (Z07 ?b3))) Z0k
    case c=>exact(Z41 (Z09 Z1f (pv 3) Z03 (Z0i _)) (Z2v (Z09 (Z4g hu0) (pv 1) (Z14 Z02) (Z0i _)))).pt
    case b1=>
     refine' Z0a (i:=7) scLawName.nd rfl (Or.inl rfl) (Z0q Z16 ?x ?y (fun _ _=>rfl))
     case x=>exact pv 1
     case y=>exact(Z06 GD hr1 (by rfl) U.mD U.D.kp U.bD .nil Z0f (Z0e (pv 0) (Z2h (Z0r Z0u (by rfl) U.T.len PySem.boot_len (Z0e (pv 1) Z02)) Z02)))
    case b2=>exact Z0a (i:=8) scLawName.nd rfl (Or.inl rfl) (Z0m Z3e (pv 5) (Z0r Z9x (by rfl) U.T.len PySem.boot_len (Z0e (pv 7) Z02)))
    case b3=>
     refine' Z0a (i:=6) scLawName.nd rfl (Or.inl rfl) (Z0m Z3f (Z0m Z3f ?x ?y) ?z)
     case x=>exact Z1d Zfh (pv 7) Z1p (Z1m (pv 8))
     case y=>exact Z0q Zc2 (pv 6) Z03 (fun _ _=>rfl)
     case z=>exact Z1d Zfh (pv 7) (Z1m (Z0m Z1w (pv 8) Z03)) Z1p
   case s11=>
    refine' Zby PassesOwn.never ?c (Z05 ?b1 (Z05 ?b2 (Z07 ?b3)))
    case c=>exact(Z66 (Z09 Z1x (pv 6) (pv 1) (by with_unfolding_all rfl)) (Z60 (Z09 Z1x (pv 6) (pv 2) (by with_unfolding_all rfl)))).pt
    case b1=>exact Z0a (i:=5) scLawName.nd rfl (Or.inl rfl) (Z0m Z1w (pv 5) Z03)
    case b2=>exact Z0a (i:=4) scLawName.nd rfl (Or.inl rfl) (Z0m Z1w (Z0m Z3e (pv 4) Z03) Z03)
    case b3=>exact Z0a (i:=6) scLawName.nd rfl (Or.inl rfl) (Z06 GS hr1 (by rfl) U.mS U.S.kp U.bS .nil Z0f (Z0e (pv 5) (Z0e (pv 4) Z02)))
   case s12=>exact Z0h (pv 6)
  case fin=>
   refine⟨Z5c (by decide+kernel),fun p hp=>?_⟩
   refine⟨_,rfl,Z5c (by decide+kernel),fun q hq=>⟨p,q,words8.map V.str,words5.map V.str,rfl,rfl,Z01 hq _ _ Z00,Z00,(by decide+kernel),fun wd hwd=>?_⟩⟩
   have s1:=((Z01 (o:=.lst (words8.map V.str)) hp).trans (Z01 (o:=.lst (words5.map V.str)) hq)).trans (Z01 (o:=.lst (words8.map V.str++words5.map V.str)) hwd)
   have W1:upd (upd (upd H p (.lst (words8.map V.str))) q (.lst (words5.map V.str))) wd (.lst (words8.map V.str++words5.map V.str)) wd=some (.lst (words13.map V.str)):=by
    rw[Z00,words13,map_append]
   have F1:=F0.same s1
   have A1:=s1 _ _ A0
   have B1:But d H _:=But.of s1
   generalize upd (upd (upd H p (.lst (words8.map V.str))) q (.lst (words5.map V.str))) wd (.lst (words8.map V.str++words5.map V.str))=H1 at W1 F1 A1 B1 ⊢
   refine⟨_,rfl,d,l,ns,n,_,rfl,F1,by omega,by decide,by decide,fun way n2 H2 _ _ hn2 F2 B2=>?_⟩
   obtain⟨z1,hd1⟩:=F1.dc
   have A2:=B2.lst hd1 A1
   have W2:=B2.lst hd1 W1
   have B2':=B1.trans B2
   refine⟨_,rfl,d,l,ns,n2,_,rfl,F2,by omega,by decide,by decide,fun lg n3 H3 lg0 lg1 hn3 F3 B3=>?_⟩
   obtain⟨z2,hd2⟩:=F2.dc
   have A3:=B3.lst hd2 A2
   have W3:=B3.lst hd2 W2
   have B3':=B2'.trans B3
   refine⟨_,_,rfl,rfl,?_⟩
   refine⟨_,rfl,d,l,ns,n3,_,rfl,F3,by omega,by decide,by decide,fun r4 n4 H4 r40 r41 hn4 F4 B4=>?_⟩
   obtain⟨z3,hd3⟩:=F3.dc
   have A4:=B4.lst hd3 A3
   have W4:=B4.lst hd3 W3
   have B4':=B3'.trans B4
   refine⟨_,_,rfl,rfl,.inr ⟨by decide,by decide⟩,?_⟩
   refine⟨_,rfl,d,l,ns,n4,_,rfl,F4,by omega,by decide,by decide,fun r5 n5 H5 r50 r51 hn5 F5 B5=>?_⟩
   obtain⟨z4,hd4⟩:=F4.dc
   have A5:=B5.lst hd4 A4
   have W5:=B5.lst hd4 W4
   have B5':=B4'.trans B5
   refine⟨_,_,rfl,rfl,?_⟩
   have hx0:0<=r4*456976+r5:=by omega
   refine⟨_,rfl,_,rfl,r4*456976+r5,1+lg,rfl,by omega,by omega,fun t5 ht5=>?_⟩
   obtain⟨⟨hl5,hw5⟩,hf5⟩:=ht5
   have hm0:1<=1+lg:=by omega
   have hm1:1+lg<=8:=by omega
   refine⟨Mid d l a wd ns n 5 ts H way (1+lg) (r4*456976+r5),?_,?_⟩
   ·refine⟨_,rfl,rfl,_,rfl,Z1e (fun _=>?_) (fun _=>?_)⟩
    ·refine⟨_,rfl,_,rfl,d,l,ns,n5,_,rfl,F5,by omega,by decide,by decide,fun r6 n6 H6 r60 r61 hn6 F6 B6=>?_⟩
     obtain⟨z5,hd5⟩:=F5.dc
     have A6:=B6.lst hd5 A5
     have W6:=B6.lst hd5 W5
     obtain⟨v6,hv6,hat6⟩:=Z4n (xs:=words13.map V.str) (i:=r6) r60 (Int.lt_of_lt_of_le r61 (by decide+kernel))
     obtain⟨t6,ht6,rfl⟩:=mem_map.mp hv6
     have h6:=Ze3 t6 ht6
     obtain⟨c6,hc6⟩:=Zcj (t:=t5) (by omega)
     refine⟨wd,words13.map V.str,r6,.str t6,rfl,rfl,SqL.of W6,hat6,?_⟩
     refine⟨_,rfl,t5,0,c6,rfl,rfl,Z5t (by omega),hc6,?_⟩
     refine⟨t6,⟨#[c6]⟩,rfl,rfl,(by show t6.length+1<=sizeLine;omega),?_⟩
     exact⟨_,n6,none,none,rfl,⟨⟨by rw[Z5s];show 1<=t6.length+1;omega,by rw[Z5s];show t6.length+1<=8;omega⟩,Z6y h6.2 (Zbd (Zk4 hw5 hc6))⟩,by omega,F6,A6,W6,B5'.trans B6⟩
    ·exact⟨t5,n5,none,none,rfl,⟨⟨by omega,by omega⟩,hw5⟩,by omega,F5,A5,W5,B5'⟩
   generalize r4*456976+r5=x at hx0 ⊢
   generalize 1+lg=m at hm0 hm1 ⊢
   rintro σ6 H6 ⟨t6,n6,o67,o68,rfl,ht6,hn6,F6,A6,W6,B6⟩
   obtain⟨z6,hd6⟩:=F6.dc
   refine⟨Mid d l a wd ns n 6 ts H way m x,?_,?_⟩
   ·refine⟨_,rfl,rfl,_,rfl,Z1e (fun _=>?_) (fun _=>?_)⟩
    ·refine⟨Z5c (by decide+kernel),fun e he=>?_⟩
     have se:=Z01 (o:=.lst (short12.map V.str)) he
     refine⟨_,rfl,d,l,ns,n6,_,rfl,F6.same se,by omega,by decide,by decide,fun r7 n7 H7 r70 r71 hn7 F7 B7=>?_⟩
     have E7:H7 e=some (.lst (short12.map V.str)):=B7.lst (se _ _ hd6) Z00
     have A7:=B7.lst (se _ _ hd6) (se _ _ A6)
     have W7:=B7.lst (se _ _ hd6) (se _ _ W6)
     obtain⟨v7,hv7,hat7⟩:=Z4n (xs:=short12.map V.str) (i:=r7) r70 (Int.lt_of_lt_of_le r71 (by decide+kernel))
     obtain⟨t7,ht7,rfl⟩:=mem_map.mp hv7
     have h7:=Ze4 t7 ht7
     refine⟨e,short12.map V.str,r7,.str t7,rfl,rfl,SqL.of E7,hat7,?_⟩
     exact⟨_,n7,o67,o68,rfl,⟨⟨by omega,by omega⟩,h7.2⟩,by omega,F7,A7,W7,(B6.trans (But.of se)).trans B7⟩
    ·exact⟨t6,n6,o67,o68,rfl,ht6,by omega,F6,A6,W6,B6⟩
   rintro σ7 H7 ⟨t7,n7,o77,o78,rfl,ht7,hn7,F7,A7,W7,B7⟩
   obtain⟨z7,hd7⟩:=F7.dc
   refine⟨Mid d l a wd ns n 7 ts H way m x,?_,?_⟩
   ·refine⟨_,rfl,rfl,_,rfl,Z1e (fun _=>?_) (fun _=>Za2 ⟨t7,n7,o77,o78,rfl,ht7,by omega,F7,A7,W7,B7⟩)⟩
    refine⟨_,rfl,Nat.zero_le _,fun e he=>⟨a,e,ts.map V.str,[],rfl,rfl,SqL.of (Z01 he _ _ A7),SqL.of Z00,Z2b ts,rfl,_,rfl,?_⟩⟩
    have se:=Z01 (o:=.lst []) he
    have F7':=F7.same se
    have A7':=se _ _ A7
    have W7':=se _ _ W7
    have B7':=B7.trans (But.of (d:=d) se)
    obtain⟨z7',hd7'⟩:=F7'.dc
    generalize upd H7 e (.lst [])=H7e at F7' A7' W7' B7' hd7' ⊢
    refine Z1e (fun hne=>?_) (fun _=>⟨t7,n7,o77,o78,rfl,ht7,by omega,F7',A7',W7',B7'⟩)
    have hpos:0<(ts.map V.str).length:=by
     cases ts with
     |nil=>exact absurd hne (by decide)
     |cons _ _=>exact Nat.succ_pos _
    have hfew:(ts.map V.str).length<=89:=by rw[length_map];exact hts
    refine⟨_,rfl,_,rfl,_,rfl,a,ts.map V.str,rfl,.inl (SqL.of A7'),d,l,ns,n7,_,rfl,F7',by omega,(by show(0:Int)<((ts.map V.str).length:Int);omega),(by show((ts.map V.str).length:Int)<18446744073709551616;omega),fun r8 n8 H8 r80 r81 hn8 F8 B8=>?_⟩
    have A8:=B8.lst hd7' A7'
    have W8:=B8.lst hd7' W7'
    obtain⟨v8,hv8,hat8⟩:=Z4n (xs:=ts.map V.str) (i:=r8) r80 r81
    obtain⟨t8,ht8,rfl⟩:=mem_map.mp hv8
    have h8:=hall t8 ht8
    refine⟨a,ts.map V.str,r8,.str t8,rfl,rfl,SqL.of A8,hat8,?_⟩
    refine⟨_,rfl,t8,t7,rfl,rfl,(by omega),?_⟩
    have hlen:(t8++t7).length=t8.length+t7.length:=Z5s _ _
    refine⟨_,rfl,_,_,rfl,rfl,(by show(0:Int)<8;decide),_,_,rfl,rfl,_,rfl,_,rfl,Z5t (by omega),?_⟩
    have hj:1<=1+x % 8:=by omega
    have hj2:1+x % 8<=8:=by omega
    have q1:=Zkq (x:=t8++t7) (j:=1+x % 8) (by omega) hj
    have q2:=Zk0 (x:=t8++t7) (j:=1+x % 8) (by omega)
    exact⟨_,n8,o77,o78,rfl,⟨⟨q1,by omega⟩,Z6z (Z6y h8.2 ht7.2)⟩,by omega,F8,A8,W8,B7'.trans B8⟩
   rintro σ8 H8 ⟨t8,n8,o87,o88,rfl,ht8,hn8,F8,A8,W8,B8⟩
   obtain⟨z8,hd8⟩:=F8.dc
   refine⟨Mid d l a wd ns n 8 ts H way m x,?_,?_⟩
   ·refine⟨_,rfl,rfl,_,rfl,Z1e (fun _=>?_) (fun _=>Za2 ⟨t8,n8,o87,o88,rfl,ht8,by omega,F8,A8,W8,B8⟩)⟩
    refine⟨_,rfl,Nat.zero_le _,fun e he=>⟨a,e,ts.map V.str,[],rfl,rfl,SqL.of (Z01 he _ _ A8),SqL.of Z00,Z2b ts,rfl,_,rfl,?_⟩⟩
    have se:=Z01 (o:=.lst []) he
    have F8':=F8.same se
    have A8':=se _ _ A8
    have W8':=se _ _ W8
    have B8':=B8.trans (But.of (d:=d) se)
    obtain⟨z8',hd8'⟩:=F8'.dc
    generalize upd H8 e (.lst [])=H8e at F8' A8' W8' B8' hd8' ⊢
    refine Z1e (fun hne=>?_) (fun _=>⟨t8,n8,o87,o88,rfl,ht8,by omega,F8',A8',W8',B8'⟩)
    have hpos:0<(ts.map V.str).length:=by
     cases ts with
     |nil=>exact absurd hne (by decide)
     |cons _ _=>exact Nat.succ_pos _
    have hfew:(ts.map V.str).length<=89:=by rw[length_map];exact hts
    refine⟨_,rfl,_,rfl,_,rfl,a,ts.map V.str,rfl,.inl (SqL.of A8'),d,l,ns,n8,_,rfl,F8',by omega,(by show(0:Int)<((ts.map V.str).length:Int);omega),(by show((ts.map V.str).length:Int)<18446744073709551616;omega),fun r9 n9 H9 r90 r91 hn9 F9 B9=>?_⟩
    have A9:=B9.lst hd8' A8'
    have W9:=B9.lst hd8' W8'
    obtain⟨v9,hv9,hat9⟩:=Z4n (xs:=ts.map V.str) (i:=r9) r90 r91
    obtain⟨t9,ht9,rfl⟩:=mem_map.mp hv9
    have h9:=hall t9 ht9
    refine⟨a,ts.map V.str,r9,.str t9,rfl,rfl,SqL.of A9,hat9,?_⟩
    refine⟨_,rfl,_,rfl,t9,rfl,Z5t (by omega),_,_,rfl,rfl,(by show(0:Int)<(t9.length:Int);omega),?_⟩
    have at0:0<=x % (t9.length:Int):=Int.emod_nonneg _ (by omega)
    have at1:x % (t9.length:Int)<t9.length:=Int.emod_lt_of_pos _ (by omega)
    obtain⟨c9,hc9⟩:=Zcj (t:=t8) ht8.1.1
    have q1:=Zk0 (x:=t9) (j:=x % (t9.length:Int)) at0
    have q2:=Zi7 (x:=t9) (i:=x % (t9.length:Int)+1) (by omega) (by omega)
    refine⟨_,rfl,_,rfl,_,rfl,t9,rfl,Z5t (by omega),_,rfl,t8,0,c9,rfl,rfl,Z5t (by omega),hc9,_,⟨#[c9]⟩,rfl,rfl,(by show _+1<=sizeLine;omega),?_⟩
    have hlen:(Txt.slice t9 none (some (x % (t9.length:Int)))++(⟨#[c9]⟩:Str)).length=(Txt.slice t9 none (some (x % (t9.length:Int)))).length+1:=Z5s _ _
    refine⟨_,rfl,_,rfl,_,_,rfl,rfl,_,rfl,t9,rfl,Z5t (by omega),_,_,rfl,rfl,(by omega),?_⟩
    exact⟨_,n9,_,_,rfl,⟨⟨by rw[Z5s];omega,by rw[Z5s];omega⟩,Z6y (Z6y (Z6z h9.2) (Zbd (Zk4 ht8.2 hc9))) (Z6z h9.2)⟩,by omega,F9,A9,W9,B8'.trans B9⟩
   rintro σ9 H9 ⟨t9,n9,o97,o98,rfl,ht9,hn9,F9,A9,W9,B9⟩
   have hex:(ts++words13).length<=102:=by
    rw[length_append]
    have:words13.length=13:=by decide+kernel
    omega
   refine Zhs (fun σ H'=>∃(i:Nat) (R:List Str) (t:Str),σ = [some (.ref d),some (.ref a),some (.ref wd),some (.int way),some (.int (mi m i)),some (.int (x+i)),some (.str t),o97,o98]/\Nm t/\Left x m (ts++words13) R i/\(0<i->Z69 x m t i)/\H'=H9)
    (fun(σ:St) (_:Hp)=>match σ[5]? with|some (some (V.int z))=>(x+200-z).toNat|_=>0) ⟨0,_,t9,?_,ht9,Left.zero hex,fun z=>absurd z (Nat.lt_irrefl _),rfl⟩ ?_ ?_
   ·have e1:mi m 0=m:=by unfold mi;omega
    have e2:x+((0:Nat):Int)=x:=by omega
    rw[e1,e2]
   ·rintro σ H' ⟨i,R,t,rfl,ht,hL,hK,rfl⟩
    have hi:i<=103:=by have:=hL.few;omega
    have e1:mi m i % 8+1=mi m (i+1):=by unfold mi;omega
    have e2:x+(i:Int)+1=x+((i+1:Nat):Int):=by omega
    have e3:1<=mi m (i+1)/\mi m (i+1)<=8:=by unfold mi;omega
    have body:t∈ts++words13->∀t':Str,Zg2 t' (x+((i+1:Nat):Int)) (mi m (i+1)) →
      ∃R',Nm t'/\Left x m (ts++words13) R' (i+1)/\(0<i+1->Z69 x m t' (i+1)):=by
     intro hin t' ht'
     have hk:Z69 x m t' (i+1):=⟨ht'.1.1,ht'.2 (by omega)⟩
     have hl:=ht'.1.1
     by_cases hz:i=0
     ·subst hz
      exact⟨_,⟨⟨by omega,by omega⟩,ht'.1.2⟩,Left.one (R:=R) hex,fun _=>hk⟩
     ·exact⟨_,⟨⟨by omega,by omega⟩,ht'.1.2⟩,hL.next hin (hK (by omega)),fun _=>hk⟩
    refine⟨_,rfl,_,rfl,a,ts.map V.str,rfl,.inl (SqL.of A9),rfl,Z2b ts,_,rfl,Z1e (fun g=>Zc7 ?_) (fun g=>?_)⟩
    ·refine⟨_,rfl,_,_,rfl,rfl,_,rfl,_,_,rfl,rfl,(by show(0:Int)<8;decide),_,_,rfl,rfl,_,rfl,_,rfl,_,_,rfl,(by rw[e1];omega),(by rw[e1];omega),fun t' ht'=>?_⟩
     rw[e1,e2] at ht'
     obtain⟨R',q1,q2,q3⟩:=body (mem_append.mpr (.inl ((Z1n t ts).mp g))) t' ht'
     refine⟨⟨i+1,R',t',?_,q1,q2,q3,rfl⟩,?_⟩
     ·show[some (.ref d),some (.ref a),some (.ref wd),some (.int way),some (.int (mi m i % 8+1)),some (.int (x+i+1)),some (.str t'),o97,o98]=_
      rw[e1,e2]
     ·show(x+200-(x+i+1)).toNat<(x+200-(x+i)).toNat
      omega
    ·refine⟨_,rfl,_,rfl,wd,words13.map V.str,rfl,.inl (SqL.of W9),rfl,Z2b words13,_,rfl,Z1e (fun g2=>?_) (fun g2=>?_)⟩
     ·refine⟨_,rfl,_,_,rfl,rfl,_,rfl,_,_,rfl,rfl,(by show(0:Int)<8;decide),_,_,rfl,rfl,_,rfl,_,rfl,_,_,rfl,(by rw[e1];omega),(by rw[e1];omega),fun t' ht'=>?_⟩
      rw[e1,e2] at ht'
      obtain⟨R',q1,q2,q3⟩:=body (mem_append.mpr (.inr ((Z1n t words13).mp g2))) t' ht'
      refine⟨⟨i+1,R',t',?_,q1,q2,q3,rfl⟩,?_⟩
      ·show[some (.ref d),some (.ref a),some (.ref wd),some (.int way),some (.int (mi m i % 8+1)),some (.int (x+i+1)),some (.str t'),o97,o98]=_
       rw[e1,e2]
      ·show(x+200-(x+i+1)).toNat<(x+200-(x+i)).toNat
       omega
     ·exact⟨_,rfl,k t n9 _ ht (fun z=>g ((Z1n t ts).mpr z)) (fun z=>g2 ((Z1n t words13).mpr z)) hn9 F9 B9⟩
   ·rintro σ H' Q1 Q2 hq ⟨v,f1,w1,f2,p,xs,f3,f4,f5,f6,c,f7,q⟩
    refine⟨v,f1,w1,f2,p,xs,f3,f4,f5,f6,c,f7,?_⟩
    cases c with
    |true=>exact Zc7 (hq _ _ (by simpa using q))
    |false=>
     refine Za2 ?_
     simp only [Bool.false_eq_true,if_false] at q
     obtain⟨v,f1,w1,f2,p,xs,f3,f4,f5,f6,c,f7,q⟩:=q
     exact⟨v,f1,w1,f2,p,xs,f3,f4,f5,f6,c,f7,hq _ _ q⟩
end
theorem Ze5 {l:List Str}{x:Str}(h:l.Nodup)(hx:x∉l):(l ++ [x]).Nodup:=by
 rw[List.nodup_append]
 refine⟨h,by simp,fun a ha b hb e=>?_⟩
 rw[mem_singleton] at hb
 rw[e,hb] at ha
 exact hx ha
inductive spNames_ (vs:List V)(H:Hp)(Q:VK):Prop
 |mk (d l:Addr) (ns:List Int) (n:Nat) (m:Int) (_:vs = [.ref d,.int m]) (_:Feed H d l ns n) (_:n<=800000000000) (_:0<=m) (_:m<=89) (_:∀(nm:Addr) (ts:List Str) n' H',H nm=none->H' nm=some (.lst (ts.map V.str))->(ts.length:Int)=m->(∀t∈ts,Nm t)->ts.Nodup->n'<=n+8*m.toNat->Feed H' d l ns n'->But d H H'->Q (.ref nm) H'):spNames_ vs H Q
def spNames:Sp:=fun vs H Q _=>spNames_ vs H Q
section
variable {P:Program}{w:World}{K:W.Frag}{mg:Str->Option Value}{base:Heap}
theorem scNames:FnScope ["_law_feed_here","_law_many","_law_names_here","_law_k"] ["_law_feed_here","_law_many"] (Z04 Zag):=.q
theorem Zik {f fN fD fS:Addr}{fd dN dD dS:FuncData}(F:Fun K "_law_names" "_law_names" Zag f fd)(U:Helpers K mg fD fS dD dS)
  (FN:Fun K "_law_name" "_law_name" Z36 fN dN) (bN:Binds K dN ["_law_feed_here","_law_taken"] []) (mN:mg "_law_name"=some (.ref fN)):FnOk P w K mg base CX0 3 f fd ["_law_feed_here","_law_many"] spNames:=by
 have GN:FnOk P w K mg base CX0 2 fN dN ["_law_feed_here","_law_taken"] spLawName:=Z7z FN U
 refine F.ok scNames (fun vs H Q E h=>?_) (fun cdv A outer s H vs Q E hr h=>?_)
 ·obtain⟨d,l,ns,n,m,rfl,_⟩:=h
  rfl
 ·obtain⟨d,l,ns,n,m,rfl,F0,hn,hm0,hm1,k⟩:=h
  have hsz:=sizeLine_eq
  refine⟨_,Z05 (Z0a (i:=2) scNames.nd rfl (Or.inl rfl) (Z14 Z02)) <|
   Z05 (Z43 PassesOwn.never rfl (Z2i (by rfl) U.T.range (Z0e (pv 1) Z02)) (Z0l (i:=3) scNames.nd rfl (Or.inl rfl))
    (Z07 (Z42 (Z8h PySem.F.plainAttrs_list PySem.F.slot_list_append PySem.F.type_list_append Z3g (pv 2) (Z2h (Z06 GN hr (by rfl) mN FN.kp bN .nil Z0f (Z0e (pv 0) (Z0e (pv 2) Z02))) Z02))))) <|
   Z07 (Z0h (pv 2)),?_⟩
  refine⟨Nat.zero_le _,fun nm hnm=>?_⟩
  refine⟨_,rfl,m,rfl,by omega,by omega,Z3d (n:=m.toNat) (fun i σ H'=>∃(ts:List Str) (n':Nat) (o:Option V),σ = [some (.ref d),some (.int m),some (.ref nm),o]/\ts.length=i/\(∀t∈ts,Nm t)/\ts.Nodup/\n'<=n+8*i/\Feed H' d l ns n'/\H' nm=some (.lst (ts.map V.str))/\But d H H')
   ⟨[],n,none,rfl,rfl,(fun t ht=>absurd ht not_mem_nil),nodup_nil,Nat.le_refl _,F0.same (Z01 hnm),Z00,But.of (Z01 hnm)⟩ ?_ ?_⟩
  ·rintro i σ H' hi ⟨ts,n',o,rfl,hl,hall,hnd,hn',F',L',B'⟩
   refine⟨_,rfl,.inl ⟨rfl,_,SqL.of L'⟩,_,rfl,_,rfl,d,l,nm,ns,n',ts,rfl,F',by omega,L',by omega,hall,fun t n2 H2 ht htn _ hn2 F2 B2=>?_⟩
   obtain⟨z,hd⟩:=F'.dc
   have L2:=B2.lst hd L'
   refine⟨nm,_,_,rfl,rfl,L2,(by rw[length_map];omega),?_⟩
   have hne:nm≠d:=(Z3c L2 (F2.dc.choose_spec) (by intro q;cases q))
   have hne2:nm≠l:=fun e=>by
    have h0:H l=some _:=F0.ls
    rw[<- e,hnm] at h0
    cases h0
   refine⟨ts ++ [t],n2,_,rfl,by rw[length_append,hl];rfl,?_,Ze5 hnd htn,by omega,?_,?_,?_⟩
   ·intro u hu
    rcases mem_append.mp hu with z|z
    ·exact hall u z
    ·rw[mem_singleton.mp z];exact ht
   ·obtain⟨⟨z2,hd2⟩,hls,hz⟩:=F2
    exact⟨⟨z2,by rw[Z0c (Ne.symm hne)];exact hd2⟩,by rw[Z0c (Ne.symm hne2)];exact hls,hz⟩
   ·rw[Z00,map_append];rfl
   ·intro b u e hb
    rw[Z0c (Z0j e hnm)]
    exact B2 b u (B' b u e hb) hb
  ·rintro σ H' ⟨ts,n',o,rfl,hl,hall,hnd,hn',F',L',B'⟩
   exact⟨_,rfl,k nm ts n' H' hnm L' (by omega) hall hnd hn' F' B'⟩
end
theorem But.kp {d l:Addr}{ns:List Int}{n:Nat}{H H':Hp}(b:But d H H')(F:Feed H d l ns n):Kp H H':=by
 obtain⟨⟨z,hd⟩,_,_⟩:=F
 intro a o h hk
 exact b a o h (fun q=>by subst q;rw[hd] at h;cases h;exact hk _ rfl)
theorem Feed.lst {d l a:Addr}{ns:List Int}{n:Nat}{H H':Hp}{xs:List V}(F:Feed H d l ns n)(b:But d H H')(h:H a=some (.lst xs)):H' a=some (.lst xs):=by
 obtain⟨⟨z,hd⟩,_,_⟩:=F
 exact b.lst hd h
inductive spValue_ (vs:List V)(H:Hp)(Q:VK):Prop
 |mk (d l:Addr) (ns:List Int) (n:Nat) (_:vs = [.ref d]) (_:Feed H d l ns n) (_:n<=900000000000) (_:∀(i:Int) n' H',0<=i->i<=1000000000->n'<=n+3->Feed H' d l ns n'->But d H H'->Q (.int i) H'):spValue_ vs H Q
def spValue:Sp:=fun vs H Q _=>spValue_ vs H Q
section
variable {P:Program}{w:World}{K:W.Frag}{mg:Str->Option Value}{base:Heap}
theorem scLawValue:FnScope ["_law_feed_here","_law_way"] ["_law_feed_here"] (Z04 Z3n):=.q
theorem Zil {f fD fS:Addr}{fd dD dS:FuncData}(F:Fun K "_law_value" "_law_value" Z3n f fd)(U:Helpers K mg fD fS dD dS):FnOk P w K mg base CX0 2 f fd ["_law_feed_here"] spValue:=by
 have GD:FnOk P w K mg base CX0 1 fD dD ["_law_feed_here","_law_many"] spDraw:=Z8v U.D U.T
 refine F.ok scLawValue (fun vs H Q E h=>?_) (fun cdv A outer s H vs Q E hr h=>?_)
 ·obtain⟨d,l,ns,n,rfl,_⟩:=h
  rfl
 ·obtain⟨d,l,ns,n,rfl,F0,hn,k⟩:=h
  have hr1:Room 1 _:=hr.mono (by decide)
  refine'⟨?tt,?body,?fin⟩
  case body=>
   refine' Z05 ?s1 (Z05 ?s2 (Z05 ?s3 (Z07 ?s4)))
   case s1=>exact Z0a (i:=1) scLawValue.nd rfl (Or.inl rfl) (Z06 GD hr1 (by rfl) U.mD U.D.kp U.bD .nil Z0f (Z0e (pv 0) (Z18 Z03 Z02)))
   case s2=>exact Z11 (Z09 Z1f (pv 1) Z03 (Z0i _)) (Z07 (Z0h (Z0m Z24 Z03 (Z06 GD hr1 (by rfl) U.mD U.D.kp U.bD .nil Z0f (Z0e (pv 0) (Z18 Z03 Z02)))))) Z0k
   case s3=>exact Z11 (Z09 Z1f (pv 1) Z03 (Z0i _)) (Z07 (Z0h (Z0m Z1w (Z0m Z25 (Z06 GD hr1 (by rfl) U.mD U.D.kp U.bD .nil Z0f (Z0e (pv 0) (Z18 Z03 Z02))) Z03) (Z06 GD hr1 (by rfl) U.mD U.D.kp U.bD .nil Z0f (Z0e (pv 0) (Z18 Z03 Z02)))))) Z0k
   case s4=>exact Z0h (Z06 GD hr1 (by rfl) U.mD U.D.kp U.bD .nil Z0f (Z0e (pv 0) (Z0b (Z0m Z24 (Z0m Z25 Z03 (pv 1)) Z03) Z02)))
  case fin=>
   refine⟨_,rfl,d,l,ns,n,_,rfl,F0,by omega,by decide,by decide,fun way n1 H1 w0 w1 hn1 F1 b1=>?_⟩
   refine⟨_,rfl,rfl,_,rfl,Z1e (fun g=>?_) (fun g=>?_)⟩
   ·refine⟨_,rfl,d,l,ns,n1,_,rfl,F1,by omega,by decide,by decide,fun i n2 H2 i0 i1 hn2 F2 b2=>⟨_,_,rfl,rfl,?_⟩⟩
    exact k _ n2 H2 (by omega) (by omega) (by omega) F2 (b1.trans b2)
   ·refine⟨_,rfl,rfl,_,rfl,Z1e (fun g2=>?_) (fun g2=>?_)⟩
    ·refine⟨_,rfl,d,l,ns,n1,_,rfl,F1,by omega,by decide,by decide,fun i n2 H2 i0 i1 hn2 F2 b2=>⟨_,_,rfl,rfl,.inr ⟨by decide,by decide⟩,?_⟩⟩
     refine⟨_,rfl,d,l,ns,n2,_,rfl,F2,by omega,by decide,by decide,fun j n3 H3 j0 j1 hn3 F3 b3=>⟨_,_,rfl,rfl,?_⟩⟩
     exact k _ n3 H3 (by omega) (by omega) (by omega) F3 ((b1.trans b2).trans b3)
    ·have g':way≠0:=fun z=>g (by rw[z];decide)
     have g2':way≠1:=fun z=>g2 (by rw[z];decide)
     refine⟨_,rfl,_,rfl,_,_,rfl,rfl,.inl ⟨by decide,by decide⟩,_,_,rfl,rfl,d,l,ns,n1,3*way-3,rfl,F1,by omega,by omega,by omega,fun i n2 H2 i0 i1 hn2 F2 b2=>?_⟩
     exact k i n2 H2 i0 (by omega) (by omega) F2 (b1.trans b2)
end
structure TxtT (mg:Str->Option Value):Prop where
 isi:mg "isinstance"=none
 int:mg "int"=none
 bl:mg "bool"=none
 tup:mg "tuple"=none
 len:mg "len"=none
def Z2t (t:Th):Bool := !isTup t
def Ze6 (ts:List Th):List Th:=ts.filter Z2t
def lfV:V->Bool
 | .str x=>decide (x.length<=16)&&x.cps.toList.all fun c=>decide (c<16 ^ 8)
 | .int i=>decide (i.natAbs<10 ^ 12)
 |_=>true
structure SS where
 c:List Str
 u:List Str
abbrev NmU (S:SS)(t:Str):Prop:=Nm t/\t∈S.u
theorem Zk5 {t:Str}(h:Nm t):lfV (.str t)=true:=by
 show(decide (t.length<=16)&&t.cps.toList.all fun c=>decide (c<16 ^ 8))=true
 rw[Bool.and_eq_true]
 refine⟨decide_eq_true (by have:=h.1.2;omega),all_eq_true.mpr fun c hc=>decide_eq_true ?_⟩
 have:=h.2 c hc
 omega
theorem Zim {S:SS}{t:Str}(h:NmU S t):lfV (.str t)=true:=Zk5 h.1
inductive Sh (S:SS):Str->List V->Nat->Prop where
 |num {i:Int}:0<=i->i<=1000000000->Sh S "num" [.int i] 0
 |name {x:Str}:NmU S x->Sh S "name" [.str x] 0
 |take:Sh S "take" [] 0
 |op {c:Nat}:c∈("+-*/<=":Str).cps.toList->Sh S "op" [.str ⟨#[c]⟩] 2
 |pick:Sh S "pick" [] 3
 |lt {x:Str}:NmU S x->Sh S "let" [.str x] 2
 |set {x:Str}:NmU S x->Sh S "set" [.str x] 1
 |say:Sh S "say" [] 1
 |seq {n:Nat}:1<=n->n<=6->Sh S "do" [] n
 |again {i:Int}:0<=i->i<=5->Sh S "again" [.int i] 1
 |call {x:Str} {n:Nat}:x∈S.c->Nm x->n<=6->Sh S "call" [.str x] n
theorem Sh.turn {S:SS}{w x y:Str}{n:Nat}(h:Sh S w [.str x] n)(hw:w="name"∨w="set")(hy:NmU S y):Sh S w [.str y] n:=by
 cases h with
 |name a=>exact .name hy
 |set a=>exact .set hy
 |op a=>rcases hw with q|q <;> exact absurd q (by decide+kernel)
 |lt a=>rcases hw with q|q <;> exact absurd q (by decide+kernel)
 |call a b c=>rcases hw with q|q <;> exact absurd q (by decide+kernel)
structure HdE (S:SS)(w:Str)(hd:List V)(n:Nat):Prop where
 st:w="set"∨w="name"->∃x:Str,hd = [.str x]
 ca:w="call"->∃x:Str,hd = [.str x]/\x∈S.c
 ag:w="again"->∃i:Int,hd = [.int i]/\0<=i/\i<=5
 lv:∀v∈hd,lfV v=true
 lw:lfV (.str w)=true
 sh:Sh S w hd n
def nd (w:Str)(hd:List V)(ks:List Th):Th:=.tup (.at (.str w)::(hd.map Th.at++ks))
def PfT (S:SS):Nat->Th->Prop
 | 0,_=>False
 |n+1,t=>∃(w:Str) (hd:List V) (ks:List Th),t=nd w hd ks/\hd.length<=1/\(∀v∈hd,plT (.at v)=true)/\(w="let"->(∃x:Str,hd = [.str x])/\ks.length=2)/\HdE S w hd ks.length/\ks.length<=6/\∀k∈ks,PfT S n k
section
variable {S:SS}
theorem PfT.up:∀(n:Nat) {t:Th},(PfT S) n t->(PfT S) (n+1) t:=by
 intro n
 induction n with
 |zero=>intro t h;exact h.elim
 |succ n ih=>
  intro t h
  obtain⟨w,hd,ks,e,h1,h2,h3,h4,h5,h6⟩:=h
  exact⟨w,hd,ks,e,h1,h2,h3,h4,h5,fun k hk=>ih (h6 k hk)⟩
theorem PfT.le {n m:Nat}{t:Th}(h:(PfT S) n t)(hm:n<=m):(PfT S) m t:=by
 induction hm with
 |refl=>exact h
 |step _ ih=>exact PfT.up _ ih
theorem PfT.isTup {n:Nat}{t:Th}(h:(PfT S) n t):isTup t=true:=by
 cases n with
 |zero=>exact h.elim
 |succ n=>obtain⟨w,hd,ks,rfl,_⟩:=h;rfl
theorem Z8w (hd:List V):(hd.map Th.at).filter L2.isTup = []:=by
 induction hd with
 |nil=>rfl
 |cons v hd ih=>rw[map_cons,filter_cons];simpa [L2.isTup] using ih
theorem Zin (hd:List V):(hd.map Th.at).filter Z2t=hd.map Th.at:=by
 induction hd with
 |nil=>rfl
 |cons v hd ih=>rw[map_cons,filter_cons,if_pos (by rfl),ih]
theorem Z8x:∀{ks:List Th},(∀k∈ks,L2.isTup k=true)->ks.filter L2.isTup=ks:=fun h=>List.filter_eq_self.mpr h
theorem Zg5 {ks:List Th}(h:∀k∈ks,L2.isTup k=true):ks.filter Z2t = []:=by
 rw[List.filter_eq_nil_iff]
 intro k hk
 unfold Z2t
 rw[h k hk]
 decide
theorem Z5u {w:Str}{hd:List V}{ks:List Th}(h:∀k∈ks,L2.isTup k=true):Z1a (.at (.str w)::(hd.map Th.at++ks))=ks:=by
 unfold Z1a
 rw[filter_cons,if_neg (by simp [L2.isTup]),filter_append,Z8w,nil_append,Z8x h]
theorem Z8y {w:Str}{hd:List V}{ks:List Th}(h:∀k∈ks,L2.isTup k=true):Ze6 (.at (.str w)::(hd.map Th.at++ks)) = .at (.str w)::hd.map Th.at:=by
 unfold Ze6
 rw[filter_cons,if_pos (by rfl),filter_append,Zin,Zg5 h,append_nil]
theorem Zck:∀a b:List Th,Z4q (a++b)=(Z4q a&&Z4q b):=by
 intro a
 induction a with
 |nil=>intro b;rw[nil_append,Z4q,Bool.true_and]
 |cons x a ih=>intro b;rw[cons_append,Z4q,Z4q,ih,Bool.and_assoc]
theorem Z21:∀{a:List Th},(∀x∈a,plT x=true)->Z4q a=true:=by
 intro a
 induction a with
 |nil=>intro _;rw[Z4q]
 |cons x a ih=>intro h;rw[Z4q,h x (mem_cons_self ..),ih fun y hy=>h y (mem_cons_of_mem _ hy)];rfl
theorem PfT.pl:∀(n:Nat) {t:Th},(PfT S) n t->plT t=true:=by
 intro n
 induction n with
 |zero=>intro t h;exact h.elim
 |succ n ih=>
  intro t h
  obtain⟨w,hd,ks,rfl,h1,h2,h3,h4,h5,h6⟩:=h
  unfold nd
  rw[plT,Z4q,Zck,Z21 (a:=hd.map Th.at) fun x hx=>?_,Z21 (a:=ks) fun x hx=>ih (h6 x hx),plT]
  ·rfl
  ·obtain⟨v,hv,rfl⟩:=mem_map.mp hx
   exact h2 v hv
theorem Zg6 {n:Nat}:∀{a:List Th},(∀x∈a,dp x<=n)->dps a<=n:=by
 intro a
 induction a with
 |nil=>intro _;rw[dps];exact Nat.zero_le _
 |cons x a ih=>intro h;rw[dps];exact Nat.max_le.mpr ⟨h x (mem_cons_self ..),ih fun y hy=>h y (mem_cons_of_mem _ hy)⟩
end
inductive spLawParts_ (vs:List V)(H:Hp)(Q:VK):Prop
 |mk (v:V) (w0:Str) (ts:List Th) (_:vs = [v]) (_:IsTh H v (.tup (.at (.str w0)::ts))) (_:ts.length<=1000000) (_:∀(p:Addr) (ws:List V) H',Same H H'->H p=none->H' p=some (.lst ws)->IsThs H' ws (Z1a ts)->Q (.ref p) H'):spLawParts_ vs H Q
def spLawParts:Sp:=fun vs H Q _=>spLawParts_ vs H Q
inductive spWith_ (vs:List V)(H:Hp)(Q:VK):Prop
 |mk (v:V) (la:Addr) (ts ks:List Th) (ws:List V) (_:vs = [v,.ref la]) (_:IsTh H v (.tup ts)) (_:ts.length<=1000) (_:H la=some (.lst ws)) (_:IsThs H ws ks) (_:ks.length<=1000) (_:∀(p:Addr) H',Same H H'->IsTh H' (.ref p) (.tup (Ze6 ts++ks))->Q (.ref p) H'):spWith_ vs H Q
def spWith:Sp:=fun vs H Q _=>spWith_ vs H Q
structure Nds (Qf:Nat->Th->Prop):Prop where
 z:∀t,¬Qf 0 t
 s:∀n t,Qf (n+1) t->∃(w:Str) (hd:List V) (ks:List Th),t=nd w hd ks/\hd.length<=1/\ks.length<=6/\(∀k∈ks,Qf n k)/\∀m us,us.length=ks.length->(∀u∈us,Qf m u)->Qf (m+1) (nd w hd us)
 tu:∀n t,Qf n t->isTup t=true
 pl:∀n t,Qf n t->plT t=true
 le:∀n m t,Qf n t->n<=m->Qf m t
theorem Zg7 {S:SS}:Nds (PfT S):=
 ⟨fun _ h=>h,fun n t ⟨w,hd,ks,e,h1,h2,h3,h4,h5,h6⟩=>⟨w,hd,ks,e,h1,h5,h6,fun m us hl hu=>⟨w,hd,us,rfl,h1,h2,fun z=>⟨(h3 z).1,by rw[hl];exact(h3 z).2⟩,by rw[hl];exact h4,by omega,hu⟩⟩,fun _ _ h=>h.isTup,fun _ _ h=>h.pl,fun _ _ _ h hm=>h.le hm⟩
inductive spNodesG_ (Qf:Nat->Th->Prop)(N:Nat)(vs:List V)(H:Hp)(Q:VK):Prop
 |mk (v:V) (t:Th) (_:vs = [v]) (_:IsTh H v t) (_:Qf N t) (_:∀H',Same H H'->Q (.int (cnt t:Nat)) H'):spNodesG_ Qf N vs H Q
def Z6d (Qf:Nat->Th->Prop)(N:Nat):Sp:=fun vs H Q _=>spNodesG_ Qf N vs H Q
abbrev Zg8 (S:SS)(N:Nat):Sp:=Z6d (PfT S) N
theorem Z4b {hd:List V}{ks:List Th}(h:∀k∈ks,L2.isTup k=true):Z1a (hd.map Th.at++ks)=ks:=by
 unfold Z1a
 rw[filter_append,Z8w,nil_append,Z8x h]
theorem Z2c {w:Str}{hd:List V}{ks:List Th}(h:∀k∈ks,L2.isTup k=true):cnt (nd w hd ks)=1+Z3j ks:=by
 unfold nd
 rw[cnt,Zfp,Z5u h]
theorem Z4c:∀(a:List Th) (x:Th),Z3j (a ++ [x])=Z3j a+cnt x:=by
 intro a
 induction a with
 |nil=>intro x;simp [Z3j]
 |cons y a ih=>intro x;rw[cons_append,Z3j,Z3j,ih];omega
section
variable {P:Program}{w:World}{K:W.Frag}{mg:Str->Option Value}{base:Heap}
variable {S:SS}
theorem Ze7:FnScope ["_law_e"] ["_law_e"] (Z04 Z2a):=.q
theorem Z22 {f:Addr}{fd:FuncData}(F:Fun K "_law_parts" "_law_parts" Z2a f fd)(T:TxtT mg)(KI:Kits K):FnOk P w K mg base CX0 1 f fd ["_law_e"] spLawParts:=by
 refine F.ok Ze7 (fun vs H Q E h=>?_) (fun cdv A outer s H vs Q E hr h=>?_)
 ·obtain⟨v,w0,ts,rfl,_⟩:=h
  rfl
 ·obtain⟨v,w0,ts,rfl,hv,hz,k⟩:=h
  refine⟨_,Z07 (Z0h (Z1h (N':=["_law_part"]) (src:=[none]) rfl (Z0d (Z04 Z2a) rfl ["_law_e"] rfl (by decide+kernel)) (Z61 (Z1d Zb6 (pv 0) (Z1m Z03) Z1p))
   (fun cl C ex s0 H0=>⟨Z0l (i:=0) (nd1 _) rfl (Or.inl rfl),Z37 (Z5z (Z0r (id:="isinstance") (Z35 (K:=K) rfl) (by rfl) T.isi (by decide+kernel) (Z0e (pv 0) (Z0e (Z4s (v:=.ty "tuple") (by rfl) T.tup (by decide+kernel) rfl) Z02)))),pv 0⟩))),?_⟩
  obtain⟨a,vs,rfl,a1,a2⟩:=Z13 hv
  cases a2 with
  | @cons x xs _ _ c1 c2=>
   refine⟨_,rfl,_,rfl,a,x::xs,rfl,a1,fun p H1 s1 hp=>?_⟩
   rw[Zpb] at hp
   have hl:=IsThs.len _ c2
   refine⟨p,rfl,⟨_,SqT.of hp⟩,Z51 (K:=K) (a:=p) (xs:=xs) (fun i ys σc H'=>∃o,σc = [o]/\IsThs H ys ((ts.take i).filter isTup)/\ys.length<=i/\H'=H1) ⟨none,rfl,by rw[take_zero];exact .nil,Nat.le_refl _,rfl⟩ (fun i ys σc H' ⟨_,_,_,_,e⟩=>by rw[e];exact SqT.of hp) ?_ ?_⟩
   ·rintro i x ys σc H' hx hi ⟨o,rfl,hys,hyl,rfl⟩
    obtain⟨t,ht,h1⟩:=Z1c _ c2 hx
    have hnext:(ts.take (i+1)).filter isTup=(ts.take i).filter isTup++(if isTup t=true then [t] else []):=Z3h _ ht
    refine⟨by have:sizeLine=16777216:=sizeLine_eq;omega,?_⟩
    refine⟨_,rfl,_,_,_,_,rfl,Zb7 (IsTh.kp (Kp.of s1) h1),KI.tup h1,_,rfl,Z1e (fun g=>?_) (fun g=>?_)⟩
    ·refine⟨_,rfl,nx hi ⟨_,rfl,?_,by rw[length_append];show ys.length+1<=i+1;omega,rfl⟩⟩
     rw[hnext,if_pos g]
     exact IsThs.app _ hys (.cons h1 .nil)
    ·refine nx hi ⟨_,rfl,?_,by omega,rfl⟩
     rw[hnext,if_neg g,append_nil]
     exact hys
   ·rintro ys σc H' ⟨o,rfl,hys,hyl,rfl⟩ q hq
    rw[take_of_length_le (by omega)] at hys
    have sA:=s1.trans (Z01 (o:=.lst ys) hq)
    exact k q ys _ sA (Z2x s1 hq) Z00 (IsThs.kp (Kp.of sA) hys)
theorem Zno:FnScope ["_law_e","_law_inner"] ["_law_e","_law_inner"] (Z04 Ze0):=.q
theorem Zbe {f:Addr}{fd:FuncData}(F:Fun K "_law_with" "_law_with" Ze0 f fd)(T:TxtT mg)(KI:Kits K):FnOk P w K mg base CX0 1 f fd ["_law_e","_law_inner"] spWith:=by
 refine F.ok Zno (fun vs H Q E h=>?_) (fun cdv A outer s H vs Q E hr h=>?_)
 ·obtain⟨v,la,ts,ks,ws,rfl,_⟩:=h
  rfl
 ·obtain⟨v,la,ts,ks,ws,rfl,hv,hz,hla,hws,hkz,k⟩:=h
  have hsz:=sizeLine_eq
  refine'⟨?tt,?body,?fin⟩
  case body=>
   refine' Z07 ?s1
   case s1=>
    refine' Z0h ?r
    case r=>
     refine' Z15 Z0w (by rfl) T.tup (by decide+kernel) ?a
     case a=>
      refine' Z0b ?c Z02
      case c=>
       refine' Z0m Z2d ?x (pv 1)
       case x=>
        refine' Z1h (N':=["_law_part"]) (src:=[none]) ?k1 ?k5 ?k6 ?k7
        case k1=>rfl
        case k5=>exact Z0d (Z04 Ze0) rfl ["_law_e","_law_inner"] rfl (by decide+kernel)
        case k6=>exact Z61 (pv 0)
        case k7=>exact fun cl C ex s0 H0=>⟨Z0l (i:=0) (nd1 _) rfl (Or.inl rfl),Z37 (Z7l (Z5z (Z0r (id:="isinstance") (Z35 (K:=K) rfl) (by rfl) T.isi (by decide+kernel) (Z0e (pv 0) (Z0e (Z4s (v:=.ty "tuple") (by rfl) T.tup (by decide+kernel) rfl) Z02))))),pv 0⟩
  case fin=>
   obtain⟨a,xs,rfl,ha,hts⟩:=Z13 hv
   have hl:=IsThs.len _ hts
   refine⟨_,rfl,a,rfl,⟨_,SqT.of ha⟩,Z51 (K:=K) (a:=a) (xs:=xs) (fun i ys σc H'=>∃o,σc = [o]/\IsThs H ys ((ts.take i).filter Z2t)/\ys.length<=i/\H'=H) ⟨none,rfl,by rw[take_zero];exact .nil,Nat.le_refl _,rfl⟩ (fun i ys σc H' ⟨_,_,_,_,e⟩=>by rw[e];exact SqT.of ha) ?_ ?_⟩
   ·rintro i x ys σc H' hx hi ⟨o,rfl,hys,hyl,rfl⟩
    obtain⟨t,ht,h1⟩:=Z1c _ hts hx
    have hnext:(ts.take (i+1)).filter Z2t=(ts.take i).filter Z2t++(if Z2t t=true then [t] else []):=Z3h _ ht
    refine⟨by omega,?_⟩
    refine⟨_,rfl,_,_,_,_,rfl,Zb7 h1,KI.tup h1,_,rfl,Z1e (fun g=>?_) (fun g=>?_)⟩
    ·refine⟨_,rfl,nx hi ⟨_,rfl,?_,by rw[length_append];show ys.length+1<=i+1;omega,rfl⟩⟩
     rw[hnext,if_pos (show Z2t t=true from g)]
     exact IsThs.app _ hys (.cons h1 .nil)
    ·refine nx hi ⟨_,rfl,?_,by omega,rfl⟩
     rw[hnext,if_neg (show ¬Z2t t=true from g),append_nil]
     exact hys
   ·rintro ys σc H' ⟨o,rfl,hys,hyl,rfl⟩ l hl'
    rw[take_of_length_le (by omega)] at hys
    have s1:=Z01 (o:=.lst ys) hl'
    have hwl:=IsThs.len _ hws
    refine⟨_,rfl,l,la,ys,ws,rfl,rfl,Z00,s1 _ _ hla,by omega,fun l2 hl2=>?_⟩
    have s2:=Z01 (o:=.lst (ys++ws)) hl2
    refine⟨l2,_,rfl,.inl ⟨SqL.of Z00,fun p hp=>?_⟩⟩
    have s3:=Z01 (o:=.tup (ys++ws)) hp
    have sA:=(s1.trans s2).trans s3
    exact k p _ sA (.tup Z00 (IsThs.app _ (IsThs.kp (Kp.of sA) hys) (IsThs.kp (Kp.of sA) hws)))
theorem Zg9:FnScope ["_law_e"] ["_law_e"] (Z04 Z6u):=.q
theorem Z8z {Qf:Nat->Th->Prop}(D:Nds Qf){f fP:Addr}{fd dP:FuncData}(F:Fun K "_law_nodes" "_law_nodes" Z6u f fd)(b:Binds K fd ["_law_e"] [])(m:mg "_law_nodes"=some (.ref f))(T:TxtT mg)(KI:Kits K)(hsum:mg "sum"=none)
  (FP:Fun K "_law_parts" "_law_parts" Z2a fP dP) (bP:Binds K dP ["_law_e"] []) (mP:mg "_law_parts"=some (.ref fP)):∀N,FnOk P w K mg base CX0 (N+2) f fd ["_law_e"] (Z6d Qf N):=by
 have GP:FnOk P w K mg base CX0 1 fP dP ["_law_e"] spLawParts:=Z22 FP T KI
 intro N
 induction N with
 |zero=>
  refine F.ok Zg9 (fun vs H Q E h=>?_) (fun cdv A outer s H vs Q E hr h=>?_)
  ·obtain⟨v,t,rfl,_⟩:=h
   rfl
  ·obtain⟨v,t,rfl,_,h,_⟩:=h
   exact absurd h (D.z _)
 |succ N ih=>
  refine F.ok Zg9 (fun vs H Q E h=>?_) (fun cdv A outer s H vs Q E hr h=>?_)
  ·obtain⟨v,t,rfl,_⟩:=h
   rfl
  ·obtain⟨v,t,rfl,hv,hD,k⟩:=h
   have hsz:=sizeLine_eq
   have hr1:Room 1 _:=hr.mono (by omega)
   refine⟨_,Z07 (Z0h (Z0m Z1w Z03 (Z0r (Zcb rfl) (by rfl) hsum (by decide+kernel) (Z0b (Z1h (N':=["_law_part"]) (src:=[none]) rfl (Z0d (Z04 Z6u) rfl ["_law_e"] rfl (by decide+kernel)) (Z19 (Z06 GP hr1 (by rfl) mP FP.kp bP .nil Z0f (Z0e (pv 0) Z02)))
    (fun cl C ex s0 H0=>⟨Z0l (i:=0) (nd1 _) rfl (Or.inl rfl),Z1q,Z06 ih hr (by rfl) m F.kp b .nil Z0f (Z0e (pv 0) Z02)⟩)) Z02)))),?_⟩
   obtain⟨w0,hd,ks,rfl,h1,h5,h6,_⟩:=D.s _ _ hD
   have nk:∀k∈ks,L2.isTup k=true:=fun k hk=>D.tu _ _ (h6 k hk)
   refine⟨_,rfl,v,w0,hd.map Th.at++ks,rfl,hv,by rw[length_append,length_map];omega,fun p ws H1 s1 hp0 hp hws=>?_⟩
   rw[Z4b nk] at hws
   have hl:=IsThs.len _ hws
   refine⟨p,rfl,⟨_,SqL.of hp⟩,Z0y (K:=K) (a:=p) (xs:=ws) (fun i ys σc H'=>∃(o:Option V) (ms:List Int),σc = [o]/\ys=ms.map V.int/\ms.length=i/\ms.sum=(Z3j (ks.take i):Nat)/\Same H1 H')
    ⟨none,[],rfl,rfl,rfl,by rw[take_zero];rfl,Same.refl _⟩ (fun i ys σc H' ⟨_,_,_,_,_,_,e⟩=>SqL.of (e _ _ hp)) ?_ ?_⟩
   ·rintro i x ys σc H' hx hi ⟨o,ms,rfl,rfl,hm,hsm,s2⟩
    obtain⟨t,ht,hxt⟩:=Z1c _ hws hx
    refine⟨by rw[length_map];omega,?_⟩
    refine⟨_,rfl,x,t,rfl,IsTh.kp (Kp.of s2) hxt,h6 t (mem_of_getElem? ht),fun H2 s3=>nx hi ⟨_,ms ++ [((cnt t:Nat):Int)],rfl,by rw[map_append];rfl,by rw[length_append,hm];rfl,?_,s2.trans s3⟩⟩
    rw[take_add_one,ht,List.sum_append,hsm]
    show _=((Z3j (ks.take i ++ [t]):Nat):Int)
    rw[Z4c]
    simp
   ·rintro ys σc H' ⟨o,ms,rfl,rfl,hm,hsm,s2⟩ q hq
    rw[take_of_length_le (by omega)] at hsm
    refine⟨q,ms,rfl,SqL.of Z00,_,_,rfl,rfl,?_⟩
    have kk:=k _ (s1.trans (s2.trans (Z01 (o:=.lst (ms.map V.int)) hq)))
    rw[Z2c nk] at kk
    rw[hsm]
    simpa using kk
end
structure HW (K:W.Frag)(mg:Str->Option Value)(fP fW:Addr)(dP dW:FuncData):Prop where
 T:TxtT mg
 KI:Kits K
 P:Fun K "_law_parts" "_law_parts" Z2a fP dP
 bP:Binds K dP ["_law_e"] []
 mP:mg "_law_parts"=some (.ref fP)
 W:Fun K "_law_with" "_law_with" Ze0 fW dW
 bW:Binds K dW ["_law_e","_law_inner"] []
 mW:mg "_law_with"=some (.ref fW)
mutual
theorem Z80 {H H':Hp}{a:Addr}{xs:List V}(h:H a=some (.lst xs))(b:But a H H'):∀{v:V} {t:Th},IsTh H v t->plT t=true->IsTh H' v t
 |_,_,.at f,_=>.at f
 |_,_,.tup e r,p=>by
  rw[plT] at p
  exact .tup (b _ _ e (Z3c e h (by intro q;cases q))) (Z90 h b r p)
 |_,_,.lst e r,p=>by rw[plT] at p;cases p
theorem Z90 {H H':Hp}{a:Addr}{xs:List V}(h:H a=some (.lst xs))(b:But a H H'):∀{vs:List V} {ts:List Th},IsThs H vs ts->Z4q ts=true->IsThs H' vs ts
 |_,_,.nil,_=>.nil
 |_,_,.cons e r,p=>by
  rw[Z4q,Bool.and_eq_true] at p
  exact .cons (Z80 h b e p.1) (Z90 h b r p.2)
end
theorem Z5d {vs:List V}{i:Nat}{x:V}(h:vs[i]? = some x):atI vs (0+(i:Int))=some x:=by
 rw[Int.zero_add]
 exact Z26 h
section
variable {S:SS}
theorem Z81 {n:Nat}{t:Th}(h:(PfT S) n t):1<=cnt t:=by
 cases n with
 |zero=>exact h.elim
 |succ n=>
  obtain⟨w,hd,ks,rfl,_⟩:=h
  unfold nd
  rw[cnt]
  omega
theorem Zga {w:Str}{hd:List V}{ks ks':List Th}(h:∀k∈ks,L2.isTup k=true):Th.tup (Ze6 (.at (.str w)::(hd.map Th.at++ks))++ks')=nd w hd ks':=by
 rw[Z8y h]
 rfl
end
def bdS (k l:Th):Nat:=Th.sz k+cnt k*Th.sz l
inductive spSpoiltG_ (Qf:Nat->Th->Prop)(N M:Nat)(vs:List V)(H:Hp)(Q:VK):Prop
 |mk (v vl:V) (z:Int) (t l:Th) (_:vs = [v,.int z,vl]) (_:IsTh H v t) (_:Qf N t) (_:IsTh H vl l) (_:Qf M l) (_:∀(v':V) (t':Th) H',Same H H'->IsTh H' v' t'->Qf (N+M) t'->Th.sz t'<=bdS t l->Q v' H'):spSpoiltG_ Qf N M vs H Q
def Z70 (Qf:Nat->Th->Prop)(N M:Nat):Sp:=fun vs H Q _=>spSpoiltG_ Qf N M vs H Q
abbrev Zcl (S:SS)(N M:Nat):Sp:=Z70 (PfT S) N M
theorem Zl6 {H:Hp}:∀(vs:List V) {us:List Th} (i:Nat) {v:V} {t:Th},IsThs H vs us->IsTh H v t->IsThs H (vs.set i v) (us.set i t):=by
 intro vs
 induction vs with
 |nil=>intro us i v t h _;cases h;exact .nil
 |cons w vs ih=>
  intro us i v t h hv
  cases h with
  |cons a b=>
   cases i with
   |zero=>exact .cons hv b
   |succ i=>exact .cons a (ih i b hv)
theorem Zpf {n:Nat}{i:Nat}(h:i<n):ixN n (0+(i:Int))=some i:=by
 unfold ixN
 rw[if_pos (by omega),if_pos (by omega)]
 congr 1
 omega
theorem Znp {l:Th}:∀(us ks:List Th),us.length=ks.length->(∀(j:Nat) (u k:Th),us[j]? = some u->ks[j]? = some k->Th.sz u<=bdS k l)->szs us<=szs ks+Z3j ks*Th.sz l:=by
 intro us
 induction us with
 |nil=>intro ks _ _;rw[szs];exact Nat.zero_le _
 |cons u us ih=>
  intro ks hl h
  match ks,hl with
  |k::ks,hl=>
   have h1:=h 0 u k rfl rfl
   have h2:=ih ks (by simpa using hl) fun j u k a b=>h (j+1) u k (by simpa using a) (by simpa using b)
   rw[szs,szs,Z3j,Nat.add_mul]
   unfold bdS at h1
   omega
theorem Zio {w:Str}{hd:List V}{ks:List Th}:Th.sz (nd w hd ks)=1+(1+(szs (hd.map Th.at)+szs ks)):=by
 unfold nd
 rw[Th.sz,szs,Zks,Th.sz]
section
variable {S:SS}{P:Program}{w:World}{K:W.Frag}{mg:Str->Option Value}{base:Heap}
theorem scSpoilt:FnScope ["_law_e","_law_at","_law_leaf_here","_law_inner","_law_k","_law_long"] ["_law_e","_law_at","_law_leaf_here"] (Z04 Z6v):=.q
theorem Zai {Qf:Nat->Th->Prop}(D:Nds Qf){f fP fW fN:Addr}{fd dP dW dN:FuncData}(F:Fun K "_law_spoilt" "_law_spoilt" Z6v f fd)(b:Binds K fd ["_law_e","_law_at","_law_leaf_here"] [])(m:mg "_law_spoilt"=some (.ref f))(U:HW K mg fP fW dP dW)(hrange:mg "range"=none)(hsum:mg "sum"=none)
  (FN:Fun K "_law_nodes" "_law_nodes" Z6u fN dN) (bN:Binds K dN ["_law_e"] []) (mN:mg "_law_nodes"=some (.ref fN)) (M:Nat):∀N,FnOk P w K mg base CX0 (N+3) f fd ["_law_e","_law_at","_law_leaf_here"] (Z70 Qf N M):=by
 have GP:FnOk P w K mg base CX0 1 fP dP ["_law_e"] spLawParts:=Z22 U.P U.T U.KI
 have GW:FnOk P w K mg base CX0 1 fW dW ["_law_e","_law_inner"] spWith:=Zbe U.W U.T U.KI
 have GN:∀N,FnOk P w K mg base CX0 (N+2) fN dN ["_law_e"] (Z6d Qf N):=Z8z D FN bN mN U.T U.KI hsum U.P U.bP U.mP
 intro N
 induction N with
 |zero=>
  refine F.ok scSpoilt (fun vs H Q E h=>?_) (fun cdv A outer s H vs Q E hr h=>?_)
  ·obtain⟨v,vl,z,t,l,rfl,_⟩:=h
   rfl
  ·obtain⟨v,vl,z,t,l,rfl,_,h,_⟩:=h
   exact absurd h (D.z _)
 |succ N ih=>
  refine F.ok scSpoilt (fun vs H Q E h=>?_) (fun cdv A outer s H vs Q E hr h=>?_)
  ·obtain⟨v,vl,z,t,l,rfl,_⟩:=h
   rfl
  ·obtain⟨v,vl,z,t,l,rfl,hv,hD,hvl,hl,k⟩:=h
   have hsz:=sizeLine_eq
   have hr1:Room 1 _:=hr.mono (by omega)
   have hrN:Room (N+2) _:=hr.mono (by omega)
   refine'⟨?tt,?body,?fin⟩
   case body=>
    refine' Z05 ?s1 (Z05 ?s2 (Z0g ?s3 (Z05 ?s4 (Z07 ?s5))))
    case s1=>exact Z11 (Z09 Z1f (pv 1) Z03 (Z0i _)) (Z07 (Z0h (pv 2))) Z0k
    case s2=>exact Z0a (i:=3) scSpoilt.nd rfl (Or.inl rfl) (Z06 GP hr1 (by rfl) U.mP U.P.kp U.bP .nil Z0f (Z0e (pv 0) Z02))
    case s3=>exact Z0a (i:=1) scSpoilt.nd rfl (Or.inl rfl) (Z0m Z24 (pv 1) Z03)
    case s4=>
     refine' Z43 PassesOwn.never rfl (Z2i (by rfl) hrange (Z2h (Z0r Z0u (by rfl) U.T.len PySem.boot_len (Z0e (pv 3) Z02)) Z02)) (Z0l (i:=4) scSpoilt.nd rfl (Or.inl rfl)) (Z05 ?b1 (Z0g ?b2 (Z07 ?b3)))
     case b1=>exact Z0a (i:=5) scSpoilt.nd rfl (Or.inl rfl) (Z06 (GN N) hrN (by rfl) mN FN.kp bN .nil Z0f (Z0b (Z0q Z16 (pv 3) (pv 4) (fun _ _=>rfl)) Z02))
     case b2=>
      refine' Z11 ?c (Z07 ?d1) Z0k
      case c=>exact Zhu Zoz Z9p Z03 (pv 1) (pv 5)
      case d1=>exact Z9m (Z06 ih hr (by rfl) m F.kp b .nil Z0f (Z0b (Z0q Z16 (pv 3) (pv 4) (fun _ _=>rfl)) (Z0e (pv 1) (Z0e (pv 2) Z02)))) (Zmt (pv 3) (pv 4) Zhy)
     case b3=>exact Z0a (i:=1) scSpoilt.nd rfl (Or.inl rfl) (Z0m Z24 (pv 1) (pv 5))
    case s5=>exact Z0h (Z06 GW hr1 (by rfl) U.mW U.W.kp U.bW .nil Z0f (Z0e (pv 0) (Z0e (pv 3) Z02)))
   case fin=>
    have pD:=hD
    obtain⟨w0,hd,kt,rfl,h1,h5,h6,h7⟩:=D.s _ _ hD
    have hct:1<=cnt (nd w0 hd kt):=by unfold nd;rw[cnt];omega
    have nk:∀k∈kt,L2.isTup k=true:=fun k hk=>D.tu _ _ (h6 k hk)
    refine⟨_,rfl,rfl,_,rfl,Z1e (fun g=>?_) (fun g=>?_)⟩
    ·refine⟨_,rfl,k vl l H (Same.refl _) hvl (D.le _ _ _ hl (by omega)) ?_⟩
     unfold bdS
     have:=Nat.mul_le_mul_right (Th.sz l) hct
     omega
    ·refine⟨_,rfl,v,w0,hd.map Th.at++kt,rfl,hv,by rw[length_append,length_map];omega,fun p ws H1 s1 hp0 hp hws=>?_⟩
     rw[Z4b nk] at hws
     have hwl:=IsThs.len _ hws
     refine⟨fun σ' H'=>σ' = [some v,some (.int (z-1)),some vl,some (.ref p),none,none]/\H'=H1,⟨_,rfl,_,_,rfl,rfl,rfl,rfl⟩,?_⟩
     rintro σ3 H3 ⟨rfl,rfl⟩
     refine⟨_,rfl,p,ws,rfl,.inl (SqL.of hp),(ws.length:Int),rfl,by omega,by omega,Z3d (fun i σ' H'=>∃(z':Int) (o4 o5:Option V) (us:List Th) (ws':List V),σ' = [some v,some (.int z'),some vl,some (.ref p),o4,o5]/\But p H3 H'/\H' p=some (.lst ws')/\IsThs H' ws' us/\us.length=kt.length/\(∀u∈us,Qf (N+M) u)/\(∀j,i<=j->us[j]? = kt[j]?)/\∀(j:Nat) (u k:Th),us[j]? = some u->kt[j]? = some k->Th.sz u<=bdS k l)
      ⟨z-1,none,none,kt,ws,rfl,But.refl _ _,hp,hws,rfl,fun u hu=>D.le _ _ _ (h6 u hu) (by omega),fun _ _=>rfl,fun j u k a b=>?_⟩ ?_ ?_⟩
     ·rw[a] at b
      cases b
      exact Nat.le_add_right _ _
     ·rintro i σ' H' hi ⟨z',o4,o5,us,ws',rfl,b2,hp2,hws2,hul,hupf,hsame,hbd⟩
      have hi':i<kt.length:=by omega
      have hlw:=IsThs.len _ hws2
      have hki:kt[i]? = some kt[i]:=List.getElem?_eq_getElem hi'
      have hui:us[i]? = some kt[i]:=by rw[hsame i (Nat.le_refl _)];exact hki
      obtain⟨x,hx,hxt⟩:=Znb _ hws2 hui
      have hm:=h6 _ (getElem_mem hi')
      refine⟨_,rfl,_,rfl,p,ws',0+(i:Int),x,rfl,rfl,SqL.of hp2,Z5d hx,x,kt[i],rfl,hxt,hm,fun H4 s4=>?_⟩
      have hp4:=s4 _ _ hp2
      have b4:=b2.trans (But.of (d:=p) s4)
      have hws4:=IsThs.kp (Kp.of s4) hws2
      refine⟨fun σ' H'=>∃(o5:Option V) (us:List Th) (ws':List V),σ' = [some v,some (.int z'),some vl,some (.ref p),some (.int (0+(i:Int))),some (.int (cnt kt[i]:Nat))]/\But p H3 H'/\H' p=some (.lst ws')/\IsThs H' ws' us/\us.length=kt.length/\(∀u∈us,Qf (N+M) u)/\(∀j,i+1<=j->us[j]? = kt[j]?)/\∀(j:Nat) (u k:Th),us[j]? = some u->kt[j]? = some k->Th.sz u<=bdS k l,?_,?_⟩
      ·have stay:∃(o5:Option V) (us:List Th) (ws':List V),[some v,some (.int z'),some vl,some (.ref p),some (.int (0+(i:Int))),some (.int (cnt kt[i]:Nat))] = [some v,some (.int z'),some vl,some (.ref p),some (.int (0+(i:Int))),some (.int (cnt kt[i]:Nat))]/\But p H3 H4/\H4 p=some (.lst ws')/\IsThs H4 ws' us/\us.length=kt.length/\(∀u∈us,Qf (N+M) u)/\(∀j,i+1<=j->us[j]? = kt[j]?)/\∀(j:Nat) (u k:Th),us[j]? = some u->kt[j]? = some k->Th.sz u<=bdS k l:=
        ⟨none,us,ws',rfl,b4,hp4,hws4,hul,hupf,fun j hj=>hsame j (by omega),hbd⟩
       refine⟨_,rfl,_,_,rfl,rfl,_,rfl,Z1e (fun g1=>⟨_,rfl,_,_,rfl,rfl,_,rfl,Z1e (fun g2=>?_) (fun g2=>stay)⟩) (fun g1=>⟨_,rfl,Za2 stay⟩)⟩
       have hxt4:=IsTh.kp (Kp.of s4) hxt
       have hvl4:=Z80 hp b4 (IsTh.kp (Kp.of s1) hvl) (D.pl _ _ hl)
       refine⟨_,rfl,_,rfl,p,ws',0+(i:Int),x,rfl,rfl,SqL.of hp4,Z5d hx,_,rfl,_,rfl,x,vl,z',kt[i],l,rfl,hxt4,hm,hvl4,hl,fun v' t' H5 s5 hv5 pf5 sz5=>?_⟩
       have hp5:=s5 _ _ hp4
       refine⟨_,rfl,_,rfl,p,ws',0+(i:Int),i,rfl,rfl,hp5,Zpf (by omega),?_⟩
       have bu:But p H5 (upd H5 p (.lst (ws'.set i v'))):=But.upd
       refine⟨none,us.set i t',ws'.set i v',rfl,(b4.trans (But.of s5)).trans bu,Z00,?_,by rw[List.length_set];exact hul,?_,?_,?_⟩
       ·refine Zl6 _ i (Z90 hp5 bu (IsThs.kp (Kp.of s5) hws4) (Z21 fun u hu=>D.pl _ _ (hupf u hu))) (Z80 hp5 bu hv5 (D.pl _ _ pf5))
       ·intro u hu
        rcases List.mem_or_eq_of_mem_set hu with y|y
        ·exact hupf u y
        ·rw[y];exact pf5
       ·intro j hj
        rw[List.getElem?_set_ne (by omega)]
        exact hsame j (by omega)
       ·intro j u k a b
        by_cases hji:j=i
        ·subst hji
         rw[List.getElem?_set_self (by omega)] at a
         cases a
         rw[hki] at b
         cases b
         exact sz5
        ·rw[List.getElem?_set_ne (Ne.symm hji)] at a
         exact hbd j u k a b
      ·rintro σ5 H5 ⟨_,us5,ws5,rfl,q1,q2,q3,q4,q5,q6,q7⟩
       exact⟨_,rfl,_,rfl,_,_,rfl,rfl,_,_,_,us5,ws5,rfl,q1,q2,q3,q4,q5,q6,q7⟩
     ·rintro σ' H' ⟨z',o4,o5,us,ws',rfl,b2,hp2,hws2,hul,hupf,hsame,hbd⟩
      have hv2:=Z80 hp b2 (IsTh.kp (Kp.of s1) hv) (D.pl _ _ pD)
      have sm:Same H H':=fun c o e=>b2 c o (s1 _ _ e) (Z0j e hp0)
      refine⟨_,rfl,_,rfl,v,p,_,us,ws',rfl,hv2,by rw[length_cons,length_append,length_map];omega,hp2,hws2,by omega,fun r H3 s3 hr3=>?_⟩
      rw[Zga nk] at hr3
      refine k _ _ _ (sm.trans s3) hr3 ?_ ?_
      ·rw[Nat.add_right_comm]
       exact h7 _ us hul hupf
      ·have:=Znp us kt hul hbd
       unfold bdS
       rw[Zio,Zio,Z2c nk,Nat.add_mul]
       omega
end
theorem Z1b (v:V)(vs:List V):atI (v::vs) 0=some v:=Z26 (j:=0) rfl
theorem Z12 (u v:V)(vs:List V):atI (u::v::vs) 1=some v:=Z26 (j:=1) rfl
def iOf:List Th->Int
 | .at (.int i)::_=>i
 |_=>0
def nOf:List Th->Str
 | .at (.str s)::_=>s
 |_=>""
def wOf:List Th->Str
 | .at (.str s)::_=>s
 |_=>""
def wkN (ρ : Str->Int)(xs:List Th)(inner:Int):Int:=if wOf xs="again" then 1+iOf (xs.drop 1)*inner else if wOf xs="call" then 1+inner + ρ (nOf (xs.drop 1)) else 1+inner
mutual
def wk (ρ : Str->Int):Th->Int
 | .tup xs=>wkN ρ xs (wks ρ xs)
 | .at _=>0
 | .lst _=>0
def wks (ρ : Str->Int):List Th->Int
 |[]=>0
 |x::xs=>wk ρ x+wks ρ xs
end
theorem Zgb (ρ : Str->Int):∀a b:List Th,wks ρ (a++b)=wks ρ a+wks ρ b:=by
 intro a
 induction a with
 |nil=>intro b;simp [wks]
 |cons x a ih=>intro b;rw[cons_append,wks,wks,ih];omega
theorem Zl7 (ρ : Str->Int):∀hd:List V,wks ρ (hd.map Th.at)=0:=by
 intro hd
 induction hd with
 |nil=>simp [wks]
 |cons x a ih=>rw[map_cons,wks,ih,wk];rfl
theorem Zpg (ρ : Str->Int)(w:Str)(hd:List V)(ks:List Th):wk ρ (nd w hd ks)=if w="again" then 1+iOf (hd.map Th.at++ks)*wks ρ ks else if w="call" then 1+wks ρ ks + ρ (nOf (hd.map Th.at++ks)) else 1+wks ρ ks:=by
 have e:wks ρ (.at (.str w)::(hd.map Th.at++ks))=wks ρ ks:=by
  rw[wks,wk,Zgb,Zl7]
  omega
 unfold nd
 rw[wk,e]
 rfl
def Works (S:SS)(ρ : Str->Int)(kvs:List (Key×V)):Prop:=∀x∈S.c,Z2m kvs (Sum.inr x)=some (.int (ρ x))
inductive spLawWork_ (S:SS)(N:Nat)(vs:List V)(H:Hp)(Q:VK):Prop
 |mk (v:V) (wa:Addr) (t:Th) (ρ : Str->Int) (kvs:List (Key×V)) (_:vs = [v,.ref wa]) (_:IsTh H v t) (_:PfT S N t) (_:H wa=some (.dK kvs)) (_:Works S ρ kvs) (_:∀H',Same H H'->Q (.int (wk ρ t)) H'):spLawWork_ S N vs H Q
def Z5e (S:SS)(N:Nat):Sp:=fun vs H Q _=>spLawWork_ S N vs H Q
theorem Zph:(["_law_works","_law_part"]:List Str).Nodup:=by decide+kernel
section
variable {S:SS}{P:Program}{w:World}{K:W.Frag}{mg:Str->Option Value}{base:Heap}
theorem scLawWork:FnScope ["_law_e","_law_works","_law_inner"] ["_law_e","_law_works"] (Z04 Z4j):=.q
theorem Ze8 {f fP:Addr}{fd dP:FuncData}(F:Fun K "_law_work" "_law_work" Z4j f fd)(b:Binds K fd ["_law_e","_law_works"] [])(m:mg "_law_work"=some (.ref f))(T:TxtT mg)(KI:Kits K)(hsum:mg "sum"=none)
  (FP:Fun K "_law_parts" "_law_parts" Z2a fP dP) (bP:Binds K dP ["_law_e"] []) (mP:mg "_law_parts"=some (.ref fP)):∀N,FnOk P w K mg base CX0 (N+2) f fd ["_law_e","_law_works"] (Z5e S N):=by
 have GP:FnOk P w K mg base CX0 1 fP dP ["_law_e"] spLawParts:=Z22 FP T KI
 intro N
 induction N with
 |zero=>
  refine F.ok scLawWork (fun vs H Q E h=>?_) (fun cdv A outer s H vs Q E hr h=>?_)
  ·obtain⟨v,wa,t,ρ,kvs,rfl,_⟩:=h
   rfl
  ·obtain⟨v,wa,t,ρ,kvs,rfl,_,h,_⟩:=h
   exact h.elim
 |succ N ih=>
  refine F.ok scLawWork (fun vs H Q E h=>?_) (fun cdv A outer s H vs Q E hr h=>?_)
  ·obtain⟨v,wa,t,ρ,kvs,rfl,_⟩:=h
   rfl
  ·obtain⟨v,wa,t,ρ,kvs,rfl,hv,hD,hwa,hW,k⟩:=h
   have hsz:=sizeLine_eq
   have hr1:Room 1 _:=hr.mono (by omega)
   have hu:=Zb3 hr
   refine'⟨?tt,?body,?fin⟩
   case body=>
    refine' Z05 ?s1 ?r1
    case s1=>
     refine' Z0a (i:=2) scLawWork.nd rfl (Or.inl rfl) (Z0r (Zcb rfl) (by rfl) hsum (by decide+kernel) (Z0b ?c Z02))
     case c=>
      refine' Z1h (N':=["_law_works","_law_part"]) (src:=[some 1,none]) ?k1 ?k5 ?k6 ?k7
      case k1=>rfl
      case k5=>exact Z0d (Z04 Z4j) rfl ["_law_e","_law_works","_law_inner"] rfl (by decide+kernel)
      case k6=>exact Z19 (Z06 GP hr1 (by rfl) mP FP.kp bP .nil Z0f (Z0e (pv 0) Z02))
      case k7=>exact fun cl C ex s0 H0=>⟨Z0l (i:=1) Zph rfl (Or.inl rfl),Z1q,Z06 ih hr (by rfl) m F.kp b .nil Z0f (Z0e (pv 1) (Z0e (pv 0) Z02))⟩
    case r1=>
     refine' Z05 ?s2 (Z05 ?s3 (Z07 ?s4))
     case s2=>exact Z11 (Z09 Z1f (Z0q Z0x (pv 0) Z03 (fun _ _=>rfl)) Z08 (Z0i _)) (Z07 (Z0h (Z0m Z1w Z03 (Z0m Z25 (Z0q Z0x (pv 0) Z03 (fun _ _=>rfl)) (pv 2))))) Z0k
     case s3=>exact Z11 (Z09 Z1f (Z0q Z0x (pv 0) Z03 (fun _ _=>rfl)) Z08 (Z0i _)) (Z07 (Z0h (Z0m Z1w (Z0m Z1w Z03 (pv 2)) (Z0t hu (pv 1) (Z0q Z0x (pv 0) Z03 (fun _ _=>rfl)) (fun _ _=>rfl))))) Z0k
     case s4=>exact Z0h (Z0m Z1w Z03 (pv 2))
   case fin=>
    obtain⟨w0,hd,ks,rfl,h1,h2,h3,h4,h5,h6⟩:=hD
    have nk:∀k∈ks,L2.isTup k=true:=fun k hk=>(h6 k hk).isTup
    have hv':=hv
    unfold nd at hv'
    obtain⟨a,vs,rfl,ha,hvs⟩:=Z13 hv'
    refine⟨_,rfl,.ref a,w0,hd.map Th.at++ks,rfl,hv,by rw[length_append,length_map];omega,fun p ws H1 s1 hp0 hp hws=>?_⟩
    rw[Z4b nk] at hws
    have hl:=IsThs.len _ hws
    refine⟨p,rfl,⟨_,SqL.of hp⟩,Z0y (K:=K) (a:=p) (xs:=ws) (fun i ys σc H'=>∃(o:Option V) (ms:List Int),σc = [some (.ref wa),o]/\ys=ms.map V.int/\ms.length=i/\ms.sum=wks ρ (ks.take i)/\Same H1 H')
     ⟨none,[],rfl,rfl,rfl,by rw[take_zero];rfl,Same.refl _⟩ (fun i ys σc H' ⟨_,_,_,_,_,_,e⟩=>SqL.of (e _ _ hp)) ?_ ?_⟩
    ·rintro i x ys σc H' hx hi ⟨o,ms,rfl,rfl,hm,hsm,s2⟩
     obtain⟨t,ht,hxt⟩:=Z1c _ hws hx
     refine⟨by rw[length_map];omega,?_⟩
     refine⟨_,rfl,_,rfl,x,wa,t,ρ,kvs,rfl,IsTh.kp (Kp.of s2) hxt,h6 t (mem_of_getElem? ht),s2 _ _ (s1 _ _ hwa),hW,fun H2 s3=>nx hi ⟨_,ms ++ [wk ρ t],rfl,by rw[map_append];rfl,by rw[length_append,hm];rfl,?_,s2.trans s3⟩⟩
     rw[take_add_one,ht,List.sum_append,hsm]
     show _=wks ρ (ks.take i ++ [t])
     rw[Zgb,wks,wks]
     simp
    ·rintro ys σc H' ⟨o,ms,rfl,rfl,hm,hsm,s2⟩ q hq
     rw[take_of_length_le (by omega)] at hsm
     have sA:=s1.trans (s2.trans (Z01 (o:=.lst (ms.map V.int)) hq))
     refine⟨q,ms,rfl,SqL.of Z00,?_⟩
     rw[hsm]
     generalize upd H' q (.lst (ms.map V.int))=H2 at sA
     have ha2:=sA _ _ ha
     cases hvs with
     | @cons vh vr _ _ d1 d2=>
      obtain⟨rfl,_⟩:=Z1i d1
      have kk:=k H2 sA
      rw[Zpg] at kk
      refine⟨_,rfl,a,_,_,_,rfl,rfl,SqT.of ha2,Z1b _ _,rfl,_,rfl,Z1e (fun g=>?_) (fun g=>?_)⟩
      ·have hw:w0="again":=by
        have g':=of_decide_eq_true g
        injection g'
       obtain⟨i,rfl,hi0,hi5⟩:=h4.ag hw
       cases d2 with
       | @cons v2 vr2 _ _ d3 d4=>
        obtain⟨rfl,_⟩:=Z1i d3
        rw[if_pos hw] at kk
        exact⟨_,rfl,a,_,_,_,rfl,rfl,SqT.of ha2,Z12 _ _ _,_,rfl,_,_,rfl,rfl,.inl ⟨by omega,by omega⟩,_,_,rfl,rfl,kk⟩
      ·have hw:w0≠"again":=fun q=>g (by rw[q];decide+kernel)
       rw[if_neg hw] at kk
       refine⟨_,rfl,a,_,_,_,rfl,rfl,SqT.of ha2,Z1b _ _,rfl,_,rfl,Z1e (fun g=>?_) (fun g=>?_)⟩
       ·have hw2:w0="call":=by
         have g':=of_decide_eq_true g
         injection g'
        obtain⟨x,rfl,hxS⟩:=h4.ca hw2
        cases d2 with
        | @cons v2 vr2 _ _ d3 d4=>
         obtain⟨rfl,_⟩:=Z1i d3
         rw[if_pos hw2] at kk
         have hg:DGet H2 wa (.str x) (some (.int (ρ x))):=by
          have:=DGet.k (k:=Sum.inr x) (sA _ _ hwa)
          rw[hW x hxS] at this
          exact this
         exact⟨_,rfl,_,_,rfl,rfl,_,rfl,_,rfl,a,_,_,_,rfl,rfl,SqT.of ha2,Z12 _ _ _,wa,_,rfl,hg,_,_,rfl,rfl,kk⟩
       ·have hw2:w0≠"call":=fun q=>g (by rw[q];decide+kernel)
        rw[if_neg hw2] at kk
        exact⟨_,rfl,_,_,rfl,rfl,kk⟩
end
theorem Zqf (u v x:V)(vs:List V):atI (u::v::x::vs) 2=some x:=Z26 (j:=2) rfl
theorem Zoq (u v x y:V)(vs:List V):atI (u::v::x::y::vs) 3=some y:=Z26 (j:=3) rfl
inductive spRight_ (S:SS)(N:Nat)(vs:List V)(H:Hp)(Q:VK):Prop
 |mk (v:V) (bl:Addr) (t:Th) (bs:List Str) (_:vs = [v,.ref bl]) (_:IsTh H v t) (_:PfT S N t) (_:H bl=some (.lst (bs.map V.str))) (_:bs.length+N<=1000) (_:∀(b:Bool) H',Same H H'->Q (.bl b) H'):spRight_ S N vs H Q
def Zbf (S:SS)(N:Nat):Sp:=fun vs H Q _=>spRight_ S N vs H Q
theorem Zpi:(["_law_bound_here","_law_part"]:List Str).Nodup:=by decide+kernel
section
variable {S:SS}{P:Program}{w:World}{K:W.Frag}{mg:Str->Option Value}{base:Heap}
theorem Zgc:FnScope ["_law_e","_law_bound_here"] ["_law_e","_law_bound_here"] (Z04 Z7x):=.q
theorem Zip {f fP:Addr}{fd dP:FuncData}(F:Fun K "_law_right" "_law_right" Z7x f fd)(b:Binds K fd ["_law_e","_law_bound_here"] [])(m:mg "_law_right"=some (.ref f))(T:TxtT mg)(KI:Kits K)(hall:mg "all"=none)
  (FP:Fun K "_law_parts" "_law_parts" Z2a fP dP) (bP:Binds K dP ["_law_e"] []) (mP:mg "_law_parts"=some (.ref fP)):∀N,FnOk P w K mg base CX0 (N+2) f fd ["_law_e","_law_bound_here"] (Zbf S N):=by
 have GP:FnOk P w K mg base CX0 1 fP dP ["_law_e"] spLawParts:=Z22 FP T KI
 intro N
 induction N with
 |zero=>
  refine F.ok Zgc (fun vs H Q E h=>?_) (fun cdv A outer s H vs Q E hr h=>?_)
  ·obtain⟨v,bl,t,bs,rfl,_⟩:=h
   rfl
  ·obtain⟨v,bl,t,bs,rfl,_,h,_⟩:=h
   exact h.elim
 |succ N ih=>
  refine F.ok Zgc (fun vs H Q E h=>?_) (fun cdv A outer s H vs Q E hr h=>?_)
  ·obtain⟨v,bl,t,bs,rfl,_⟩:=h
   rfl
  ·obtain⟨v,bl,t,bs,rfl,hv,hD,hbl,hbz,k⟩:=h
   have hsz:=sizeLine_eq
   have hr1:Room 1 _:=hr.mono (by omega)
   refine'⟨?tt,?body,?fin⟩
   case body=>
    refine' Z0g ?s1 (Z05 ?s2 (Z07 ?s3))
    case s1=>
     refine' Z11 ?c (Z07 (Z0h Z34)) Z0k
     case c=>exact(Z41 (Z09 Z1f (Z0q Z0x (pv 0) Z03 (fun _ _=>rfl)) Z08 (Z0i _)) (Z2v (Z09 Z1x (Z0q Z0x (pv 0) Z03 (fun _ _=>rfl)) (pv 1) (by with_unfolding_all rfl)))).pt
    case s2=>
     refine' Z11 ?c (Z07 (Z0h ?r)) Z0k
     case c=>exact Z09 Z1f (Z0q Z0x (pv 0) Z03 (fun _ _=>rfl)) Z08 (Z0i _)
     case r=>
      refine' Zmr ?r1 (Zet ?r2)
      case r1=>exact Z06 ih hr (by rfl) m F.kp b .nil Z0f (Z0b (Z0q Z0x (pv 0) Z03 (fun _ _=>rfl)) (Z0e (pv 1) Z02))
      case r2=>exact Z06 ih hr (by rfl) m F.kp b .nil Z0f (Z0b (Z0q Z0x (pv 0) Z03 (fun _ _=>rfl)) (Z0b (Z0m Z2d (pv 1) (Z14 (Z0b (Z0q Z0x (pv 0) Z03 (fun _ _=>rfl)) Z02))) Z02))
    case s3=>
     refine' Z0h (Z0r (Zb4 rfl) (by rfl) hall (by decide+kernel) (Z0b ?c Z02))
     case c=>
      refine' Z1h (N':=["_law_bound_here","_law_part"]) (src:=[some 1,none]) ?k1 ?k5 ?k6 ?k7
      case k1=>rfl
      case k5=>exact Z0d (Z04 Z7x) rfl ["_law_e","_law_bound_here"] rfl (by decide+kernel)
      case k6=>exact Z19 (Z06 GP hr1 (by rfl) mP FP.kp bP .nil Z0f (Z0e (pv 0) Z02))
      case k7=>exact fun cl C ex s0 H0=>⟨Z0l (i:=1) Zpi rfl (Or.inl rfl),Z1q,Z06 ih hr (by rfl) m F.kp b .nil Z0f (Z0e (pv 1) (Z0e (pv 0) Z02))⟩
   case fin=>
    obtain⟨w0,hd,ks,rfl,h1,h2,h3,h4,h5,h6⟩:=hD
    have nk:∀k∈ks,L2.isTup k=true:=fun k hk=>(h6 k hk).isTup
    have hv':=hv
    unfold nd at hv'
    obtain⟨a,vs,rfl,ha,hvs⟩:=Z13 hv'
    cases hvs with
    | @cons vh vr _ _ d1 d2=>
     obtain⟨rfl,_⟩:=Z1i d1
     refine⟨fun σ' H'=>σ' = [some (.ref a),some (.ref bl)]/\H'=H,?_,?_⟩
     ·refine⟨_,rfl,a,_,_,_,rfl,rfl,SqT.of ha,Z1b _ _,rfl,_,rfl,Z1e (fun g=>?_) (fun g=>?_)⟩
      ·have hw:w0="set":=by
        have g':=of_decide_eq_true g
        injection g'
       obtain⟨x,rfl⟩:=h4.st (.inl hw)
       cases d2 with
       | @cons v2 vr2 _ _ d3 d4=>
        obtain⟨rfl,_⟩:=Z1i d3
        refine⟨_,rfl,a,_,_,_,rfl,rfl,SqT.of ha,Z12 _ _ _,_,rfl,bl,bs.map V.str,rfl,.inl (SqL.of hbl),rfl,Z2b bs,_,rfl,Z1e (fun _=>?_) (fun _=>⟨rfl,rfl⟩)⟩
        exact k false H (Same.refl _)
      ·exact Za2 ⟨rfl,rfl⟩
     rintro σ1 H1 ⟨rfl,rfl⟩
     refine⟨_,rfl,a,_,_,_,rfl,rfl,SqT.of ha,Z1b _ _,rfl,_,rfl,Z1e (fun g=>?_) (fun g=>?_)⟩
     ·have hw:w0="let":=by
       have g':=of_decide_eq_true g
       injection g'
      obtain⟨⟨x,rfl⟩,hk2⟩:=h3 hw
      match ks,hk2,h6,hv,hv',d2 with
      |[k1,k2],_,h6,hv,hv',d2=>
       cases d2 with
       | @cons v2 vr2 _ _ d3 d4=>
        obtain⟨rfl,_⟩:=Z1i d3
        cases d4 with
        | @cons v3 vr3 _ _ d5 d6=>
         cases d6 with
         | @cons v4 vr4 _ _ d7 d8=>
          refine⟨_,rfl,a,_,_,_,rfl,rfl,SqT.of ha,Zqf _ _ _ _,_,rfl,v3,bl,k1,bs,rfl,d5,h6 k1 (by simp),hbl,by omega,fun b1 H2 s2=>⟨b1,rfl,?_⟩⟩
          have ha2:=s2 _ _ ha
          refine Z1e (fun _=>?_) (fun _=>k false H2 s2)
          refine⟨_,rfl,a,_,_,_,rfl,rfl,SqT.of ha2,Zoq _ _ _ _ _,_,rfl,_,rfl,a,_,_,_,rfl,rfl,SqT.of ha2,Z12 _ _ _,(by show 1<=sizeLine;decide),fun c hc=>?_⟩
          have sc:=Z01 (o:=.lst [.str x]) hc
          refine⟨bl,c,bs.map V.str,[.str x],rfl,rfl,sc _ _ (s2 _ _ hbl),Z00,(by rw[length_map];show _+1<=_;omega),fun q hq=>?_⟩
          have sq:=Z01 (o:=.lst (bs.map V.str ++ [.str x])) hq
          have sA:=(s2.trans sc).trans sq
          refine⟨v4,q,k2,bs ++ [x],rfl,IsTh.kp (Kp.of sA) d7,h6 k2 (by simp),?_,by rw[length_append];show _+1+_<=_;omega,fun b2 H3 s3=>k b2 H3 (sA.trans s3)⟩
          rw[Z00,map_append]
          rfl
     ·refine⟨_,rfl,.ref a,w0,hd.map Th.at++ks,rfl,hv,by rw[length_append,length_map];omega,fun p ws H2 s1 hp0 hp hws=>?_⟩
      rw[Z4b nk] at hws
      have hl:=IsThs.len _ hws
      refine⟨p,rfl,⟨_,SqL.of hp⟩,Z0y (K:=K) (a:=p) (xs:=ws) (fun i ys σc H'=>∃(o:Option V) (ms:List Bool),σc = [some (.ref bl),o]/\ys=ms.map V.bl/\ms.length=i/\Same H2 H')
       ⟨none,[],rfl,rfl,rfl,Same.refl _⟩ (fun i ys σc H' ⟨_,_,_,_,_,e⟩=>SqL.of (e _ _ hp)) ?_ ?_⟩
      ·rintro i x ys σc H' hx hi ⟨o,ms,rfl,rfl,hm,s2⟩
       obtain⟨t,ht,hxt⟩:=Z1c _ hws hx
       refine⟨by rw[length_map];omega,?_⟩
       exact⟨_,rfl,_,rfl,x,bl,t,bs,rfl,IsTh.kp (Kp.of s2) hxt,h6 t (mem_of_getElem? ht),s2 _ _ (s1 _ _ hbl),by omega,fun b1 H3 s3=>nx hi ⟨_,ms ++ [b1],rfl,by rw[map_append];rfl,by rw[length_append,hm];rfl,s2.trans s3⟩⟩
      ·rintro ys σc H' ⟨o,ms,rfl,rfl,hm,s2⟩ q hq
       exact⟨q,ms,rfl,SqL.of Z00,k _ _ (s1.trans (s2.trans (Z01 (o:=.lst (ms.map V.bl)) hq)))⟩
end
end K36
namespace L2
open PySem PySem.Spec PyProof.Rows
section
variable {X:Cx}
inductive rIndexS (x:V)(vs:List V)(H:Hp)(Q:VK):Prop
 |mk (l:Addr) (ns:List Str) (i:Str) (j:Nat) (_:x = .ref l) (_:vs = [.str i]) (_:H l=some (.lst (ns.map V.str))) (_:ns[j]? = some i) (_:(∀m,m<j->ns[m]? ≠ some i)) (_:Q (.int (j:Nat)) H):rIndexS x vs H Q
theorem Zaj:MtR X "list.index" rIndexS:=by
 intro pins s σ H x vs v us Q I rx rv h
 obtain⟨l,ns,i,j,rfl,rfl,hH,hj,hno,q⟩:=h
 cases rx
 obtain⟨u,rfl,ru⟩:=rv.one
 obtain⟨tk,rfl⟩:=ru
 obtain⟨z,its,n,r,hl,e⟩:=I.lstM hH
 have hlen:its.length=ns.length:=by
  have:=r.length
  rw[length_map] at this
  exact this.symm
 have at':∀(m:Nat) (y:Value),its[m]? = some y->∃k t,ns[m]? = some k/\y = .str k t:=by
  intro m y hy
  have hm:m<ns.length:=by
   rw[<- hlen]
   exact(List.getElem?_eq_some_iff.mp hy).1
  obtain⟨u2,f2,r2⟩:=r.get (i:=m) (x:=.str ns[m]) (by rw[List.getElem?_map,List.getElem?_eq_getElem hm];rfl)
  rw[hy] at f2
  cases f2
  obtain⟨t,rfl⟩:=r2
  exact⟨_,t,List.getElem?_eq_getElem hm,rfl⟩
 have jl:j<its.length:=by
  rw[hlen]
  exact(List.getElem?_eq_some_iff.mp hj).1
 have val:∀(m:Nat) (hm:m<its.toArray.size),∃k t,ns[m]? = some k/\its.toArray[m] = .str k t:=fun m hm=>by
  simp only [size_toArray] at hm
  obtain⟨k,t,a1,a2⟩:=at' m its[m] (List.getElem?_eq_getElem hm)
  exact⟨k,t,a1,by simpa using a2⟩
 have hsz:=sizeLine_eq
 refine call_meets F.slot_list_index ⟨_,e,rfl⟩ F.entry_list_index (F.args_list_index_2 _ _) (SeqAt.list_indexAt l its.toArray n none #[] (.str i tk) (fun y=>match y with | .str k _=>k==i|_=>false) j (by simpa using jl) (by
  rw[length_map] at z
  omega) ?_ ?_) ⟨e,?_,?_⟩
 ·obtain⟨k,t,a1,a2⟩:=val j (by simpa using jl)
  rw[a2]
  rw[hj] at a1
  cases a1
  exact beq_self_eq_true _
 ·intro m hm hmj
  obtain⟨k,t,a1,a2⟩:=val m hm
  rw[a2]
  show(k==i)=false
  rw[beq_eq_false_iff_ne]
  intro w
  subst w
  exact hno m hmj a1
 ·intro y hy
  obtain⟨m,hm,rfl⟩:=Array.mem_iff_getElem.mp hy
  obtain⟨k,t,a1,a2⟩:=val m hm
  rw[a2]
  exact Z9w (y:=.str k) (x:=.str i) ⟨t,rfl⟩ ⟨tk,rfl⟩ rfl rfl
 ·exact⟨.int (j:Nat),H,I.tok _,⟨_,rfl⟩,q⟩
end
end L2
namespace K36
open PySem L2
inductive spTurned_ (S:SS)(N:Nat)(vs:List V)(H:Hp)(Q:VK):Prop
 |mk (v:V) (na oa:Addr) (t:Th) (T1 T2:List Str) (_:vs = [v,.ref na,.ref oa]) (_:IsTh H v t) (_:PfT S N t) (_:H na=some (.lst (T1.map V.str))) (_:H oa=some (.lst (T2.map V.str))) (_:T1.length=T2.length) (_:T1.length<=1000) (_:(∀x∈T2,NmU S x)) (_:∀(v':V) (t':Th) H',Same H H'->IsTh H' v' t'->PfT S N t'->cnt t'=cnt t->Q v' H'):spTurned_ S N vs H Q
def Z91 (S:SS)(N:Nat):Sp:=fun vs H Q _=>spTurned_ S N vs H Q
theorem Znq:(["_law_names_here","_law_others","_law_part"]:List Str).Nodup:=by decide+kernel
theorem Zl8 (x:Str):inV (.str x) [.str "name",.str "set"]=true↔x="name"∨x="set":=by
 have e : [V.str "name",.str "set"]=(["name","set"]:List Str).map V.str:=rfl
 rw[e,Z1n]
 simp
theorem Ziq {x:Str}:∀{T:List Str},x∈T->∃j:Nat,T[j]? = some x/\∀q:Nat,q<j->T[q]? ≠ some x:=by
 intro T
 induction T with
 |nil=>intro h;cases h
 |cons y T ih=>
  intro h
  by_cases e:y=x
  ·exact⟨0,by rw[e];rfl,fun q hq=>by omega⟩
  ·rcases mem_cons.mp h with z|z
   ·exact absurd z.symm e
   ·obtain⟨j,h1,h2⟩:=ih z
    refine⟨j+1,h1,fun q hq=>?_⟩
    cases q with
    |zero=>intro w;exact e (by simpa using w)
    |succ q=>exact h2 q (by omega)
section
variable {S:SS}{P:Program}{w:World}{K:W.Frag}{mg:Str->Option Value}{base:Heap}
theorem scTurned:FnScope ["_law_e","_law_names_here","_law_others"] ["_law_e","_law_names_here","_law_others"] (Z04 Z5r):=.q
theorem Zgd {f fP fW:Addr}{fd dP dW:FuncData}(F:Fun K "_law_turned" "_law_turned" Z5r f fd)(b:Binds K fd ["_law_e","_law_names_here","_law_others"] [])(m:mg "_law_turned"=some (.ref f))(U:HW K mg fP fW dP dW):
  ∀N,FnOk P w K mg base CX0 (N+2) f fd ["_law_e","_law_names_here","_law_others"] (Z91 S N):=by
 have GP:FnOk P w K mg base CX0 1 fP dP ["_law_e"] spLawParts:=Z22 U.P U.T U.KI
 have GW:FnOk P w K mg base CX0 1 fW dW ["_law_e","_law_inner"] spWith:=Zbe U.W U.T U.KI
 intro N
 induction N with
 |zero=>
  refine F.ok scTurned (fun vs H Q E h=>?_) (fun cdv A outer s H vs Q E hr h=>?_)
  ·obtain⟨v,na,oa,t,T1,T2,rfl,_⟩:=h
   rfl
  ·obtain⟨v,na,oa,t,T1,T2,rfl,_,h,_⟩:=h
   exact h.elim
 |succ N ih=>
  refine F.ok scTurned (fun vs H Q E h=>?_) (fun cdv A outer s H vs Q E hr h=>?_)
  ·obtain⟨v,na,oa,t,T1,T2,rfl,_⟩:=h
   rfl
  ·obtain⟨v,na,oa,t,T1,T2,rfl,hv,hD,hna,hoa,hTl,hT1,hlo,k⟩:=h
   have hsz:=sizeLine_eq
   have hr1:Room 1 _:=hr.mono (by omega)
   refine'⟨?tt,?body,?fin⟩
   case body=>
    refine' Z0g ?s1 (Z07 ?s2)
    case s1=>
     refine' Z11 ?c (Z07 ?b) Z0k
     case c=>exact(Z41 (Z09 Z1x (Z0q Z0x (pv 0) Z03 (fun _ _=>rfl)) (Z0v (Z18 Z08 (Z18 Z08 Z02))) (by with_unfolding_all rfl)) (Z2v (Z09 Z1x (Z0q Z0x (pv 0) Z03 (fun _ _=>rfl)) (pv 1) (by with_unfolding_all rfl)))).pt
     case b=>
      refine' Z0a (i:=0) scTurned.nd rfl (Or.inl rfl) (Z0m Zfm (Z0v (Z0b (Z0q Z0x (pv 0) Z03 (fun _ _=>rfl)) (Z0b ?x Z02))) (Z1d Zb6 (pv 0) (Z1m Z03) Z1p))
      case x=>exact Z0q Z16 (pv 2) (Z8h PySem.F.plainAttrs_list PySem.F.slot_list_index PySem.F.type_list_index Zaj (pv 1) (Z0b (Z0q Z0x (pv 0) Z03 (fun _ _=>rfl)) Z02)) (fun _ _=>rfl)
    case s2=>
     refine' Z0h (Z06 GW hr1 (by rfl) U.mW U.W.kp U.bW .nil Z0f (Z0e (pv 0) (Z0b ?c Z02)))
     case c=>
      refine' Z1h (N':=["_law_names_here","_law_others","_law_part"]) (src:=[some 1,some 2,none]) ?k1 ?k5 ?k6 ?k7
      case k1=>rfl
      case k5=>exact Z0d (Z04 Z5r) rfl ["_law_e","_law_names_here","_law_others"] rfl (by decide+kernel)
      case k6=>exact Z19 (Z06 GP hr1 (by rfl) U.mP U.P.kp U.bP .nil Z0f (Z0e (pv 0) Z02))
      case k7=>exact fun cl C ex s0 H0=>⟨Z0l (i:=2) Znq rfl (Or.inl rfl),Z1q,Z06 ih hr (by rfl) m F.kp b .nil Z0f (Z0e (pv 2) (Z0e (pv 0) (Z0e (pv 1) Z02)))⟩
   case fin=>
    obtain⟨w0,hd,ks,rfl,h1,h2,h3,h4,h5,h6⟩:=hD
    have nk:∀k∈ks,L2.isTup k=true:=fun k hk=>(h6 k hk).isTup
    refine⟨fun σ' H'=>∃(a':Addr) (hd':List V),σ' = [some (.ref a'),some (.ref na),some (.ref oa)]/\Same H H'/\IsTh H' (.ref a') (nd w0 hd' ks)/\hd'.length<=1/\(∀v∈hd',plT (.at v)=true)/\(w0="let"->(∃x:Str,hd' = [.str x])/\ks.length=2)/\HdE S w0 hd' ks.length,?_,?_⟩
    ·have hv':=hv
     unfold nd at hv'
     obtain⟨a,vs,rfl,ha,hvs⟩:=Z13 hv'
     cases hvs with
     | @cons vh vr _ _ d1 d2=>
      obtain⟨rfl,_⟩:=Z1i d1
      refine⟨_,rfl,a,_,_,_,rfl,rfl,SqT.of ha,Z1b _ _,(by show 2<=sizeLine;decide),fun c hc=>?_⟩
      have sc:=Z01 (o:=.tup [.str "name",.str "set"]) hc
      have stay:∀H',Same H H'->∃(a':Addr) (hd':List V),[some (V.ref a),some (.ref na),some (.ref oa)] = [some (.ref a'),some (.ref na),some (.ref oa)]/\Same H H'/\IsTh H' (.ref a') (nd w0 hd' ks)/\hd'.length<=1/\(∀v∈hd',plT (.at v)=true)/\(w0="let"->(∃x:Str,hd' = [.str x])/\ks.length=2)/\HdE S w0 hd' ks.length:=
       fun H' s=>⟨a,hd,rfl,s,IsTh.kp (Kp.of s) hv,h1,h2,h3,h4⟩
      refine⟨c,[.str "name",.str "set"],rfl,.inr (SqT.of Z00),rfl,by decide+kernel,_,rfl,Z1e (fun g=>?_) (fun g=>Za2 (stay _ sc))⟩
      have hw:=(Zl8 w0).mp g
      obtain⟨x,rfl⟩:=h4.st (hw.symm)
      cases d2 with
      | @cons v2 vr2 _ _ d3 d4=>
       obtain⟨rfl,_⟩:=Z1i d3
       have ha2:=sc _ _ ha
       refine⟨_,rfl,a,_,_,_,rfl,rfl,SqT.of ha2,Z12 _ _ _,_,rfl,na,T1.map V.str,rfl,.inl (SqL.of (sc _ _ hna)),rfl,Z2b T1,_,rfl,Z1e (fun g2=>?_) (fun g2=>stay _ sc)⟩
       have hxm:=(Z1n x T1).mp g2
       obtain⟨j,hj,hno⟩:=Ziq hxm
       have hjl:j<T1.length:=(List.getElem?_eq_some_iff.mp hj).1
       obtain⟨y,hy⟩:∃y,T2[j]? = some y:=⟨_,List.getElem?_eq_getElem (by omega)⟩
       have hyN:=hlo y (mem_of_getElem? hy)
       have hyl:=Zim hyN
       refine⟨_,rfl,a,_,_,_,rfl,rfl,SqT.of ha2,Z1b _ _,_,rfl,_,rfl,.inl ⟨rfl,_,SqL.of (sc _ _ hna)⟩,_,rfl,a,_,_,_,rfl,rfl,SqT.of ha2,Z12 _ _ _,na,T1,x,j,rfl,rfl,sc _ _ hna,hj,hno,oa,T2.map V.str,_,.str y,rfl,rfl,SqL.of (sc _ _ hoa),Z26 (by rw[List.getElem?_map,hy];rfl),(by show 2<=sizeLine;decide),fun c2 hc2=>?_⟩
       have s2:=Z01 (o:=.tup [.str w0,.str y]) hc2
       refine⟨_,rfl,2,rfl,a,_,rfl,s2 _ _ ha2,fun p3 H3 s3 hp3=>?_⟩
       rw[Z3k (by decide) (by show 2<=_+1+1;omega)] at hp3
       have s23:=(sc.trans s2).trans s3
       have hvl:=IsThs.len _ d4
       refine⟨c2,p3,_,_,rfl,rfl,s3 _ _ Z00,hp3,?_,fun p4 H4 s4 hp4=>?_⟩
       ·show 2+vr2.length<=sizeLine
        rw[hvl]
        show 2+(([]:List V).map Th.at++ks).length<=sizeLine
        rw[map_nil,nil_append]
        omega
       have s24:=s23.trans s4
       refine⟨p4,[.str y],rfl,s24,?_,Nat.le_refl _,?_,fun z=>⟨⟨y,rfl⟩,(h3 z).2⟩,⟨fun _=>⟨y,rfl⟩,fun z=>?_,fun z=>?_,?_,h4.lw,h4.sh.turn hw hyN⟩⟩
       ·unfold nd
        refine .tup hp4 (.cons (.at ?_) (.cons (.at ?_) (IsThs.kp (Kp.of s24) d4)))
        ·obtain⟨_,q⟩:=Z1i d1;exact q
        ·have h':(decide (y.length<=16)&&y.cps.toList.all fun c=>decide (c<16 ^ 8))=true:=hyl
         rw[Bool.and_eq_true,decide_eq_true_iff] at h'
         exact decide_eq_true (by have:=h'.1;omega)
       ·intro v hv
        rw[mem_singleton] at hv
        rw[hv]
        rfl
       ·rcases hw with q|q <;> (rw[q] at z;exact absurd z (by decide+kernel))
       ·rcases hw with q|q <;> (rw[q] at z;exact absurd z (by decide+kernel))
       ·intro v hv
        rw[mem_singleton] at hv
        rw[hv]
        exact hyl
    rintro σ1 H1 ⟨a',hd',rfl,s1,ha',g1,g2,g3,g4⟩
    refine⟨_,rfl,_,rfl,.ref a',w0,hd'.map Th.at++ks,rfl,ha',by rw[length_append,length_map];omega,fun p ws H2 s2 hp0 hp hws=>?_⟩
    rw[Z4b nk] at hws
    have hl:=IsThs.len _ hws
    have s12:=s1.trans s2
    refine⟨p,rfl,⟨_,SqL.of hp⟩,Z0y (K:=K) (a:=p) (xs:=ws) (fun i ys σc H'=>∃(o:Option V) (us:List Th),σc = [some (.ref na),some (.ref oa),o]/\IsThs H' ys us/\us.length=i/\(∀u∈us,PfT S N u)/\Z3j us=Z3j (ks.take i)/\Same H2 H')
     ⟨none,[],rfl,.nil,rfl,(fun _ q=>by cases q),by rw[take_zero],Same.refl _⟩ (fun i ys σc H' ⟨_,_,_,_,_,_,_,e⟩=>SqL.of (e _ _ hp)) ?_ ?_⟩
    ·rintro i x ys σc H' hx hi ⟨o,us,rfl,hys,hul,hup,huc,s3⟩
     obtain⟨t,ht,hxt⟩:=Z1c _ hws hx
     have hyl:=IsThs.len _ hys
     refine⟨by omega,?_⟩
     refine⟨_,rfl,_,rfl,_,rfl,x,na,oa,t,T1,T2,rfl,IsTh.kp (Kp.of s3) hxt,h6 t (mem_of_getElem? ht),s3 _ _ (s12 _ _ hna),s3 _ _ (s12 _ _ hoa),hTl,hT1,hlo,fun v' t' H3 s4 hv4 pf4 c4=>nx hi ⟨_,us ++ [t'],rfl,IsThs.app _ (IsThs.kp (Kp.of s4) hys) (.cons hv4 .nil),by rw[length_append,hul];rfl,?_,?_,s3.trans s4⟩⟩
     ·intro u hu
      rcases mem_append.mp hu with q|q
      ·exact hup u q
      ·rw[mem_singleton] at q;rw[q];exact pf4
     ·rw[Z4c,huc,c4,take_add_one,ht]
      exact(Z4c _ _).symm
    ·rintro ys σc H' ⟨o,us,rfl,hys,hul,hup,huc,s3⟩ q hq
     rw[take_of_length_le (by omega)] at huc
     have s4:=Z01 (o:=.lst ys) hq
     have sA:=(s2.trans s3).trans s4
     refine⟨.ref a',q,_,us,ys,rfl,IsTh.kp (Kp.of sA) ha',by rw[length_cons,length_append,length_map];omega,Z00,IsThs.kp (Kp.of s4) hys,by omega,fun r H4 s5 hr4=>?_⟩
     rw[Zga nk] at hr4
     have nu:∀k∈us,L2.isTup k=true:=fun k hk=>(hup k hk).isTup
     refine k _ _ H4 ((s1.trans sA).trans s5) hr4 ⟨w0,hd',us,rfl,g1,g2,fun z=>⟨(g3 z).1,by rw[hul,<- (g3 z).2];omega⟩,(by rw[show us.length=ks.length by omega];exact g4),by omega,hup⟩ ?_
     rw[Z2c nu,Z2c nk,huc]
end
structure WA where
 nm:Addr
 lt:Addr
 fn:Addr
 wo:Addr
 sd:Addr
def Z0p (a:WA)(r z:Int):List (Key×V):=[(Sum.inr "names",.ref a.nm),(Sum.inr "lets",.ref a.lt),(Sum.inr "functions",.ref a.fn),(Sum.inr "works",.ref a.wo),(Sum.inr "seeds",.ref a.sd),(Sum.inr "room",.int r),(Sum.inr "toil",.int z),(Sum.inr "takes",.bl true)]
section
variable {H:Hp}{wd:Addr}{a:WA}{r z q:Int}
theorem Z3o (e:H wd=some (.dK (Z0p a r z))):DGet H wd (.str "names") (some (.ref a.nm)):=by
 have y:=DGet.k (k:=Sum.inr "names") e
 rw[show Z2m (Z0p a r z) (Sum.inr "names")=some (.ref a.nm) by with_unfolding_all rfl] at y
 exact y
theorem Zak (e:H wd=some (.dK (Z0p a r z))):DGet H wd (.str "lets") (some (.ref a.lt)):=by
 have y:=DGet.k (k:=Sum.inr "lets") e
 rw[show Z2m (Z0p a r z) (Sum.inr "lets")=some (.ref a.lt) by with_unfolding_all rfl] at y
 exact y
theorem Z39 (e:H wd=some (.dK (Z0p a r z))):DGet H wd (.str "functions") (some (.ref a.fn)):=by
 have y:=DGet.k (k:=Sum.inr "functions") e
 rw[show Z2m (Z0p a r z) (Sum.inr "functions")=some (.ref a.fn) by with_unfolding_all rfl] at y
 exact y
theorem Z82 (e:H wd=some (.dK (Z0p a r z))):DGet H wd (.str "works") (some (.ref a.wo)):=by
 have y:=DGet.k (k:=Sum.inr "works") e
 rw[show Z2m (Z0p a r z) (Sum.inr "works")=some (.ref a.wo) by with_unfolding_all rfl] at y
 exact y
theorem Z5v (e:H wd=some (.dK (Z0p a r z))):DGet H wd (.str "seeds") (some (.ref a.sd)):=by
 have y:=DGet.k (k:=Sum.inr "seeds") e
 rw[show Z2m (Z0p a r z) (Sum.inr "seeds")=some (.ref a.sd) by with_unfolding_all rfl] at y
 exact y
theorem Z5f (e:H wd=some (.dK (Z0p a r z))):DGet H wd (.str "room") (some (.int r)):=by
 have y:=DGet.k (k:=Sum.inr "room") e
 rw[show Z2m (Z0p a r z) (Sum.inr "room")=some (.int r) by with_unfolding_all rfl] at y
 exact y
theorem Z31 (e:H wd=some (.dK (Z0p a r z))):DGet H wd (.str "toil") (some (.int z)):=by
 have y:=DGet.k (k:=Sum.inr "toil") e
 rw[show Z2m (Z0p a r z) (Sum.inr "toil")=some (.int z) by with_unfolding_all rfl] at y
 exact y
theorem Ze9 (e:H wd=some (.dK (Z0p a r z))):DGet H wd (.str "takes") (some (.bl true)):=by
 have y:=DGet.k (k:=Sum.inr "takes") e
 rw[show Z2m (Z0p a r z) (Sum.inr "takes")=some (.bl true) by with_unfolding_all rfl] at y
 exact y
theorem Z71 (e:H wd=some (.dK (Z0p a r z))):DPut H wd (.str "room") (.int q) (upd H wd (.dK (Z0p a q z))):=by
 have y:=DPut.k (k:=Sum.inr "room") (v:=.int q) e (by show 8<sizeLine;decide)
 rw[show Z3z (Z0p a r z) (Sum.inr "room") (.int q)=Z0p a q z by with_unfolding_all rfl] at y
 exact y
theorem Z72 (e:H wd=some (.dK (Z0p a r z))):DPut H wd (.str "toil") (.int q) (upd H wd (.dK (Z0p a r q))):=by
 have y:=DPut.k (k:=Sum.inr "toil") (v:=.int q) e (by show 8<sizeLine;decide)
 rw[show Z3z (Z0p a r z) (Sum.inr "toil") (.int q)=Z0p a r q by with_unfolding_all rfl] at y
 exact y
end
theorem Z92 {H:Hp}{d wd l:Addr}{a:WA}{ns:List Int}{n:Nat}{r z:Int}(F:Feed H d l ns n)(W:H wd=some (.dK (Z0p a r z))):wd≠d:=by
 obtain⟨⟨y,hd⟩,_,_⟩:=F
 refine Z3c W hd (fun q=>?_)
 injection q with q
 have h1:=congrArg List.length q
 cases h1
def But2 (d e:Addr)(H H':Hp):Prop:=∀b o,H b=some o->b≠d->b≠e->H' b=some o
theorem But2.refl (d e:Addr)(H:Hp):But2 d e H H:=fun _ _ h _ _=>h
theorem But2.trans {d e:Addr}{H H1 H2:Hp}(a:But2 d e H H1)(b:But2 d e H1 H2):But2 d e H H2:=fun c o h n m=>b c o (a c o h n m) n m
theorem But2.of {d e:Addr}{H H1:Hp}(a:But d H H1):But2 d e H H1:=fun c o h n _=>a c o h n
theorem But2.same {d e:Addr}{H H1:Hp}(a:Same H H1):But2 d e H H1:=fun c o h _ _=>a c o h
theorem But2.upd {d e:Addr}{H:Hp}{o:HO}:But2 d e H (upd H e o):=fun c u h _ n=>by rw[Z0c n];exact h
theorem But2.kp {d e l:Addr}{ns:List Int}{n:Nat}{kvs:List (Key×V)}{H H':Hp}(b:But2 d e H H')(F:Feed H d l ns n)(W:H e=some (.dK kvs)):Kp H H':=by
 obtain⟨⟨z,hd⟩,_,_⟩:=F
 intro a o h hk
 exact b a o h (fun q=>by subst q;rw[hd] at h;cases h;exact hk _ rfl) (fun q=>by subst q;rw[W] at h;cases h;exact hk _ rfl)
theorem Feed.world {H:Hp}{d wd l:Addr}{a a2:WA}{ns:List Int}{n:Nat}{r z r2 z2:Int}(F:Feed H d l ns n)(W:H wd=some (.dK (Z0p a r z))):Feed (L2.upd H wd (.dK (Z0p a2 r2 z2))) d l ns n:=by
 have hne:=Z92 F W
 obtain⟨⟨y,hd⟩,hl,hs⟩:=F
 refine⟨⟨y,by rw[Z0c hne.symm];exact hd⟩,?_,hs⟩
 rw[Z0c (Z3c hl W (by intro q;cases q))]
 exact hl
structure WI where
 T1:List Str
 T2:List Str
 fv:List V
 sv:List V
 ss:List Th
 ρ : Str->Int
 kvs:List (Key×V)
structure Wf (S:SS)(M:Nat)(H:Hp)(d wd:Addr)(a:WA)(i:WI):Prop where
 nm:H a.nm=some (.lst (i.T1.map V.str))
 lt:H a.lt=some (.lst (i.T2.map V.str))
 fn:H a.fn=some (.lst i.fv)
 fe:∀v∈i.fv,∃(c:Addr) (x:Str) (m:Int),v = .ref c/\H c=some (.tup [.str x,.int m])/\x∈S.c/\Nm x/\0<=m/\m<=6
 wo:H a.wo=some (.dK i.kvs)
 wk:Works S i.ρ i.kvs
 o1:a.wo≠d
 o2:a.wo≠wd
 sd:H a.sd=some (.lst i.sv)
 ss:IsThs H i.sv i.ss
 sp:∀t∈i.ss,PfT S M t
 n1:1<=i.T1.length
 n2:i.T1.length<=10
 l2:i.T2.length<=10
 f2:i.fv.length<=10
 s2:i.sv.length<=10
 an:∀t∈i.T1,NmU S t
 bn:∀t∈i.T2,NmU S t
theorem Wf.go {S:SS}{M:Nat}{H H':Hp}{d wd:Addr}{a:WA}{i:WI}(h:Wf S M H d wd a i)(k:Kp H H')(b:But2 d wd H H'):Wf S M H' d wd a i:=
 ⟨k _ _ h.nm (fun _ z=>by cases z),k _ _ h.lt (fun _ z=>by cases z),k _ _ h.fn (fun _ z=>by cases z),fun v hv=>let ⟨c,x,m,h1,h2,h3⟩:=h.fe v hv;⟨c,x,m,h1,k _ _ h2 (fun _ z=>by cases z),h3⟩,b _ _ h.wo h.o1 h.o2,h.wk,h.o1,h.o2,k _ _ h.sd (fun _ z=>by cases z),IsThs.kp k h.ss,h.sp,h.n1,h.n2,h.l2,h.f2,h.s2,h.an,h.bn⟩
structure Ctx (S:SS)(M:Nat)(H H':Hp)(d l wd:Addr)(a:WA)(i:WI)(bd:Addr)(bs:List Str)(ns:List Int)(n:Nat)(r z:Int):Prop where
 F:Feed H' d l ns n
 W:H' wd=some (.dK (Z0p a r z))
 N:Wf S M H' d wd a i
 B:H' bd=some (.lst (bs.map V.str))
 bl:bs.length<=100
 bn:∀t∈bs,NmU S t
 b2:But2 d wd H H'
section
variable {S:SS}{M:Nat}{H H1 H2:Hp}{d l wd:Addr}{a:WA}{i:WI}{bd:Addr}{bs:List Str}{ns:List Int}{n n2:Nat}{r r2 z z2:Int}
theorem Ctx.go (C:Ctx S M H H1 d l wd a i bd bs ns n r z)(b:But2 d wd H1 H2)(F2:Feed H2 d l ns n2)(W2:H2 wd=some (.dK (Z0p a r2 z2))):Ctx S M H H2 d l wd a i bd bs ns n2 r2 z2:=
 ⟨F2,W2,C.N.go (b.kp C.F C.W) b,b.kp C.F C.W _ _ C.B (fun _ z=>by cases z),C.bl,C.bn,C.b2.trans b⟩
theorem Ctx.draw (C:Ctx S M H H1 d l wd a i bd bs ns n r z)(b:But d H1 H2)(F2:Feed H2 d l ns n2):Ctx S M H H2 d l wd a i bd bs ns n2 r z:=
 C.go (But2.of b) F2 (b wd _ C.W (Z92 C.F C.W))
theorem Ctx.same (C:Ctx S M H H1 d l wd a i bd bs ns n r z)(s:Same H1 H2):Ctx S M H H2 d l wd a i bd bs ns n r z:=
 C.go (But2.same s) (C.F.same s) (s _ _ C.W)
theorem Ctx.put (C:Ctx S M H H1 d l wd a i bd bs ns n r z):Ctx S M H (upd H1 wd (.dK (Z0p a r2 z2))) d l wd a i bd bs ns n r2 z2:=
 C.go But2.upd (C.F.world C.W) Z00
theorem Ctx.zero (C:Ctx S M H H1 d l wd a i bd bs ns n r z):Ctx S M H1 H1 d l wd a i bd bs ns n r z:=⟨C.F,C.W,C.N,C.B,C.bl,C.bn,But2.refl _ _ _⟩
theorem Ctx.bind (C:Ctx S M H H1 d l wd a i bd bs ns n r z){b2:Addr}{bs2:List Str}(h:H1 b2=some (.lst (bs2.map V.str)))(hl:bs2.length<=100)(hn:∀t∈bs2,NmU S t):Ctx S M H H1 d l wd a i b2 bs2 ns n r z:=⟨C.F,C.W,C.N,h,hl,hn,C.b2⟩
theorem Ctx.tail (C:Ctx S M H H1 d l wd a i bd bs ns n r z){H0:Hp}(b:But2 d wd H0 H):Ctx S M H0 H1 d l wd a i bd bs ns n r z:=⟨C.F,C.W,C.N,C.B,C.bl,C.bn,b.trans C.b2⟩
end
theorem smN {t:Str}(h:Nm t):smallV (.str t)=true:=decide_eq_true (Nat.le_trans h.1.2 (by decide))
theorem Z93 {S:SS}{t:Str}(h:NmU S t):smallV (.str t)=true:=decide_eq_true (Nat.le_trans h.1.1.2 (by decide))
inductive spWorld_ (vs:List V)(H:Hp)(Q:VK):Prop
 |mk (nm lt fn wo:Addr) (r z:Int) (_:vs = [.ref nm,.ref lt,.ref fn,.ref wo,.int r,.int z]) (_:∀(wd sd:Addr) H',Same H H'->H wd=none->H sd=none->H' wd=some (.dK (Z0p ⟨nm,lt,fn,wo,sd⟩ r z))->H' sd=some (.lst [])->Q (.ref wd) H'):spWorld_ vs H Q
def spWorld:Sp:=fun vs H Q _=>spWorld_ vs H Q
def Zir (S:SS)(t:Th):Prop:=PfT S 1 t/\cnt t=1
inductive spLeaf_ (S:SS)(M:Nat)(vs:List V)(H:Hp)(Q:VK):Prop
 |mk (d l wd:Addr) (a:WA) (i:WI) (bd:Addr) (bs:List Str) (ns:List Int) (n:Nat) (r z:Int) (_:vs = [.ref d,.ref wd,.ref bd]) (_:n<=800000000000) (_:Ctx S M H H d l wd a i bd bs ns n r z) (_:∀(v:V) (t:Th) n' H',IsTh H' v t->Zir S t->n'<=n+4->Ctx S M H H' d l wd a i bd bs ns n' r z->Q v H'):spLeaf_ S M vs H Q
def Z65 (S:SS)(M:Nat):Sp:=fun vs H Q _=>spLeaf_ S M vs H Q
theorem Zpj {S:SS}:Zir S (nd "take" [] []):=by
 refine⟨⟨"take",[],[],rfl,Nat.zero_le _,fun v hv=>(by cases hv),fun z=>absurd z (by decide+kernel),⟨fun z=>z.elim (fun q=>absurd q (by decide+kernel)) (fun q=>absurd q (by decide+kernel)),fun z=>absurd z (by decide+kernel),fun z=>absurd z (by decide+kernel),fun v hv=>(by cases hv),by decide+kernel,.take⟩,Nat.zero_le _,fun k hk=>(by cases hk)⟩,?_⟩
 rw[Z2c (fun k hk=>by cases hk)];simp [Z3j]
theorem Zpk {S:SS}{i:Int}(h0:0<=i)(h1:i<=1000000000):Zir S (nd "num" [.int i] []):=by
 refine⟨⟨"num",[.int i],[],rfl,Nat.le_refl _,fun u hu=>(by rw[mem_singleton] at hu;rw[hu];rfl),fun z=>absurd z (by decide+kernel),⟨fun z=>z.elim (fun q=>absurd q (by decide+kernel)) (fun q=>absurd q (by decide+kernel)),fun z=>absurd z (by decide+kernel),fun z=>absurd z (by decide+kernel),fun v hv=>(by rw[mem_singleton] at hv;rw[hv];exact decide_eq_true (by omega)),by decide+kernel,.num h0 h1⟩,Nat.zero_le _,fun k hk=>(by cases hk)⟩,?_⟩
 rw[Z2c (fun k hk=>by cases hk)];simp [Z3j]
theorem Zpl {S:SS}{x:Str}(h:NmU S x):Zir S (nd "name" [.str x] []):=by
 refine⟨⟨"name",[.str x],[],rfl,Nat.le_refl _,fun u hu=>(by rw[mem_singleton] at hu;rw[hu];rfl),fun z=>absurd z (by decide+kernel),⟨fun z=>⟨x,rfl⟩,fun z=>absurd z (by decide+kernel),fun z=>absurd z (by decide+kernel),fun v hv=>(by rw[mem_singleton] at hv;rw[hv];exact Zim h),by decide+kernel,.name h⟩,Nat.zero_le _,fun k hk=>(by cases hk)⟩,?_⟩
 rw[Z2c (fun k hk=>by cases hk)];simp [Z3j]
section
variable {S:SS}{M:Nat}{P:Program}{w:World}{K:W.Frag}{mg:Str->Option Value}{base:Heap}
theorem Zl9:FnScope ["_law_names_here","_law_lets","_law_functions","_law_works","_law_room","_law_toil"] ["_law_names_here","_law_lets","_law_functions","_law_works","_law_room","_law_toil"] (Z04 Zah):=.q
theorem Zis {f:Addr}{fd:FuncData}(F:Fun K "_law_world" "_law_world" Zah f fd):FnOk P w K mg base CX0 1 f fd ["_law_names_here","_law_lets","_law_functions","_law_works","_law_room","_law_toil"] spWorld:=by
 refine F.ok Zl9 (fun vs H Q E h=>?_) (fun cdv A outer s H vs Q E hr h=>?_)
 ·obtain⟨nm,lt,fn,wo,r,z,rfl,_⟩:=h
  rfl
 ·obtain⟨nm,lt,fn,wo,r,z,rfl,k⟩:=h
  refine⟨_,Z07 (Z0h (Zfd (Z29 Z08 (pv 0) (Z29 Z08 (pv 1) (Z29 Z08 (pv 2) (Z29 Z08 (pv 3) (Z29 Z08 (Z14 Z02) (Z29 Z08 (pv 4) (Z29 Z08 (pv 5) (Z29 Z08 Z34 Zfc)))))))) rfl rfl (by intro z;cases z) (by decide))),?_⟩
  intro wd hwd
  have sw:=Z01 (o:=.dK []) hwd
  refine⟨_,rfl,_,rfl,_,rfl,_,rfl,Nat.zero_le _,fun sd hsd=>?_⟩
  have hsn:sd≠wd:=fun z=>by rw[z,Z00] at hsd;cases hsd
  have sb:=Z01 (o:=.lst []) hsd
  refine⟨_,rfl,_,rfl,sb _ _ Z00,Z0p ⟨nm,lt,fn,wo,sd⟩ r z,rfl,by show 8<=15;decide,?_⟩
  have em:Z6k [] (Z0p ⟨nm,lt,fn,wo,sd⟩ r z)=Z0p ⟨nm,lt,fn,wo,sd⟩ r z:=by with_unfolding_all rfl
  rw[em]
  refine k wd sd _ (fun b ob e=>?_) hwd (Z2x sw hsd) Z00 ?_
  ·rw[Z0c (Z0j e hwd)]
   exact sb _ _ (sw _ _ e)
  ·rw[Z0c hsn]
   exact Z00
theorem scLeaf:FnScope ["_law_feed_here","_law_world_here","_law_bound_here","_law_way","_law_some"] ["_law_feed_here","_law_world_here","_law_bound_here"] (Z04 Zg0):=.q
theorem Zla {f fV fD fS:Addr}{fd dV dD dS:FuncData}(F:Fun K "_law_leaf" "_law_leaf" Zg0 f fd)(U:Helpers K mg fD fS dD dS)(FV:Fun K "_law_value" "_law_value" Z3n fV dV)(bV:Binds K dV ["_law_feed_here"] [])(mV:mg "_law_value"=some (.ref fV)):
  FnOk P w K mg base CX0 3 f fd ["_law_feed_here","_law_world_here","_law_bound_here"] (Z65 S M):=by
 have GD:FnOk P w K mg base CX0 1 fD dD ["_law_feed_here","_law_many"] spDraw:=Z8v U.D U.T
 have GV:FnOk P w K mg base CX0 2 fV dV ["_law_feed_here"] spValue:=Zil FV U
 refine F.ok scLeaf (fun vs H Q E h=>?_) (fun cdv A outer s H vs Q E hr h=>?_)
 ·obtain⟨d,l,wd,a,i,bd,bs,ns,n,r,z,rfl,_⟩:=h
  rfl
 ·obtain⟨d,l,wd,a,i,bd,bs,ns,n,r,z,rfl,hn,C0,k⟩:=h
  have hsz:=sizeLine_eq
  have hu:(_:Around).units+1<cLine:=Nat.lt_of_le_of_lt (Nat.add_le_add_left (by decide) _) hr.units
  have hu0:=hr.units0
  have hr1:Room 1 _:=hr.mono (by decide)
  have hr2:Room 2 _:=hr.mono (by decide)
  refine'⟨?tt,?body,?fin⟩
  case body=>
   refine' Z05 ?s1 ?r1
   case s1=>exact Z0a (i:=3) scLeaf.nd rfl (Or.inl rfl) (Z06 GD hr1 (by rfl) U.mD U.D.kp U.bD .nil Z0f (Z0e (pv 0) (Z18 Z03 Z02)))
   case r1=>
    refine' Z0g ?s2 ?r2
    case s2=>
     refine' Z11 ?c (Z07 ?b) Z0k
     case c=>exact(Z41 (Z09 Z1f (pv 3) Z03 (Z0i _)) (Z2v (Z5z (Z0t hu (pv 1) Z08 (fun _ _=>rfl))))).pt
     case b=>exact Z0h (Z0v (Z18 Z08 Z02))
    case r2=>
     refine' Z05 ?s3 ?r3
     case s3=>exact Z0a (i:=4) scLeaf.nd rfl (Or.inl rfl) (Z0m Z2d (Z0m Z2d (Z0t hu (pv 1) Z08 (fun _ _=>rfl)) (pv 2)) (pv 2))
     case r3=>
      refine' Z05 ?s4 (Z07 ?s5)
      case s4=>
       refine' Z11 ?c (Z07 ?b) Z0k
       case c=>exact(Z66 (Z09 Z9p (pv 3) Z03 (Z0i _)) (Z60 (Z09 (Z6n hu0) (pv 4) (Z14 Z02) (Z0i _)))).pt
       case b=>exact Z0h (Z0v (Z18 Z08 (Z2h (Z06 GV hr2 (by rfl) mV FV.kp bV .nil Z0f (Z0e (pv 0) Z02)) Z02)))
      case s5=>
       refine' Z0h (Z0v (Z18 Z08 (Z0b ?x Z02)))
       case x=>exact Z0q Z16 (pv 4) (Z06 GD hr1 (by rfl) U.mD U.D.kp U.bD .nil Z0f (Z0e (pv 0) (Z2h (Z0r Z0u (by rfl) U.T.len PySem.boot_len (Z0e (pv 4) Z02)) Z02))) (fun _ _=>rfl)
  case fin=>
   refine⟨_,rfl,d,l,ns,n,_,rfl,C0.F,by omega,by decide,by decide,fun way n1 H1 w0 w1 hn1 F1 b1=>?_⟩
   have C1:=C0.draw b1 F1
   refine⟨fun σ' H'=>σ' = [some (.ref d),some (.ref wd),some (.ref bd),some (.int way),none]/\H'=H1,?_,?_⟩
   ·refine⟨_,rfl,rfl,_,rfl,Z1e (fun g=>?_) (fun g=>Za2 ⟨rfl,rfl⟩)⟩
    refine⟨_,rfl,wd,.bl true,rfl,Ze9 C1.W,true,rfl,Zc7 ?_⟩
    refine⟨(by show 1<=sizeLine;decide),fun p hp=>?_⟩
    exact k (.ref p) (nd "take" [] []) n1 _ (.tup Z00 (.cons (.at (by decide+kernel)) .nil)) Zpj (by omega) (C1.same (Z01 hp))
   rintro σ2 H2 ⟨rfl,rfl⟩
   have n2:=C1.N.n2
   have n1':=C1.N.n1
   have bl:=C1.bl
   refine⟨_,rfl,wd,.ref a.nm,rfl,Z3o C1.W,_,rfl,a.nm,bd,i.T1.map V.str,bs.map V.str,rfl,rfl,C1.N.nm,C1.B,by rw[length_map,length_map];omega,fun c hc=>?_⟩
   have sc:=Z01 (o:=.lst (i.T1.map V.str++bs.map V.str)) hc
   have C2:=C1.same sc
   refine⟨_,rfl,c,bd,_,bs.map V.str,rfl,rfl,Z00,C2.B,by rw[length_append,length_map,length_map];omega,fun e he=>?_⟩
   have se:=Z01 (o:=.lst (i.T1.map V.str++bs.map V.str++bs.map V.str)) he
   have C3:=C2.same se
   have hE:upd (upd H2 c (.lst (i.T1.map V.str++bs.map V.str))) e (.lst (i.T1.map V.str++bs.map V.str++bs.map V.str)) e=some (.lst (i.T1.map V.str++bs.map V.str++bs.map V.str)):=Z00
   have hEl:(i.T1.map V.str++bs.map V.str++bs.map V.str).length=i.T1.length+bs.length+bs.length:=by simp only [length_append,length_map]
   have hEn:∀v∈i.T1.map V.str++bs.map V.str++bs.map V.str,∃x,v = .str x/\NmU S x:=by
    intro v hv
    rw[<- map_append,<- map_append] at hv
    obtain⟨x,hx,rfl⟩:=mem_map.mp hv
    refine⟨x,rfl,?_⟩
    rcases mem_append.mp hx with y|y
    ·rcases mem_append.mp y with y|y
     ·exact C1.N.an x y
     ·exact C1.bn x y
    ·exact C1.bn x y
   generalize upd (upd H2 c (.lst (i.T1.map V.str++bs.map V.str))) e (.lst (i.T1.map V.str++bs.map V.str++bs.map V.str))=H3 at C3 hE
   generalize i.T1.map V.str++bs.map V.str++bs.map V.str=es at hE hEl hEn
   have num:∀H4,Ctx S M H H4 d l wd a i bd bs ns n1 r z->spValue [.ref d] H4 (fun v H'=>2<=sizeLine/\∀p,H' p=none->Q (.ref p) (upd H' p (.tup [.str "num",v]))) E:=by
    intro H4 C4
    refine⟨d,l,ns,n1,rfl,C4.F,by omega,fun j n4 H5 j0 j1 hn4 F4 b4=>⟨(by decide),fun p hp=>?_⟩⟩
    exact k (.ref p) (nd "num" [.int j] []) n4 _ (.tup Z00 (.cons (.at (by decide+kernel)) (.cons (.at rfl) .nil))) (Zpk j0 j1) (by omega) ((C4.draw b4 F4).same (Z01 hp))
   refine⟨_,rfl,_,_,rfl,rfl,_,rfl,Z1e (fun g=>Zc7 ⟨_,rfl,num _ C3⟩) (fun g=>?_)⟩
   refine⟨_,rfl,Nat.zero_le _,fun q hq=>?_⟩
   have sq:=Z01 (o:=.lst []) hq
   have C4:=C3.same sq
   have hne:es.isEmpty=false:=by
    cases es with
    |nil=>rw[length_nil] at hEl;omega
    |cons=>rfl
   refine⟨e,q,es,rfl,rfl,SqL.of (sq _ _ hE),SqL.of Z00,_,rfl,?_⟩
   rw[hne]
   refine Za2 ?_
   have hl:((es.length:Nat):Int)=(i.T1.length+bs.length+bs.length:Nat):=by rw[hEl]
   refine⟨_,rfl,_,rfl,_,rfl,e,es,rfl,.inl (SqL.of (sq _ _ hE)),d,l,ns,n1,_,rfl,C4.F,by omega,by show(0:Int)<(es.length:Int);omega,by show(es.length:Int)<18446744073709551616;omega,fun j n5 H5 j0 j1 hn5 F5 b5=>?_⟩
   obtain⟨v5,hv5,hat5⟩:=Z4n (xs:=es) (i:=j) j0 j1
   obtain⟨x,rfl,hx⟩:=hEn v5 hv5
   refine⟨e,es,j,.str x,rfl,rfl,SqL.of (C4.F.lst b5 (sq _ _ hE)),hat5,(by show 2<=sizeLine;decide),fun p hp=>?_⟩
   exact k (.ref p) (nd "name" [.str x] []) n5 _ (.tup Z00 (.cons (.at (by decide+kernel)) (.cons (.at (Z93 hx)) .nil))) (Zpl hx) (by omega) ((C4.draw b5 F5).same (Z01 hp))
end
structure Fn (K:W.Frag)(mg:Str->Option Value)(x:Str)(st:Stmt)(ps:List Str)(f:Addr)(d:FuncData):Prop where
 F:Fun K x x st f d
 b:Binds K d ps []
 m:mg x=some (.ref f)
structure GenF where
 fD:Addr
 fS:Addr
 fV:Addr
 fL:Addr
 fP:Addr
 fW:Addr
 fN:Addr
 fK:Addr
 fR:Addr
 fT:Addr
 fX:Addr
 dD:FuncData
 dS:FuncData
 dV:FuncData
 dL:FuncData
 dP:FuncData
 dW:FuncData
 dN:FuncData
 dK:FuncData
 dR:FuncData
 dT:FuncData
 dX:FuncData
structure Gen (K:W.Frag)(mg:Str->Option Value)(g:GenF):Prop where
 U:Helpers K mg g.fD g.fS g.dD g.dS
 X:HW K mg g.fP g.fW g.dP g.dW
 V:Fn K mg "_law_value" Z3n ["_law_feed_here"] g.fV g.dV
 L:Fn K mg "_law_leaf" Zg0 ["_law_feed_here","_law_world_here","_law_bound_here"] g.fL g.dL
 N:Fn K mg "_law_nodes" Z6u ["_law_e"] g.fN g.dN
 Y:Fn K mg "_law_work" Z4j ["_law_e","_law_works"] g.fK g.dK
 R:Fn K mg "_law_right" Z7x ["_law_e","_law_bound_here"] g.fR g.dR
 T:Fn K mg "_law_turned" Z5r ["_law_e","_law_names_here","_law_others"] g.fT g.dT
 S:Fn K mg "_law_spoilt" Z6v ["_law_e","_law_at","_law_leaf_here"] g.fX g.dX
 sum:mg "sum"=none
 all:mg "all"=none
section
variable {S:SS}{M:Nat}{P:Program}{w:World}{K:W.Frag}{mg:Str->Option Value}{base:Heap}{g:GenF}
theorem Gen.gD (G:Gen K mg g):FnOk P w K mg base CX0 1 g.fD g.dD ["_law_feed_here","_law_many"] spDraw:=Z8v G.U.D G.U.T
theorem Gen.gL (G:Gen K mg g):FnOk P w K mg base CX0 3 g.fL g.dL ["_law_feed_here","_law_world_here","_law_bound_here"] (Z65 S M):=Zla G.L.F G.U G.V.F G.V.b G.V.m
theorem Gen.gN (G:Gen K mg g)(N:Nat):FnOk P w K mg base CX0 (N+2) g.fN g.dN ["_law_e"] (Zg8 S N):=Z8z Zg7 G.N.F G.N.b G.N.m G.X.T G.X.KI G.sum G.X.P G.X.bP G.X.mP N
theorem Gen.gK (G:Gen K mg g)(N:Nat):FnOk P w K mg base CX0 (N+2) g.fK g.dK ["_law_e","_law_works"] (Z5e S N):=Ze8 G.Y.F G.Y.b G.Y.m G.X.T G.X.KI G.sum G.X.P G.X.bP G.X.mP N
theorem Gen.gR (G:Gen K mg g)(N:Nat):FnOk P w K mg base CX0 (N+2) g.fR g.dR ["_law_e","_law_bound_here"] (Zbf S N):=Zip G.R.F G.R.b G.R.m G.X.T G.X.KI G.all G.X.P G.X.bP G.X.mP N
theorem Gen.gT (G:Gen K mg g)(N:Nat):FnOk P w K mg base CX0 (N+2) g.fT g.dT ["_law_e","_law_names_here","_law_others"] (Z91 S N):=Zgd G.T.F G.T.b G.T.m G.X N
theorem Gen.gS (G:Gen K mg g)(N:Nat):FnOk P w K mg base CX0 (N+3) g.fX g.dX ["_law_e","_law_at","_law_leaf_here"] (Zcl S N 1):=Zai Zg7 G.S.F G.S.b G.S.m G.X G.U.T.range G.sum G.N.F G.N.b G.N.m 1 N
end
theorem Zlb {m:Nat}:∀{ks:List Th},(∀k∈ks,cnt k<=m)->Z3j ks<=ks.length*m:=by
 intro ks
 induction ks with
 |nil=>intro _;rw[Z3j];exact Nat.zero_le _
 |cons x ks ih=>
  intro h
  have h1:=h x (mem_cons_self ..)
  have h2:=ih fun k hk=>h k (mem_cons_of_mem _ hk)
  rw[Z3j,length_cons,Nat.succ_mul]
  omega
theorem Zlc {S:SS}:∀(n:Nat) {t:Th},PfT S n t->cnt t<=7 ^ n:=by
 intro n
 induction n with
 |zero=>intro t h;exact h.elim
 |succ n ih=>
  intro t h
  obtain⟨w,hd,ks,rfl,h1,h2,h3,h4,h5,h6⟩:=h
  rw[Z2c fun k hk=>(h6 k hk).isTup]
  have h7:=Zlb fun k hk=>ih (h6 k hk)
  have h8:ks.length*7 ^ n<=6*7 ^ n:=Nat.mul_le_mul_right _ h5
  have h9:0<7 ^ n:=Nat.pow_pos (by decide)
  rw[Nat.pow_succ]
  omega
inductive spCopied_ (S:SS)(M:Nat)(vs:List V)(H:Hp)(Q:VK):Prop
 |mk (d l wd:Addr) (a:WA) (i:WI) (bd:Addr) (bs:List Str) (ns:List Int) (n:Nat) (r z b tm:Int) (_:vs = [.ref d,.ref wd,.ref bd,.int b,.int tm]) (_:n<=700000000000) (_:M<=20) (_:0<=tm) (_:tm<=1000000000000000000) (_:0<=r) (_:Ctx S M H H d l wd a i bd bs ns n r z) (_:∀(v:V) (t:Th) (n':Nat) (r' z':Int) H',IsTh H' v t->PfT S (M+1) t->(cnt t:Int)<=1+r-r'->0<=r'->n'<=n+13->Ctx S M H H' d l wd a i bd bs ns n' r' z'->Q v H'):spCopied_ S M vs H Q
def Zcm (S:SS)(M:Nat):Sp:=fun vs H Q _=>spCopied_ S M vs H Q
theorem Zpm:(["_law_others","_law_name_here"]:List Str).Nodup:=by decide+kernel
section
variable {S:SS}{M:Nat}{P:Program}{w:World}{K:W.Frag}{mg:Str->Option Value}{base:Heap}{g:GenF}
theorem scCopied:FnScope ["_law_feed_here","_law_world_here","_law_bound_here","_law_below","_law_times","_law_seed","_law_names_here","_law_shift","_law_others","_law_found","_law_cost"] ["_law_feed_here","_law_world_here","_law_bound_here","_law_below","_law_times"] (Z04 Z4w):=.q
theorem Zge {f:Addr}{fd:FuncData}(F:Fun K "_law_copied" "_law_copied" Z4w f fd)(G:Gen K mg g):
  FnOk P w K mg base CX0 (M+4) f fd ["_law_feed_here","_law_world_here","_law_bound_here","_law_below","_law_times"] (Zcm S M):=by
 have GD:FnOk P w K mg base CX0 1 g.fD g.dD ["_law_feed_here","_law_many"] spDraw:=G.gD
 have GL:FnOk P w K mg base CX0 3 g.fL g.dL ["_law_feed_here","_law_world_here","_law_bound_here"] (Z65 S M):=G.gL
 have GN:FnOk P w K mg base CX0 (M+3) g.fN g.dN ["_law_e"] (Zg8 S (M+1)):=G.gN (M+1)
 have GK:FnOk P w K mg base CX0 (M+3) g.fK g.dK ["_law_e","_law_works"] (Z5e S (M+1)):=G.gK (M+1)
 have GR:FnOk P w K mg base CX0 (M+3) g.fR g.dR ["_law_e","_law_bound_here"] (Zbf S (M+1)):=G.gR (M+1)
 have GT:FnOk P w K mg base CX0 (M+2) g.fT g.dT ["_law_e","_law_names_here","_law_others"] (Z91 S M):=G.gT M
 have GX:FnOk P w K mg base CX0 (M+3) g.fX g.dX ["_law_e","_law_at","_law_leaf_here"] (Zcl S M 1):=G.gS M
 refine F.ok scCopied (fun vs H Q E h=>?_) (fun cdv A outer s H vs Q E hr h=>?_)
 ·obtain⟨d,l,wd,a,i,bd,bs,ns,n,r,z,b,tm,rfl,_⟩:=h
  rfl
 ·obtain⟨d,l,wd,a,i,bd,bs,ns,n,r,z,b,tm,rfl,hn,hM,ht0,ht1,hr0,C0,k⟩:=h
  have hsz:=sizeLine_eq
  have hu:(_:Around).units+1<cLine:=Nat.lt_of_le_of_lt (Nat.add_le_add_left (by omega) _) hr.units
  have hu0:=hr.units0
  have hr1:Room 1 _:=hr.mono (by omega)
  have hr3:Room 3 _:=hr.mono (by omega)
  have hrM2:Room (M+2) _:=hr.mono (by omega)
  have hrM3:Room (M+3) _:=hr
  refine'⟨?tt,?body,?fin⟩
  case body=>
   refine' Z0g ?s1 (Z05 ?s2 (Z05 ?s3 (Z05 ?s4 (Z0g ?s5 (Z0g ?s6 (Z05 ?s7 (Z0g ?s8 (Z05 ?s9 (Z0g ?s10 (Z05 ?s11 (Z05 ?s12 (Z07 ?s13))))))))))))
   case s1=>exact Z11 (Z09 (Z6n hu0) (Z0t hu (pv 1) Z08 (fun _ _=>rfl)) (Z14 Z02) (Z0i _)) (Z07 (Z0h (Z06 GL hr3 (by rfl) G.L.m G.L.F.kp G.L.b .nil Z0f (Z0e (pv 0) (Z0e (pv 1) (Z0e (pv 2) Z02)))))) Z0k
   case s2=>exact Z0a (i:=5) scCopied.nd rfl (Or.inl rfl) (Z0q Z16 (Z0t hu (pv 1) Z08 (fun _ _=>rfl)) (Z06 GD hr1 (by rfl) G.U.mD G.U.D.kp G.U.bD .nil Z0f (Z0e (pv 0) (Z2h (Z0r Z0u (by rfl) G.U.T.len PySem.boot_len (Z0b (Z0t hu (pv 1) Z08 (fun _ _=>rfl)) Z02)) Z02))) (fun _ _=>rfl))
   case s3=>exact Z0a (i:=6) scCopied.nd rfl (Or.inl rfl) (Z0t hu (pv 1) Z08 (fun _ _=>rfl))
   case s4=>exact Z0a (i:=7) scCopied.nd rfl (Or.inl rfl) (Z06 GD hr1 (by rfl) G.U.mD G.U.D.kp G.U.bD .nil Z0f (Z0e (pv 0) (Z2h (Z0r Z0u (by rfl) G.U.T.len PySem.boot_len (Z0e (pv 6) Z02)) Z02)))
   case s5=>exact Z0a (i:=8) scCopied.nd rfl (Or.inr rfl) (Z0m Z2d (Z1d Z2l (pv 6) (Z1m (pv 7)) Z1p) (Z1d Z2l (pv 6) Z1p (Z1m (pv 7))))
   case s6=>
    refine' Z11 ?c (Z07 ?b) Z0k
    case c=>exact Z09 Z1f (Z06 GD hr1 (by rfl) G.U.mD G.U.D.kp G.U.bD .nil Z0f (Z0e (pv 0) (Z18 Z03 Z02))) Z03 (Z0i _)
    case b=>
     refine' Z0a (i:=8) scCopied.nd rfl (Or.inr rfl) (Z1h (N':=["_law_others","_law_name_here"]) (src:=[some 8,none]) ?k1 ?k5 ?k6 ?k7)
     case k1=>rfl
     case k5=>exact Z0d (Z04 Z4w) rfl ["_law_feed_here","_law_world_here","_law_bound_here","_law_below","_law_times","_law_seed","_law_names_here","_law_shift","_law_others","_law_found","_law_cost"] rfl (by decide+kernel)
     case k6=>exact Z19 (pv 6)
     case k7=>exact fun cl C ex s0 H0=>⟨Z0l (i:=1) Zpm rfl (Or.inl rfl),Z1q,Z0q (Zi3 (K:=K) rfl) (pv 0) Z03 (fun _ _=>rfl)⟩
   case s7=>exact Z0a (i:=9) scCopied.nd rfl (Or.inl rfl) (Z06 GT hrM2 (by rfl) G.T.m G.T.F.kp G.T.b .nil Z0f (Z0e (pv 5) (Z0e (pv 6) (Z0e (pv 8) Z02))))
   case s8=>
    refine' Z11 ?c (Z07 ?b) Z0k
    case c=>exact Z09 Z1f (Z06 GD hr1 (by rfl) G.U.mD G.U.D.kp G.U.bD .nil Z0f (Z0e (pv 0) (Z18 Z03 Z02))) Z03 (Z0i _)
    case b=>exact Z0a (i:=9) scCopied.nd rfl (Or.inl rfl) (Z06 GX hrM3 (by rfl) G.S.m G.S.F.kp G.S.b .nil Z0f (Z0e (pv 9) (Z2h (Z06 GD hr1 (by rfl) G.U.mD G.U.D.kp G.U.bD .nil Z0f (Z0e (pv 0) (Z2h (Z06 GN hrM3 (by rfl) G.N.m G.N.F.kp G.N.b .nil Z0f (Z0e (pv 9) Z02)) Z02))) (Z2h (Z06 GL hr3 (by rfl) G.L.m G.L.F.kp G.L.b .nil Z0f (Z0e (pv 0) (Z0e (pv 1) (Z0e (pv 2) Z02)))) Z02))))
   case s9=>exact Z0a (i:=10) scCopied.nd rfl (Or.inl rfl) (Z0m Z25 (pv 4) (Z06 GK hrM3 (by rfl) G.Y.m G.Y.F.kp G.Y.b .nil Z0f (Z0e (pv 9) (Z0b (Z0t hu (pv 1) Z08 (fun _ _=>rfl)) Z02))))
   case s10=>
    refine' Z11 ?c (Z07 ?b) Z0k
    case c=>exact(Z66 (Z7l (Z5z (Z06 GR hrM3 (by rfl) G.R.m G.R.F.kp G.R.b .nil Z0f (Z0e (pv 9) (Z0e (pv 2) Z02))))) (Z66 (Z09 Zht (pv 10) (Z0m Z24 (Z0t hu (pv 1) Z08 (fun _ _=>rfl)) (Z0m Z25 Z03 (pv 4))) (Z0i _)) (Z60 (Z09 Zht (Z06 GN hrM3 (by rfl) G.N.m G.N.F.kp G.N.b .nil Z0f (Z0e (pv 9) Z02)) (Z0t hu (pv 1) Z08 (fun _ _=>rfl)) (Z0i _))))).pt
    case b=>exact Z0h (Z06 GL hr3 (by rfl) G.L.m G.L.F.kp G.L.b .nil Z0f (Z0e (pv 0) (Z0e (pv 1) (Z0e (pv 2) Z02))))
   case s11=>exact Z2n hu (pv 1) Z08 (Z0m Z24 (Z0t hu (pv 1) Z08 (fun _ _=>rfl)) (pv 10)) (by rfl)
   case s12=>exact Z2n hu (pv 1) Z08 (Z0m Z24 (Z0t hu (pv 1) Z08 (fun _ _=>rfl)) (Z06 GN hrM3 (by rfl) G.N.m G.N.F.kp G.N.b .nil Z0f (Z0e (pv 9) Z02))) (by rfl)
   case s13=>exact Z0h (pv 9)
  case fin=>
   have leaf:∀H4 n4,n4<=n+9->Ctx S M H H4 d l wd a i bd bs ns n4 r z->Z65 S M [.ref d,.ref wd,.ref bd] H4 (fun v H'=>Q v H') E:=by
    intro H4 n4 h4 C4
    refine⟨d,l,wd,a,i,bd,bs,ns,n4,r,z,rfl,by omega,C4.zero,fun v t n5 H5 hv hL hn5 C5=>?_⟩
    exact k v t n5 r z H5 hv (hL.1.le (by omega)) (by have:=hL.2;omega) hr0 (by omega) (C5.tail C4.b2)
   refine⟨fun σ' H'=>σ' = [some (.ref d),some (.ref wd),some (.ref bd),some (.int b),some (.int tm),none,none,none,none,none,none]/\Ctx S M H H' d l wd a i bd bs ns n r z/\0<i.sv.length,?_,?_⟩
   ·refine⟨_,rfl,wd,.ref a.sd,rfl,Z5v C0.W,Nat.zero_le _,fun q hq=>?_⟩
    have sq:=Z01 (o:=.lst []) hq
    have C1:=C0.same sq
    refine⟨a.sd,q,i.sv,rfl,rfl,SqL.of C1.N.sd,SqL.of Z00,_,rfl,Z1e (fun g=>⟨_,rfl,_,rfl,_,rfl,leaf _ n (by omega) C1⟩) (fun g=>⟨rfl,C1,?_⟩)⟩
    cases e:i.sv with
    |nil=>rw[e] at g;exact absurd rfl g
    |cons=>exact Nat.succ_pos _
   rintro σ1 H1 ⟨rfl,C1,hs0⟩
   have hs2:=C1.N.s2
   refine⟨_,rfl,wd,.ref a.sd,rfl,Z5v C1.W,_,rfl,_,rfl,wd,.ref a.sd,rfl,Z5v C1.W,a.sd,i.sv,rfl,.inl (SqL.of C1.N.sd),d,l,ns,n,_,rfl,C1.F,by omega,by omega,by omega,fun j n2 H2 j0 j1 hn2 F2 b2=>?_⟩
   have C2:=C1.draw b2 F2
   obtain⟨vs,hvs,hat⟩:=Z4n (xs:=i.sv) (i:=j) j0 j1
   obtain⟨jj,_,hjj,_⟩:=Z6i hat
   obtain⟨ts,hts,hsv⟩:=Z1c _ C2.N.ss hjj
   have pts:=C2.N.sp ts (mem_of_getElem? hts)
   have n1:=C2.N.n1
   have n2':=C2.N.n2
   refine⟨a.sd,i.sv,j,vs,rfl,rfl,SqL.of C2.N.sd,hat,?_⟩
   refine⟨_,rfl,wd,.ref a.nm,rfl,Z3o C2.W,?_⟩
   have hl1:((i.T1.map V.str).length:Int)=(i.T1.length:Int):=by rw[length_map]
   refine⟨_,rfl,_,rfl,a.nm,i.T1.map V.str,rfl,.inl (SqL.of C2.N.nm),d,l,ns,n2,_,rfl,C2.F,by omega,by show(0:Int)<((i.T1.map V.str).length:Int);omega,by show((i.T1.map V.str).length:Int)<18446744073709551616;omega,fun sh n3 H3 sh0 sh1 hn3 F3 b3=>?_⟩
   have C3:=C2.draw b3 F3
   have hsv3:=IsTh.kp (b3.kp C2.F) hsv
   clear C1 C2 hsv F2 F3 b2 b3
   let Oth:Hp->Addr->Prop:=fun H' oa=>∃T2:List Str,H' oa=some (.lst (T2.map V.str))/\T2.length=i.T1.length/\∀t∈T2,NmU S t
   refine⟨fun σ' H'=>∃oa,σ' = [some (.ref d),some (.ref wd),some (.ref bd),some (.int b),some (.int tm),some vs,some (.ref a.nm),some (.int sh),some (.ref oa),none,none]/\Oth H' oa/\IsTh H' vs ts/\Ctx S M H H' d l wd a i bd bs ns n3 r z,?_,?_⟩
   ·refine⟨_,rfl,_,rfl,sh,rfl,a.nm,_,rfl,SqL.of C3.N.nm,fun p1 hp1=>?_⟩
    rw[Z3k sh0 (by rw[length_map];omega)]
    have s1:=Z01 (o:=.lst ((i.T1.map V.str).drop sh.toNat)) hp1
    have C4:=C3.same s1
    refine⟨_,rfl,_,rfl,sh,rfl,a.nm,_,rfl,SqL.of C4.N.nm,fun p2 hp2=>?_⟩
    rw[Zcg sh0 (by rw[length_map];omega)]
    have s2:=Z01 (o:=.lst ((i.T1.map V.str).take sh.toNat)) hp2
    have C5:=C4.same s2
    refine⟨p1,p2,_,_,rfl,rfl,s2 _ _ Z00,Z00,by rw[length_drop,length_take,length_map];omega,fun p3 hp3=>?_⟩
    have s3:=Z01 (o:=.lst ((i.T1.map V.str).drop sh.toNat++(i.T1.map V.str).take sh.toNat)) hp3
    refine⟨p3,rfl,⟨i.T1.drop sh.toNat++i.T1.take sh.toNat,?_,?_,?_⟩,IsTh.kp (Kp.of ((s1.trans s2).trans s3)) hsv3,C5.same s3⟩
    ·rw[Z00,map_append,map_drop,map_take]
    ·rw[length_append,length_drop,length_take];omega
    ·intro t ht
     rcases mem_append.mp ht with y|y
     ·exact C3.N.an t (mem_of_mem_drop y)
     ·exact C3.N.an t (mem_of_mem_take y)
   clear C3 hsv3
   rintro σ5 H5 ⟨oa,rfl,O5,hv5,C5⟩
   refine⟨fun σ' H'=>∃oa n',σ' = [some (.ref d),some (.ref wd),some (.ref bd),some (.int b),some (.int tm),some vs,some (.ref a.nm),some (.int sh),some (.ref oa),none,none]/\Oth H' oa/\n'<=n+3/\IsTh H' vs ts/\Ctx S M H H' d l wd a i bd bs ns n' r z,?_,?_⟩
   ·refine⟨_,rfl,d,l,ns,n3,_,rfl,C5.F,by omega,by decide,by decide,fun q n6 H6 q0 q1 hn6 F6 b6=>?_⟩
    have C6:=C5.draw b6 F6
    have hv6:=IsTh.kp (b6.kp C5.F) hv5
    obtain⟨T2,hT,hTl,hTn⟩:=O5
    have hT6:=C5.F.lst b6 hT
    refine⟨rfl,_,rfl,Z1e (fun g=>?_) (fun g=>⟨oa,n6,rfl,⟨T2,hT6,hTl,hTn⟩,by omega,hv6,C6⟩)⟩
    obtain⟨x0,hx0⟩:∃x,T2[0]? = some x:=⟨_,List.getElem?_eq_getElem (by omega)⟩
    refine⟨_,rfl,a.nm,rfl,⟨_,SqL.of C6.N.nm⟩,Z0y (K:=K) (a:=a.nm) (xs:=i.T1.map V.str) (fun j ys σc H'=>∃(o:Option V) (fs:List Str),σc = [some (.ref oa),o]/\H'=H6/\ys=fs.map V.str/\fs.length=j/\∀t∈fs,NmU S t)
      ⟨none,[],rfl,rfl,rfl,rfl,(fun t ht=>by cases ht)⟩ (fun i ys σc H' ⟨_,_,_,e,_⟩=>by rw[e];exact SqL.of C6.N.nm) ?_ ?_⟩
    ·rintro j x ys σc H' hx hj ⟨o,fs,rfl,rfl,rfl,hfl,hfa⟩
     rw[length_map] at hj
     refine⟨by rw[length_map];omega,?_⟩
     refine⟨_,rfl,oa,T2.map V.str,_,.str x0,rfl,rfl,SqL.of hT6,Z26 (j:=0) (by rw[List.getElem?_map,hx0];rfl),nx (by rw[length_map];exact hj) ⟨_,fs ++ [x0],rfl,rfl,by rw[map_append];rfl,by rw[length_append,hfl];rfl,fun u hu=>?_⟩⟩
     rcases mem_append.mp hu with y|y
     ·exact hfa u y
     ·rw[mem_singleton] at y;subst y;exact hTn u (mem_of_getElem? hx0)
    ·rintro ys σc H' ⟨o,fs,rfl,rfl,rfl,hfl,hfa⟩ q hq
     have sq:=Z01 (o:=.lst (fs.map V.str)) hq
     exact⟨q,n6,rfl,⟨fs,Z00,by rw[hfl,length_map],hfa⟩,by omega,IsTh.kp (Kp.of sq) hv6,C6.same sq⟩
   clear O5 C5 hv5
   rintro σ6 H6 ⟨oa,n6,rfl,⟨T2,hT,hTl,hTn⟩,hn6,hv6,C6⟩
   refine⟨_,rfl,_,rfl,_,rfl,vs,a.nm,oa,ts,i.T1,T2,rfl,hv6,pts,C6.N.nm,hT,hTl.symm,by omega,hTn,fun v7 t7 H7 s7 hv7 pf7 c7=>?_⟩
   have C7:=C6.same s7
   refine⟨fun σ' H'=>∃v8 t8 n8,σ' = [some (.ref d),some (.ref wd),some (.ref bd),some (.int b),some (.int tm),some vs,some (.ref a.nm),some (.int sh),some (.ref oa),some v8,none]/\n8<=n+9/\IsTh H' v8 t8/\PfT S (M+1) t8/\Ctx S M H H' d l wd a i bd bs ns n8 r z,?_,?_⟩
   ·refine⟨_,rfl,d,l,ns,n6,_,rfl,C7.F,by omega,by decide,by decide,fun q n8 H8 q0 q1 hn8 F8 b8=>?_⟩
    have C8:=C7.draw b8 F8
    have hv8:=IsTh.kp (b8.kp C7.F) hv7
    refine⟨rfl,_,rfl,Z1e (fun g=>?_) (fun g=>⟨v7,t7,n8,rfl,by omega,hv8,pf7.le (by omega),C8⟩)⟩
    have hc:=Z81 pf7
    refine⟨_,rfl,_,rfl,_,rfl,v7,t7,rfl,hv8,pf7.le (by omega),fun H9 s9=>?_⟩
    have C9:=C8.same s9
    have hcl:(cnt t7:Int)<18446744073709551616:=by
     have h1:=Zlc M pf7
     have h2:7 ^ M<=7 ^ 20:=Nat.pow_le_pow_right (by decide) hM
     have h3:(7:Nat) ^ 20=79792266297612001:=by decide
     omega
    refine⟨d,l,ns,n8,_,rfl,C9.F,by omega,by omega,hcl,fun q2 n10 H10 y0 y1 hn10 F10 b10=>?_⟩
    have C10:=C9.draw b10 F10
    have hv10:=IsTh.kp (b10.kp C9.F) (IsTh.kp (Kp.of s9) hv8)
    refine⟨_,rfl,_,rfl,_,rfl,d,l,wd,a,i,bd,bs,ns,n10,r,z,rfl,by omega,C10.zero,fun vl tl n11 H11 hvl hL hn11 C11=>?_⟩
    have hv11:=IsTh.kp (C11.b2.kp C10.F C10.W) hv10
    refine⟨v7,vl,q2,t7,tl,rfl,hv11,pf7,hvl,hL.1,fun v12 t12 H12 s12 hv12 pf12 _=>?_⟩
    exact⟨v12,t12,n11,rfl,by omega,hv12,pf12,(C11.tail C10.b2).same s12⟩
   clear C6 C7 hv6 hv7 hT
   rintro σ8 H8 ⟨v8,t8,n8,rfl,hn8,hv8,pf8,C8⟩
   refine⟨_,rfl,_,rfl,_,rfl,wd,.ref a.wo,rfl,Z82 C8.W,v8,a.wo,t8,i.ρ,i.kvs,rfl,hv8,pf8,C8.N.wo,C8.N.wk,fun H9 s9=>?_⟩
   have C9:=C8.same s9
   have hv9:=IsTh.kp (Kp.of s9) hv8
   refine⟨_,_,rfl,rfl,.inl ⟨by omega,by omega⟩,?_⟩
   obtain⟨co,hco⟩:∃co,co=tm*wk i.ρ t8:=⟨_,rfl⟩
   refine⟨fun σ' H'=>σ' = [some (.ref d),some (.ref wd),some (.ref bd),some (.int b),some (.int tm),some vs,some (.ref a.nm),some (.int sh),some (.ref oa),some v8,some (.int co)]/\IsTh H' v8 t8/\(cnt t8:Int)<=r/\Ctx S M H H' d l wd a i bd bs ns n8 r z,?_,?_⟩
   ·have bl:=C9.bl
    refine⟨_,rfl,_,rfl,v8,bd,t8,bs,rfl,hv9,pf8,C9.B,by omega,fun rb H10 s10=>?_⟩
    have C10:=C9.same s10
    have hv10:=IsTh.kp (Kp.of s10) hv9
    refine⟨_,rfl,Z1e (fun g=>Zc7 ⟨_,rfl,_,rfl,_,rfl,leaf _ n8 hn8 C10⟩) (fun g=>?_)⟩
    refine⟨_,rfl,_,rfl,wd,.int z,rfl,Z31 C10.W,_,rfl,_,_,rfl,rfl,.inl ⟨by decide,by decide⟩,_,_,rfl,rfl,_,_,rfl,rfl,_,rfl,Z1e (fun g=>Zc7 ⟨_,rfl,_,rfl,_,rfl,leaf _ n8 hn8 C10⟩) (fun g=>?_)⟩
    refine⟨_,rfl,v8,t8,rfl,hv10,pf8,fun H11 s11=>?_⟩
    have C11:=C10.same s11
    have hv11:=IsTh.kp (Kp.of s11) hv10
    refine⟨_,rfl,wd,.int r,rfl,Z5f C11.W,_,_,rfl,rfl,_,rfl,Z1e (fun g=>⟨_,rfl,_,rfl,_,rfl,leaf _ n8 hn8 C11⟩) (fun g=>⟨by rw[hco];rfl,hv11,?_,C11⟩)⟩
    rw[decide_eq_true_iff] at g
    omega
   clear C8 C9 hv8 hv9
   rintro σ9 H9 ⟨rfl,hv9,hcr,C9⟩
   refine⟨_,rfl,wd,.int z,rfl,Z31 C9.W,_,rfl,_,_,rfl,rfl,_,rfl,wd,_,rfl,Z72 C9.W,?_⟩
   have C10:=C9.put (r2:=r) (z2:=z-co)
   have hv10:=IsTh.kp ((But2.upd (d:=d)).kp C9.F C9.W) hv9 (H':=upd H9 wd (.dK (Z0p a r (z-co))))
   refine⟨_,rfl,wd,.int r,rfl,Z5f C10.W,_,rfl,v8,t8,rfl,hv10,pf8,fun H11 s11=>?_⟩
   have C11:=C10.same s11
   have hv11:=IsTh.kp (Kp.of s11) hv10
   refine⟨_,_,rfl,rfl,_,rfl,wd,_,rfl,Z71 C11.W,?_⟩
   have C12:=C11.put (r2:=r-cnt t8) (z2:=z-co)
   have hv12:=IsTh.kp ((But2.upd (d:=d)).kp C11.F C11.W) hv11 (H':=upd H11 wd (.dK (Z0p a (r-cnt t8) (z-co))))
   refine⟨_,rfl,k v8 t8 n8 _ _ _ hv12 pf8 (by omega) (by omega) (by omega) C12⟩
end
def cD:Nat->Nat
 | 0=>0
 |N+1=>40+6*cD N
def tB (N:Nat):Int:=5 ^ (20-N)
theorem Zcn (N:Nat):0<tB N:=Int.pow_pos (by decide)
theorem Z94 {N:Nat}(h:N<=10):tB N=5*tB (N+1):=by
 unfold tB
 rw[show 20-N=(20-(N+1))+1 by omega,Int.pow_succ]
 omega
theorem Znr:∀{N:Nat},N<=10->tB N<=95367431640625:=by
 intro N
 induction N with
 |zero=>intro _;exact Int.le_of_eq (by decide)
 |succ N ih=>
  intro h
  have h1:=ih (by omega)
  have h2:=Z94 (N:=N) (by omega)
  have h3:=Zcn (N+1)
  omega
inductive spExpr_ (S:SS)(M N:Nat)(vs:List V)(H:Hp)(Q:VK):Prop
 |mk (d l wd:Addr) (a:WA) (i:WI) (bd:Addr) (bs:List Str) (ns:List Int) (n:Nat) (r z b tm:Int) (_:vs = [.ref d,.ref wd,.ref bd,.int b,.int tm]) (_:1<=N) (_:N<=10) (_:b<=N) (_:M<=20) (_:0<=tm) (_:tm<=tB N) (_:n+cD N<=600000000000) (_:bs.length+N<=100) (_:Ctx S M H H d l wd a i bd bs ns n r z) (_:∀(v:V) (t:Th) (n':Nat) (r' z':Int) H',IsTh H' v t->PfT S (M+N) t->(cnt t:Int)<=r-r'->(r<=6->r'=r-1)->(7<=r -> -5*(N:Int)<=r')->n'<=n+cD N->Ctx S M H H' d l wd a i bd bs ns n' r' z'->Q v H'):spExpr_ S M N vs H Q
def Zal (S:SS)(M N:Nat):Sp:=fun vs H Q _=>spExpr_ S M N vs H Q
inductive spBound_ (S:SS)(M N:Nat)(vs:List V)(H:Hp)(Q:VK):Prop
 |mk (d l wd:Addr) (a:WA) (i:WI) (bd:Addr) (bs:List Str) (ns:List Int) (n:Nat) (r z b tm:Int) (kd:Str) (_:vs = [.ref d,.ref wd,.ref bd,.int b,.int tm,.str kd]) (_:1<=N) (_:N<=10) (_:b<=N+1) (_:M<=20) (_:0<=tm) (_:tm<=tB N) (_:n+(1+2*cD N)<=600000000000) (_:bs.length+(N+1)<=100) (_:6<=r) (_:Ctx S M H H d l wd a i bd bs ns n r z) (_:∀(v:V) (t:Th) (n':Nat) (r' z':Int) H',IsTh H' v t->PfT S (M+N+1) t->(cnt t:Int)<=1+r-r' -> -5*((N:Int)+1)<=r'->n'<=n+(1+2*cD N)->Ctx S M H H' d l wd a i bd bs ns n' r' z'->Q v H'):spBound_ S M N vs H Q
def Zgf (S:SS)(M N:Nat):Sp:=fun vs H Q _=>spBound_ S M N vs H Q
inductive spCalled_ (S:SS)(M N:Nat)(vs:List V)(H:Hp)(Q:VK):Prop
 |mk (d l wd:Addr) (a:WA) (i:WI) (bd:Addr) (bs:List Str) (ns:List Int) (n:Nat) (r z b tm:Int) (_:vs = [.ref d,.ref wd,.ref bd,.int b,.int tm]) (_:1<=N) (_:N<=10) (_:b<=N+1) (_:M<=20) (_:0<=tm) (_:tm<=tB N) (_:n+(5+6*cD N)<=600000000000) (_:bs.length+(N+1)<=100) (_:6<=r) (_:Ctx S M H H d l wd a i bd bs ns n r z) (_:∀(v:V) (t:Th) (n':Nat) (r' z':Int) H',IsTh H' v t->PfT S (M+N+1) t->(cnt t:Int)<=1+r-r' -> -5*((N:Int)+1)<=r'->n'<=n+(5+6*cD N)->Ctx S M H H' d l wd a i bd bs ns n' r' z'->Q v H'):spCalled_ S M N vs H Q
def Zco (S:SS)(M N:Nat):Sp:=fun vs H Q _=>spCalled_ S M N vs H Q
theorem Zam {S:SS}{w:Str}{hd:List V}{n:Nat}(h1:w≠"set")(h2:w≠"name")(h3:w≠"call")(h4:w≠"again")(lv:∀v∈hd,lfV v=true)(lw:lfV (.str w)=true)(sh:Sh S w hd n):HdE S w hd n:=
 ⟨fun z=>z.elim (fun q=>absurd q h1) (fun q=>absurd q h2),fun z=>absurd z h3,fun z=>absurd z h4,lv,lw,sh⟩
theorem Z73 {S:SS}{n:Nat}{w:Str}{hd:List V}{ks:List Th}(h1:hd.length<=1)(hp:∀v∈hd,plT (.at v)=true)(hl:w≠"let")(hE:HdE S w hd ks.length)(h5:ks.length<=6)(h6:∀k∈ks,PfT S n k):PfT S (n+1) (nd w hd ks):=
 ⟨w,hd,ks,rfl,h1,hp,fun z=>absurd z hl,hE,h5,h6⟩
theorem Z1o {α : Type}{p : α -> Prop}{x : α}(h:p x):∀y ∈ [x],p y:=fun y hy=>by rw[mem_singleton] at hy;rw[hy];exact h
theorem Z3a {α : Type}{p : α -> Prop}{x y : α}(h:p x)(g:p y):∀u ∈ [x,y],p u:=fun u hu=>by
 rcases mem_cons.mp hu with q|q
 ·rw[q];exact h
 ·exact Z1o g u q
theorem Zns {S:SS}{n:Nat}{x:Str}{t:Th}(hx:NmU S x)(h:PfT S n t):PfT S (n+1) (nd "set" [.str x] [t]):=
 Z73 (Nat.le_refl _) (Z1o rfl) (by decide+kernel) ⟨fun _=>⟨x,rfl⟩,fun z=>absurd z (by decide+kernel),fun z=>absurd z (by decide+kernel),Z1o (Zim hx),by decide+kernel,.set hx⟩ (by show 1<=6;decide) (Z1o h)
theorem Znt {S:SS}{n:Nat}{t:Th}(h:PfT S n t):PfT S (n+1) (nd "say" [] [t]):=
 Z73 (Nat.zero_le _) (fun v hv=>by cases hv) (by decide+kernel) (Zam (by decide+kernel) (by decide+kernel) (by decide+kernel) (by decide+kernel) (fun v hv=>by cases hv) (by decide+kernel) .say) (by show 1<=6;decide) (Z1o h)
theorem Znu {S:SS}{n:Nat}{x:Str}{t u:Th}(hx:NmU S x)(h:PfT S n t)(g:PfT S n u):PfT S (n+1) (nd "let" [.str x] [t,u]):=
 ⟨"let",[.str x],[t,u],rfl,Nat.le_refl _,Z1o rfl,fun _=>⟨⟨x,rfl⟩,rfl⟩,Zam (by decide+kernel) (by decide+kernel) (by decide+kernel) (by decide+kernel) (Z1o (Zim hx)) (by decide+kernel) (.lt hx),by show 2<=6;decide,Z3a h g⟩
theorem Zit {S:SS}{n:Nat}{j:Int}{t:Th}(h0:0<=j)(h5:j<=5)(h:PfT S n t):PfT S (n+1) (nd "again" [.int j] [t]):=
 Z73 (Nat.le_refl _) (Z1o rfl) (by decide+kernel) ⟨fun z=>z.elim (fun q=>absurd q (by decide+kernel)) (fun q=>absurd q (by decide+kernel)),fun z=>absurd z (by decide+kernel),fun _=>⟨j,rfl,h0,h5⟩,Z1o (decide_eq_true (by omega)),by decide+kernel,.again h0 h5⟩ (by show 1<=6;decide) (Z1o h)
theorem Zld {S:SS}{n:Nat}{w:Str}{hd:List V}{t:Th}(h:PfT S n t):cnt (nd w hd [t])=1+cnt t:=by
 rw[Z2c (Z1o h.isTup)];simp [Z3j]
theorem Zpn {S:SS}{n:Nat}{w:Str}{hd:List V}{t u:Th}(h:PfT S n t)(g:PfT S n u):cnt (nd w hd [t,u])=1+(cnt t+cnt u):=by
 rw[Z2c (Z3a h.isTup g.isTup)];simp [Z3j]
theorem Zpo:(["_law_bound_here","_law_name_here"]:List Str).Nodup:=by decide+kernel
section
variable {S:SS}{M:Nat}{P:Program}{w:World}{K:W.Frag}{mg:Str->Option Value}{base:Heap}{g:GenF}
theorem scBound:FnScope ["_law_feed_here","_law_world_here","_law_bound_here","_law_below","_law_times","_law_kind","_law_some","_law_name_here","_law_first"] ["_law_feed_here","_law_world_here","_law_bound_here","_law_below","_law_times","_law_kind"] (Z04 Z6w):=.q
theorem Ziu {f fE:Addr}{fd dE:FuncData}(F:Fun K "_law_bound" "_law_bound" Z6w f fd)(G:Gen K mg g)(FE:Fn K mg "_law_expr" Z8t ["_law_feed_here","_law_world_here","_law_bound_here","_law_below","_law_times"] fE dE){N c:Nat}
  (GE:FnOk P w K mg base CX0 c fE dE ["_law_feed_here","_law_world_here","_law_bound_here","_law_below","_law_times"] (Zal S M N)) (hc:1<=c):
  FnOk P w K mg base CX0 (c+1) f fd ["_law_feed_here","_law_world_here","_law_bound_here","_law_below","_law_times","_law_kind"] (Zgf S M N):=by
 have GD:FnOk P w K mg base CX0 1 g.fD g.dD ["_law_feed_here","_law_many"] spDraw:=G.gD
 refine F.ok scBound (fun vs H Q E h=>?_) (fun cdv A outer s H vs Q E hr h=>?_)
 ·obtain⟨d,l,wd,a,i,bd,bs,ns,n,r,z,b,tm,kd,rfl,_⟩:=h
  rfl
 ·obtain⟨d,l,wd,a,i,bd,bs,ns,n,r,z,b,tm,kd,rfl,hN1,hN10,hb,hM,ht0,ht1,hn,hbl,hr6,C0,k⟩:=h
  have hsz:=sizeLine_eq
  have hu:(_:Around).units+1<cLine:=Nat.lt_of_le_of_lt (Nat.add_le_add_left (by omega) _) hr.units
  have hu0:=hr.units0
  have hr1:Room 1 _:=hr.mono (by omega)
  refine'⟨?tt,?body,?fin⟩
  case body=>
   refine' Z0g ?s1 (Z0g ?s2 (Z05 ?s3 (Z07 ?s4)))
   case s1=>
    refine' Z2e (i:=6) (N':=["_law_bound_here","_law_name_here"]) (src:=[some 2,none]) ?k1 ?k2 ?k3 ?k4 ?k5 ?k6 ?k7
    case k1=>rfl
    case k2=>exact scBound.nd
    case k3=>rfl
    case k4=>exact Or.inl rfl
    case k5=>exact Z0d (Z04 Z6w) rfl ["_law_feed_here","_law_world_here","_law_bound_here","_law_below","_law_times","_law_kind","_law_some","_law_name_here","_law_first"] rfl (by decide+kernel)
    case k6=>exact Z19 (Z0t hu (pv 1) Z08 (fun _ _=>rfl))
    case k7=>exact fun cl C ex s0 H0=>⟨Z0l (i:=1) Zpo rfl (Or.inl rfl),Z37 (Z09 (Z52 (K:=K) rfl) (pv 1) (pv 0) (by with_unfolding_all rfl)),pv 1⟩
   case s2=>
    refine' Z11 ?c (Z05 ?e1 (Z07 ?e2)) Z0k
    case c=>exact(Z41 (Z09 Z1f (pv 5) Z08 (Z0i _)) (Z2v (Z09 (Z4g hu0) (pv 6) (Z14 Z02) (Z0i _)))).pt
    case e1=>exact Z0a (i:=7) scBound.nd rfl (Or.inl rfl) (Z0q Z16 (pv 6) (Z06 GD hr1 (by rfl) G.U.mD G.U.D.kp G.U.bD .nil Z0f (Z0e (pv 0) (Z2h (Z0r Z0u (by rfl) G.U.T.len PySem.boot_len (Z0e (pv 6) Z02)) Z02))) (fun _ _=>rfl))
    case e2=>exact Z0h (Z0v (Z18 Z08 (Z0e (pv 7) (Z2h (Z06 GE hr (by rfl) FE.m FE.F.kp FE.b .nil Z0f (Z0e (pv 0) (Z0e (pv 1) (Z0e (pv 2) (Z0b (Z0m Z24 (pv 3) Z03) (Z0e (pv 4) Z02)))))) Z02))))
   case s3=>
    refine' Z11 ?c (Z05 ?e0 (Z05 ?e1 (Z05 ?e2 (Z07 ?e3)))) Z0k
    case c=>exact Z09 Z1f (pv 5) Z08 (Z0i _)
    case e0=>exact Z0a (i:=6) scBound.nd rfl (Or.inl rfl) (Z0m Z2d (Z0t hu (pv 1) Z08 (fun _ _=>rfl)) (Z0t hu (pv 1) Z08 (fun _ _=>rfl)))
    case e1=>exact Z0a (i:=7) scBound.nd rfl (Or.inl rfl) (Z0q Z16 (pv 6) (Z06 GD hr1 (by rfl) G.U.mD G.U.D.kp G.U.bD .nil Z0f (Z0e (pv 0) (Z2h (Z0r Z0u (by rfl) G.U.T.len PySem.boot_len (Z0e (pv 6) Z02)) Z02))) (fun _ _=>rfl))
    case e2=>exact Z0a (i:=8) scBound.nd rfl (Or.inl rfl) (Z06 GE hr (by rfl) FE.m FE.F.kp FE.b .nil Z0f (Z0e (pv 0) (Z0e (pv 1) (Z0e (pv 2) (Z0b (Z0m Z24 (pv 3) Z03) (Z0e (pv 4) Z02))))))
    case e3=>exact Z0h (Z0v (Z18 Z08 (Z0e (pv 7) (Z0e (pv 8) (Z2h (Z06 GE hr (by rfl) FE.m FE.F.kp FE.b .nil Z0f (Z0e (pv 0) (Z0e (pv 1) (Z0b (Z0m Z2d (pv 2) (Z14 (Z0e (pv 7) Z02))) (Z0b (Z0m Z24 (pv 3) Z03) (Z0e (pv 4) Z02)))))) Z02)))))
   case s4=>exact Z0h (Z0v (Z18 Z08 (Z2h (Z06 GE hr (by rfl) FE.m FE.F.kp FE.b .nil Z0f (Z0e (pv 0) (Z0e (pv 1) (Z0e (pv 2) (Z0b (Z0m Z24 (pv 3) Z03) (Z0e (pv 4) Z02)))))) Z02)))
  case fin=>
   have n1:=C0.N.n1
   have n2:=C0.N.n2
   have l2:=C0.N.l2
   refine⟨fun σ' H'=>∃(fr:Addr) (fs:List Str),σ' = [some (.ref d),some (.ref wd),some (.ref bd),some (.int b),some (.int tm),some (.str kd),some (.ref fr),none,none]/\H' fr=some (.lst (fs.map V.str))/\(∀t∈fs,NmU S t)/\fs.length<=10/\Ctx S M H H' d l wd a i bd bs ns n r z,?_,?_⟩
   ·refine⟨_,rfl,wd,.ref a.nm,rfl,Z3o C0.W,a.nm,rfl,⟨_,SqL.of C0.N.nm⟩,Z0y (K:=K) (a:=a.nm) (xs:=i.T1.map V.str) (fun j ys σc H'=>∃(o:Option V) (fs:List Str),σc = [some (.ref bd),o]/\H'=H/\ys=fs.map V.str/\fs.length<=j/\∀t∈fs,NmU S t)
      ⟨none,[],rfl,rfl,rfl,Nat.le_refl _,(fun t ht=>by cases ht)⟩ (fun i ys σc H' ⟨_,_,_,e,_⟩=>by rw[e];exact SqL.of C0.N.nm) ?_ ?_⟩
    ·rintro j x ys σc H' hx hj ⟨o,fs,rfl,rfl,rfl,hfl,hfa⟩
     obtain⟨t,ht,rfl⟩:=mem_map.mp (mem_of_getElem? hx)
     have hj':j<10:=by
      rw[length_map] at hj
      omega
     refine⟨by rw[length_map];omega,?_⟩
     refine⟨_,rfl,_,rfl,bd,bs.map V.str,rfl,.inl (SqL.of C0.B),rfl,Z2b bs,_,rfl,Z1e (fun g=>?_) (fun g=>?_)⟩
     ·refine⟨_,rfl,nx hj ⟨_,fs ++ [t],rfl,rfl,by rw[map_append];rfl,by rw[length_append,length_singleton];omega,fun u hu=>?_⟩⟩
      rcases mem_append.mp hu with y|y
      ·exact hfa u y
      ·rw[mem_singleton] at y;subst y;exact C0.N.an u ht
     ·exact nx hj ⟨_,fs,rfl,rfl,rfl,by omega,hfa⟩
    ·rintro ys σc H' ⟨o,fs,rfl,rfl,rfl,hfl,hfa⟩ q hq
     rw[length_map] at hfl
     exact⟨q,fs,rfl,Z00,hfa,by omega,C0.same (Z01 hq)⟩
   rintro σ1 H1 ⟨fr,fs,rfl,S1,hfn,hfl,C1⟩
   refine⟨fun σ' H'=>σ' = [some (.ref d),some (.ref wd),some (.ref bd),some (.int b),some (.int tm),some (.str kd),some (.ref fr),none,none]/\Ctx S M H H' d l wd a i bd bs ns n r z,?_,?_⟩
   ·refine⟨_,rfl,rfl,_,rfl,Z1e (fun g=>?_) (fun g=>Za2 ⟨rfl,C1⟩)⟩
    refine⟨_,rfl,Nat.zero_le _,fun e he=>?_⟩
    have se:=Z01 (o:=.lst []) he
    have C2:=C1.same se
    refine⟨fr,e,fs.map V.str,[],rfl,rfl,SqL.of (se _ _ S1),SqL.of Z00,Z2b fs,rfl,_,rfl,Z1e (fun g2=>?_) (fun g2=>⟨rfl,C2⟩)⟩
    have hf0:0<fs.length:=by
     cases fs with
     |nil=>exact absurd g2 (by decide)
     |cons=>exact Nat.succ_pos _
    have hl1:((fs.map V.str).length:Int)=(fs.length:Int):=by rw[length_map]
    refine⟨_,rfl,_,rfl,_,rfl,fr,fs.map V.str,rfl,.inl (SqL.of (se _ _ S1)),d,l,ns,n,_,rfl,C2.F,by omega,by show(0:Int)<((fs.map V.str).length:Int);omega,by show((fs.map V.str).length:Int)<18446744073709551616;omega,fun q n3 H3 q0 q1 hn3 F3 b3=>?_⟩
    have C3:=C2.draw b3 F3
    obtain⟨vx,hvx,hat⟩:=Z4n (xs:=fs.map V.str) (i:=q) q0 q1
    obtain⟨x,hx,rfl⟩:=mem_map.mp hvx
    refine⟨fr,fs.map V.str,q,.str x,rfl,rfl,SqL.of (C2.F.lst b3 (se _ _ S1)),hat,?_⟩
    refine⟨_,rfl,_,rfl,_,rfl,_,rfl,_,rfl,_,_,rfl,rfl,_,rfl,d,l,wd,a,i,bd,bs,ns,n3,r,z,b-1,tm,rfl,hN1,hN10,by omega,hM,ht0,ht1,by omega,by omega,C3.zero,fun v4 t4 n4 r4 z4 H4 h4 p4 c4 y1 y2 hn4 C4=>⟨(by show 3<=sizeLine;decide),fun p hp=>?_⟩⟩
    have sp:=Z01 (o:=.tup [.str "set",.str x,v4]) hp
    have hk:=Z81 p4
    refine k (.ref p) (nd "set" [.str x] [t4]) n4 r4 z4 _ (.tup Z00 (.cons (.at (by decide+kernel)) (.cons (.at (Z93 (hfn x hx))) (.cons (IsTh.kp (Kp.of sp) h4) .nil)))) (Zns (hfn x hx) p4) ?_ (by omega) (by omega) ((C4.tail C3.b2).same sp)
    rw[Zld p4]
    omega
   clear C1 S1 hfn hfl
   rintro σ2 H2 ⟨rfl,C2⟩
   refine⟨_,rfl,rfl,_,rfl,Z1e (fun g=>?_) (fun g=>?_)⟩
   ·refine⟨_,rfl,wd,.ref a.nm,rfl,Z3o C2.W,_,rfl,wd,.ref a.lt,rfl,Zak C2.W,a.nm,a.lt,i.T1.map V.str,i.T2.map V.str,rfl,rfl,C2.N.nm,C2.N.lt,by rw[length_map,length_map];omega,fun c hc=>?_⟩
    have sc:=Z01 (o:=.lst (i.T1.map V.str++i.T2.map V.str)) hc
    have C3:=C2.same sc
    have hE:upd H2 c (.lst (i.T1.map V.str++i.T2.map V.str)) c=some (.lst (i.T1.map V.str++i.T2.map V.str)):=Z00
    have hEl:(i.T1.map V.str++i.T2.map V.str).length=i.T1.length+i.T2.length:=by simp only [length_append,length_map]
    have hEn:∀v∈i.T1.map V.str++i.T2.map V.str,∃x,v = .str x/\NmU S x:=by
     intro v hv
     rcases mem_append.mp hv with y|y
     ·obtain⟨x,hx,rfl⟩:=mem_map.mp y;exact⟨x,rfl,C2.N.an x hx⟩
     ·obtain⟨x,hx,rfl⟩:=mem_map.mp y;exact⟨x,rfl,C2.N.bn x hx⟩
    generalize upd H2 c (.lst (i.T1.map V.str++i.T2.map V.str))=H3 at C3 hE
    generalize i.T1.map V.str++i.T2.map V.str=es at hE hEl hEn
    have hl1:(es.length:Int)=((i.T1.length+i.T2.length:Nat):Int):=by rw[hEl]
    refine⟨_,rfl,_,rfl,_,rfl,c,es,rfl,.inl (SqL.of hE),d,l,ns,n,_,rfl,C3.F,by omega,by show(0:Int)<(es.length:Int);omega,by show(es.length:Int)<18446744073709551616;omega,fun q n4 H4 q0 q1 hn4 F4 b4=>?_⟩
    have C4:=C3.draw b4 F4
    obtain⟨vx,hvx,hat⟩:=Z4n (xs:=es) (i:=q) q0 q1
    obtain⟨x,rfl,hx⟩:=hEn vx hvx
    refine⟨c,es,q,.str x,rfl,rfl,SqL.of (C3.F.lst b4 hE),hat,?_⟩
    refine⟨_,rfl,_,rfl,_,rfl,_,rfl,_,_,rfl,rfl,_,rfl,d,l,wd,a,i,bd,bs,ns,n4,r,z,b-1,tm,rfl,hN1,hN10,by omega,hM,ht0,ht1,by omega,by omega,C4.zero,fun v5 t5 n5 r5 z5 H5 h5 p5 c5 y1 y2 hn5 C5'=>?_⟩
    have C5:=C5'.tail C4.b2
    have hk5:=Z81 p5
    refine⟨_,rfl,_,rfl,_,rfl,_,rfl,_,rfl,_,rfl,(by show 1<=sizeLine;decide),fun c1 hc1=>?_⟩
    have sc1:=Z01 (o:=.lst [.str x]) hc1
    refine⟨bd,c1,bs.map V.str,[.str x],rfl,rfl,sc1 _ _ C5.B,Z00,by rw[length_map,length_singleton];omega,fun c2 hc2=>?_⟩
    have sc2:=Z01 (o:=.lst (bs.map V.str ++ [.str x])) hc2
    have C6:=(C5.same sc1).same sc2
    have C7:=C6.bind (b2:=c2) (bs2:=bs ++ [x]) (by rw[Z00,map_append];rfl) (by rw[length_append,length_singleton];omega) (fun t ht=>(mem_append.mp ht).elim (C6.bn t) (fun q=>by rw[mem_singleton] at q;rw[q];exact hx))
    refine⟨_,rfl,_,_,rfl,rfl,_,rfl,d,l,wd,a,i,c2,bs ++ [x],ns,n5,r5,z5,b-1,tm,rfl,hN1,hN10,by omega,hM,ht0,ht1,by omega,by rw[length_append,length_singleton];omega,C7.zero,fun v8 t8 n8 r8 z8 H8 h8 p8 c8 y3 y4 hn8 C8=>⟨(by show 4<=sizeLine;decide),fun p hp=>?_⟩⟩
    have C9:=C6.go C8.b2 C8.F C8.W
    have hv5:=IsTh.kp (C8.b2.kp C6.F C6.W) (IsTh.kp (Kp.of (sc1.trans sc2)) h5)
    have sp:=Z01 (o:=.tup [.str "let",.str x,v5,v8]) hp
    have hk8:=Z81 p8
    refine k (.ref p) (nd "let" [.str x] [t5,t8]) n8 r8 z8 _ (.tup Z00 (.cons (.at (by decide+kernel)) (.cons (.at (Z93 hx)) (.cons (IsTh.kp (Kp.of sp) hv5) (.cons (IsTh.kp (Kp.of sp) h8) .nil))))) (Znu hx p5 p8) ?_ (by omega) (by omega) (C9.same sp)
    rw[Zpn p5 p8]
    omega
   ·refine⟨_,rfl,_,rfl,_,rfl,_,rfl,_,_,rfl,rfl,_,rfl,d,l,wd,a,i,bd,bs,ns,n,r,z,b-1,tm,rfl,hN1,hN10,by omega,hM,ht0,ht1,by omega,by omega,C2.zero,fun v4 t4 n4 r4 z4 H4 h4 p4 c4 y1 y2 hn4 C4=>⟨(by show 2<=sizeLine;decide),fun p hp=>?_⟩⟩
    have sp:=Z01 (o:=.tup [.str "say",v4]) hp
    have hk:=Z81 p4
    refine k (.ref p) (nd "say" [] [t4]) n4 r4 z4 _ (.tup Z00 (.cons (.at (by decide+kernel)) (.cons (IsTh.kp (Kp.of sp) h4) .nil))) (Znt p4) ?_ (by omega) (by omega) ((C4.tail C2.b2).same sp)
    rw[Zld p4]
    omega
end
theorem Zle {S:SS}{n:Nat}{x:Str}{ks:List Th}(hS:x∈S.c)(hx:Nm x)(h5:ks.length<=6)(h:∀k∈ks,PfT S n k):PfT S (n+1) (nd "call" [.str x] ks):=
 Z73 (Nat.le_refl _) (Z1o rfl) (by decide+kernel) ⟨fun z=>z.elim (fun q=>absurd q (by decide+kernel)) (fun q=>absurd q (by decide+kernel)),fun _=>⟨x,rfl,hS⟩,fun z=>absurd z (by decide+kernel),Z1o (Zk5 hx),by decide+kernel,.call hS hx h5⟩ h5 h
theorem Zan:(["_law_feed_here","_law_world_here","_law_bound_here","_law_below","_law_times","_law_k"]:List Str).Nodup:=by decide+kernel
def Rooms (N:Nat)(r:Int)(j:Nat)(r':Int):Prop:=(j=0->r'=r)/\(1<=j -> -5*(N:Int)-((j:Int)-1)<=r')
theorem Rooms.next {N j:Nat}{r r1 r2:Int}(hN:1<=N)(h6:6<=r)(h:Rooms N r j r1)(y1:r1<=6->r2=r1-1)(y2:7<=r1 -> -5*(N:Int)<=r2):Rooms N r (j+1) r2:=by
 obtain⟨a,b⟩:=h
 refine⟨fun z=>absurd z (Nat.succ_ne_zero _),fun _=>?_⟩
 by_cases hj:j=0
 ·have:=a hj
  omega
 ·have:=b (by omega)
  omega
section
variable {S:SS}{M:Nat}{P:Program}{w:World}{K:W.Frag}{mg:Str->Option Value}{base:Heap}{g:GenF}
theorem scCalled:FnScope ["_law_feed_here","_law_world_here","_law_bound_here","_law_below","_law_times","_law_name_here","_law_many","_law_cost"] ["_law_feed_here","_law_world_here","_law_bound_here","_law_below","_law_times"] (Z04 Z4x):=.q
theorem Zgg {f fE:Addr}{fd dE:FuncData}(F:Fun K "_law_called" "_law_called" Z4x f fd)(G:Gen K mg g)(FE:Fn K mg "_law_expr" Z8t ["_law_feed_here","_law_world_here","_law_bound_here","_law_below","_law_times"] fE dE){N c:Nat}
  (GE:FnOk P w K mg base CX0 c fE dE ["_law_feed_here","_law_world_here","_law_bound_here","_law_below","_law_times"] (Zal S M N)) (hc:3<=c):
  FnOk P w K mg base CX0 (c+1) f fd ["_law_feed_here","_law_world_here","_law_bound_here","_law_below","_law_times"] (Zco S M N):=by
 have GD:FnOk P w K mg base CX0 1 g.fD g.dD ["_law_feed_here","_law_many"] spDraw:=G.gD
 have GL:FnOk P w K mg base CX0 3 g.fL g.dL ["_law_feed_here","_law_world_here","_law_bound_here"] (Z65 S M):=G.gL
 refine F.ok scCalled (fun vs H Q E h=>?_) (fun cdv A outer s H vs Q E hr h=>?_)
 ·obtain⟨d,l,wd,a,i,bd,bs,ns,n,r,z,b,tm,rfl,_⟩:=h
  rfl
 ·obtain⟨d,l,wd,a,i,bd,bs,ns,n,r,z,b,tm,rfl,hN1,hN10,hb,hM,ht0,ht1,hn,hbl,hr6,C0,k⟩:=h
  have hsz:=sizeLine_eq
  have htb:=Znr hN10
  have hu:(_:Around).units+1<cLine:=Nat.lt_of_le_of_lt (Nat.add_le_add_left (by omega) _) hr.units
  have hu0:=hr.units0
  have hr1:Room 1 _:=hr.mono (by omega)
  have hr3:Room 3 _:=hr.mono (by omega)
  refine'⟨?tt,?body,?fin⟩
  case body=>
   refine' Z0g ?s1 (Z0g ?s2 (Z05 ?s3 (Z05 ?s4 (Z05 ?s5 (Z07 ?s6)))))
   case s1=>exact Z11 (Z09 (Z6n hu0) (Z0t hu (pv 1) Z08 (fun _ _=>rfl)) (Z14 Z02) (Z0i _)) (Z07 (Z0h (Z06 GL hr3 (by rfl) G.L.m G.L.F.kp G.L.b .nil Z0f (Z0e (pv 0) (Z0e (pv 1) (Z0e (pv 2) Z02)))))) Z0k
   case s2=>exact Z9m (Z0q Z16 (Z0t hu (pv 1) Z08 (fun _ _=>rfl)) (Z06 GD hr1 (by rfl) G.U.mD G.U.D.kp G.U.bD .nil Z0f (Z0e (pv 0) (Z2h (Z0r Z0u (by rfl) G.U.T.len PySem.boot_len (Z0b (Z0t hu (pv 1) Z08 (fun _ _=>rfl)) Z02)) Z02))) (fun _ _=>rfl)) (Z4y rfl (Z17 (Z0l (i:=5) scCalled.nd rfl (Or.inl rfl)) (Z17 (Z0l (i:=6) scCalled.nd rfl (Or.inl rfl)) Z3s)))
   case s3=>exact Z0a (i:=7) scCalled.nd rfl (Or.inl rfl) (Z0m Z25 (pv 4) (Z0t hu (Z0t hu (pv 1) Z08 (fun _ _=>rfl)) (pv 5) (fun _ _=>rfl)))
   case s4=>exact Z11 (Z09 Z9p (Z0t hu (pv 1) Z08 (fun _ _=>rfl)) (Z0m Z1w (Z0m Z25 Z03 (pv 4)) (pv 7)) (Z0i _)) (Z07 (Z0h (Z06 GL hr3 (by rfl) G.L.m G.L.F.kp G.L.b .nil Z0f (Z0e (pv 0) (Z0e (pv 1) (Z0e (pv 2) Z02)))))) Z0k
   case s5=>exact Z2n hu (pv 1) Z08 (Z0m Z24 (Z0t hu (pv 1) Z08 (fun _ _=>rfl)) (pv 7)) (by rfl)
   case s6=>
    refine' Z0h (Z15 Z0w (by rfl) G.X.T.tup (by decide+kernel) (Z0b (Z0m Z2d (Z14 (Z18 Z08 (Z0e (pv 5) Z02))) ?x) Z02))
    case x=>
     refine' Z1h (N':=["_law_feed_here","_law_world_here","_law_bound_here","_law_below","_law_times","_law_k"]) (src:=[some 0,some 1,some 2,some 3,some 4,none]) ?k1 ?k5 ?k6 ?k7
     case k1=>rfl
     case k5=>exact Z0d (Z04 Z4x) rfl ["_law_feed_here","_law_world_here","_law_bound_here","_law_below","_law_times","_law_name_here","_law_many","_law_cost"] rfl (by decide+kernel)
     case k6=>exact Z2i (by rfl) G.U.T.range (Z0e (pv 6) Z02)
     case k7=>exact fun cl C ex s0 H0=>⟨Z0l (i:=5) Zan rfl (Or.inl rfl),Z1q,Z06 GE hr (by rfl) FE.m FE.F.kp FE.b .nil Z0f (Z0e (pv 0) (Z0e (pv 1) (Z0e (pv 2) (Z0b (Z0m Z24 (pv 3) Z03) (Z0e (pv 4) Z02)))))⟩
  case fin=>
   have leaf:∀H4 n4,n4<=n+1->Ctx S M H H4 d l wd a i bd bs ns n4 r z->Z65 S M [.ref d,.ref wd,.ref bd] H4 (fun v H'=>Q v H') E:=by
    intro H4 n4 h4 C4
    refine⟨d,l,wd,a,i,bd,bs,ns,n4,r,z,rfl,by omega,C4.zero,fun v t n5 H5 hv hL hn5 C5=>?_⟩
    exact k v t n5 r z H5 hv (hL.1.le (by omega)) (by have:=hL.2;omega) (by omega) (by omega) (C5.tail C4.b2)
   refine⟨fun σ' H'=>σ' = [some (.ref d),some (.ref wd),some (.ref bd),some (.int b),some (.int tm),none,none,none]/\Ctx S M H H' d l wd a i bd bs ns n r z/\0<i.fv.length,?_,?_⟩
   ·refine⟨_,rfl,wd,.ref a.fn,rfl,Z39 C0.W,Nat.zero_le _,fun q hq=>?_⟩
    have sq:=Z01 (o:=.lst []) hq
    have C1:=C0.same sq
    refine⟨a.fn,q,i.fv,rfl,rfl,SqL.of C1.N.fn,SqL.of Z00,_,rfl,Z1e (fun g=>⟨_,rfl,_,rfl,_,rfl,leaf _ n (by omega) C1⟩) (fun g=>⟨rfl,C1,?_⟩)⟩
    cases e:i.fv with
    |nil=>rw[e] at g;exact absurd rfl g
    |cons=>exact Nat.succ_pos _
   rintro σ1 H1 ⟨rfl,C1,hs0⟩
   have hf2:=C1.N.f2
   refine⟨fun σ' H'=>∃(x:Str) (m:Int) (n':Nat),σ' = [some (.ref d),some (.ref wd),some (.ref bd),some (.int b),some (.int tm),some (.str x),some (.int m),none]/\x∈S.c/\Nm x/\0<=m/\m<=6/\n'<=n+1/\Ctx S M H H' d l wd a i bd bs ns n' r z,?_,?_⟩
   ·refine⟨_,rfl,wd,.ref a.fn,rfl,Z39 C1.W,_,rfl,_,rfl,wd,.ref a.fn,rfl,Z39 C1.W,a.fn,i.fv,rfl,.inl (SqL.of C1.N.fn),d,l,ns,n,_,rfl,C1.F,by omega,by omega,by omega,fun j n2 H2 j0 j1 hn2 F2 b2=>?_⟩
    have C2:=C1.draw b2 F2
    obtain⟨vf,hvf,hat⟩:=Z4n (xs:=i.fv) (i:=j) j0 j1
    obtain⟨c,x,m,rfl,hcx,hxS,hxN,hm0,hm6⟩:=C2.N.fe vf hvf
    refine⟨a.fn,i.fv,j,.ref c,rfl,rfl,SqL.of C2.N.fn,hat,?_⟩
    exact⟨c,_,rfl,SqT.of hcx,rfl,_,_,rfl,_,_,rfl,rfl,x,m,n2,rfl,hxS,hxN,hm0,hm6,hn2,C2⟩
   clear C1 hs0 hf2
   rintro σ2 H2 ⟨x,m,n2,rfl,hxS,hxN,hm0,hm6,hn2,C2⟩
   have hg:DGet H2 a.wo (.str x) (some (.int (i.ρ x))):=by
    have:=DGet.k (k:=Sum.inr x) C2.N.wo
    rw[C2.N.wk x hxS] at this
    exact this
   refine⟨_,rfl,_,rfl,wd,.ref a.wo,rfl,Z82 C2.W,_,rfl,a.wo,_,rfl,hg,_,_,rfl,rfl,.inl ⟨by omega,by omega⟩,?_⟩
   refine⟨_,rfl,wd,.int z,rfl,Z31 C2.W,_,rfl,_,_,rfl,rfl,.inl ⟨by decide,by decide⟩,_,rfl,_,_,rfl,rfl,_,_,rfl,rfl,_,rfl,Z1e (fun g=>⟨_,rfl,_,rfl,_,rfl,leaf _ n2 hn2 C2⟩) (fun g=>?_)⟩
   refine⟨_,rfl,wd,.int z,rfl,Z31 C2.W,_,rfl,_,_,rfl,rfl,_,rfl,wd,_,rfl,Z72 C2.W,?_⟩
   have C3:=C2.put (r2:=r) (z2:=z-tm*i.ρ x)
   refine⟨_,rfl,(by show 2<=sizeLine;decide),fun h hh=>?_⟩
   have sh:=Z01 (o:=.lst [.str "call",.str x]) hh
   have C4:=C3.same sh
   have hH:upd (upd H2 wd (.dK (Z0p a r (z-tm*i.ρ x)))) h (.lst [.str "call",.str x]) h=some (.lst [.str "call",.str x]):=Z00
   generalize upd (upd H2 wd (.dK (Z0p a r (z-tm*i.ρ x)))) h (.lst [.str "call",.str x])=H4 at C4 hH
   refine⟨_,rfl,m,rfl,by omega,by omega,Z7s (lo:=0) (n:=m.toNat) (fun j ys σc H'=>∃(n':Nat) (o:Option V) (r' z':Int) (cs:List Th),σc = [some (.ref d),some (.ref wd),some (.ref bd),some (.int b),some (.int tm),o]/\Ctx S M H4 H' d l wd a i bd bs ns n' r' z'/\n'<=n2+j*cD N/\Rooms N r j r'/\IsThs H' ys cs/\cs.length=j/\(∀c∈cs,PfT S (M+N) c)/\(Z3j cs:Int)<=r-r')
    ⟨n2,none,r,_,[],rfl,C4.zero,by omega,⟨fun _=>rfl,fun q=>absurd q (by decide)⟩,.nil,rfl,(fun c hc=>by cases hc),by simp [Z3j]⟩ ?_ ?_⟩
   ·rintro j ys σc H' hj ⟨n',o,r',z',cs,rfl,C',hn',hR,hcs,hcl,hca,hcz⟩
    have hmul:j*cD N<=5*cD N:=Nat.mul_le_mul_right _ (by omega)
    have hys:=IsThs.len _ hcs
    refine⟨by omega,?_⟩
    refine⟨_,rfl,_,rfl,_,rfl,_,rfl,_,_,rfl,rfl,_,rfl,d,l,wd,a,i,bd,bs,ns,n',r',z',b-1,tm,rfl,hN1,hN10,by omega,hM,ht0,ht1,by omega,by omega,C'.zero,fun v t n5 r5 z5 H5 h5 p5 c5 y1 y2 hn5 C5=>?_⟩
    refine nx hj ⟨n5,_,r5,z5,cs ++ [t],rfl,C5.tail C'.b2,by rw[Nat.succ_mul];omega,hR.next hN1 hr6 y1 y2,IsThs.app _ (IsThs.kp (C5.b2.kp C'.F C'.W) hcs) (.cons h5 .nil),by rw[length_append,hcl];rfl,fun c hc=>?_,?_⟩
    ·rcases mem_append.mp hc with y|y
     ·exact hca c y
     ·rw[mem_singleton] at y;subst y;exact p5
    ·rw[Z4c]
     omega
   ·rintro ys σc H' ⟨n',o,r',z',cs,rfl,C',hn',hR,hcs,hcl,hca,hcz⟩ q hq
    have hys:=IsThs.len _ hcs
    have sq:=Z01 (o:=.lst ys) hq
    have D':=sq _ _ (C'.b2.kp C4.F C4.W _ _ hH (fun _ z=>by cases z))
    have hmul:m.toNat*cD N<=6*cD N:=Nat.mul_le_mul_right _ (by omega)
    refine⟨h,q,_,ys,rfl,rfl,D',Z00,by show 2+ys.length<=sizeLine;omega,fun r3 hr3=>?_⟩
    have s3:=Z01 (o:=.lst ([.str "call",.str x]++ys)) hr3
    refine⟨r3,[.str "call",.str x]++ys,rfl,.inl ⟨SqL.of Z00,fun p hp=>?_⟩⟩
    have sp:=Z01 (o:=.tup ([.str "call",.str x]++ys)) hp
    have sA:=(sq.trans s3).trans sp
    refine k (.ref p) (nd "call" [.str x] cs) n' r' z' _ (.tup Z00 (.cons (.at (by decide+kernel)) (.cons (.at (smN hxN)) (IsThs.kp (Kp.of sA) hcs)))) (Zle hxS hxN (by omega) hca) ?_ ?_ (by omega) ((C'.tail C4.b2).same sA)
    ·rw[Z2c fun k hk=>(hca k hk).isTup]
     omega
    ·obtain⟨e1,e2⟩:=hR
     by_cases hj:m.toNat=0
     ·have:=e1 hj;omega
     ·have:=e2 (by omega);omega
end
def kinds14:List Str:=["op","op","copy","pick","let","set","say","do","again","call","copy","op","leaf","let"]
abbrev signs6:Str:="+-*/<="
theorem Ziv:∀c∈signs6.cps.toList,c<200:=by decide+kernel
structure OwnOk (S:SS)(wo:Str)(own:List V)(n:Nat):Prop where
 e:HdE S wo own n
 n:wo≠"let"
 l:own.length<=1
 p:∀v∈own,plT (.at v)=true
 s:∀v∈own,smallV v=true
 t:smallV (.str wo)=true
theorem Znv {S:SS}{n:Nat}(h1:1<=n)(h6:n<=6):OwnOk S "do" [] n:=
 ⟨Zam (by decide+kernel) (by decide+kernel) (by decide+kernel) (by decide+kernel) (fun v hv=>by cases hv) (by decide+kernel) (.seq h1 h6),by decide+kernel,Nat.zero_le _,fun v hv=>(by cases hv),fun v hv=>(by cases hv),by decide+kernel⟩
theorem Ziw {S:SS}:OwnOk S "pick" [] 3:=
 ⟨Zam (by decide+kernel) (by decide+kernel) (by decide+kernel) (by decide+kernel) (fun v hv=>by cases hv) (by decide+kernel) .pick,by decide+kernel,Nat.zero_le _,fun v hv=>(by cases hv),fun v hv=>(by cases hv),by decide+kernel⟩
theorem Znw {S:SS}{c:Nat}(hc:c∈signs6.cps.toList):OwnOk S "op" [.str ⟨#[c]⟩] 2:=by
 have h:=Ziv c hc
 refine⟨Zam (by decide+kernel) (by decide+kernel) (by decide+kernel) (by decide+kernel) (Z1o ?_) (by decide+kernel) (.op hc),by decide+kernel,Nat.le_refl _,Z1o rfl,Z1o rfl,by decide+kernel⟩
 show(decide (1<=16) && [c].all fun c=>decide (c<16 ^ 8))=true
 simp only [all_cons,List.all_nil,Bool.and_true,Bool.and_eq_true,decide_eq_true_eq]
 omega
theorem Zgh {H:Hp}:∀{own:List V},(∀v∈own,smallV v=true)->IsThs H own (own.map Th.at)
 |[],_=>.nil
 |v::own,h=>.cons (.at (h v (mem_cons_self ..))) (Zgh fun u hu=>h u (mem_cons_of_mem _ hu))
section
variable {S:SS}{M:Nat}{P:Program}{w:World}{K:W.Frag}{mg:Str->Option Value}{base:Heap}{g:GenF}
theorem scExpr:FnScope ["_law_feed_here","_law_world_here","_law_bound_here","_law_below","_law_times","_law_kinds","_law_kind","_law_many","_law_head"] ["_law_feed_here","_law_world_here","_law_bound_here","_law_below","_law_times"] (Z04 Z8t):=.q
theorem Zlf {f fB fC fY:Addr}{fd dB dC dY:FuncData}(G:Gen K mg g)(FE:Fn K mg "_law_expr" Z8t ["_law_feed_here","_law_world_here","_law_bound_here","_law_below","_law_times"] f fd)(FB:Fn K mg "_law_bound" Z6w ["_law_feed_here","_law_world_here","_law_bound_here","_law_below","_law_times","_law_kind"] fB dB)
  (FC:Fn K mg "_law_called" Z4x ["_law_feed_here","_law_world_here","_law_bound_here","_law_below","_law_times"] fC dC) (FY:Fn K mg "_law_copied" Z4w ["_law_feed_here","_law_world_here","_law_bound_here","_law_below","_law_times"] fY dY):
  ∀N,FnOk P w K mg base CX0 (2*N+M+4) f fd ["_law_feed_here","_law_world_here","_law_bound_here","_law_below","_law_times"] (Zal S M N):=by
 have GD:FnOk P w K mg base CX0 1 g.fD g.dD ["_law_feed_here","_law_many"] spDraw:=G.gD
 have GL:FnOk P w K mg base CX0 3 g.fL g.dL ["_law_feed_here","_law_world_here","_law_bound_here"] (Z65 S M):=G.gL
 have GY:FnOk P w K mg base CX0 (M+4) fY dY ["_law_feed_here","_law_world_here","_law_bound_here","_law_below","_law_times"] (Zcm S M):=Zge FY.F G
 intro N
 induction N with
 |zero=>
  refine FE.F.ok scExpr (fun vs H Q E h=>?_) (fun cdv A outer s H vs Q E hr h=>?_)
  ·obtain⟨d,l,wd,a,i,bd,bs,ns,n,r,z,b,tm,rfl,_⟩:=h
   rfl
  ·obtain⟨d,l,wd,a,i,bd,bs,ns,n,r,z,b,tm,rfl,h,_⟩:=h
   exact absurd h (by decide)
 |succ N ih=>
  have GB:FnOk P w K mg base CX0 (2*N+M+4+1) fB dB ["_law_feed_here","_law_world_here","_law_bound_here","_law_below","_law_times","_law_kind"] (Zgf S M N):=Ziu FB.F G FE ih (by omega)
  have GC:FnOk P w K mg base CX0 (2*N+M+4+1) fC dC ["_law_feed_here","_law_world_here","_law_bound_here","_law_below","_law_times"] (Zco S M N):=Zgg FC.F G FE ih (by omega)
  rw[show 2*(N+1)+M+4=2*N+M+4+1+1 by omega]
  refine FE.F.ok scExpr (fun vs H Q E h=>?_) (fun cdv A outer s H vs Q E hr h=>?_)
  ·obtain⟨d,l,wd,a,i,bd,bs,ns,n,r,z,b,tm,rfl,_⟩:=h
   rfl
  ·obtain⟨d,l,wd,a,i,bd,bs,ns,n,r,z,b,tm,rfl,hN1,hN10,hb,hM,ht0,ht1,hn,hbl,C0,k⟩:=h
   have hsz:=sizeLine_eq
   have htb:=Znr hN10
   have hts:=Z94 (N:=N) (by omega)
   have htp:=Zcn (N+1)
   have hu:(_:Around).units+1<cLine:=Nat.lt_of_le_of_lt (Nat.add_le_add_left (by omega) _) hr.units
   have hu0:=hr.units0
   have hr1:Room 1 _:=hr.mono (by omega)
   have hr3:Room 3 _:=hr.mono (by omega)
   have hrY:Room (M+4) _:=hr.mono (by omega)
   have hrE:Room (2*N+M+4) _:=hr.mono (by omega)
   have ec:cD (N+1)=40+6*cD N:=rfl
   refine'⟨?tt,?body,?fin⟩
   case body=>
    refine' Z05 ?s1 ?r1
    case s1=>exact Z2n hu (pv 1) Z08 (Z0m Z24 (Z0t hu (pv 1) Z08 (fun _ _=>rfl)) Z03) (by rfl)
    case r1=>
     refine' Z05 ?s2 ?r2
     case s2=>exact Z2n hu (pv 1) Z08 (Z0m Z24 (Z0t hu (pv 1) Z08 (fun _ _=>rfl)) (pv 4)) (by rfl)
     case r2=>
      refine' Z0g ?s3 ?r3
      case s3=>
       refine' Zg4 (i:=5) ?ha ?hb ?hc ?hd ?he ?hf
       case ha=>exact scExpr.nd
       case hb=>exact rfl
       case hc=>exact(Or.inl rfl)
       case he=>exact rfl
       case hf=>exact(.inr rfl)
       case hd=>
        refine' @Z53 ((Zhv CX0 P w K mg base ["_law_feed_here","_law_world_here","_law_bound_here","_law_below","_law_times","_law_kinds","_law_kind","_law_many","_law_head"] "_law_expr" (Z04 Z8t) f cdv A outer s H E).nox) _ (kinds14.map V.str) ?q
        case q=>decide+kernel
      case r3=>
       refine' Z0g ?s4 ?r4
       case s4=>exact Z0a (i:=6) scExpr.nd rfl (Or.inl rfl) (Z0q Z16 (pv 5) (Z06 GD hr1 (by rfl) G.U.mD G.U.D.kp G.U.bD .nil Z0f (Z0e (pv 0) (Z18 Z03 Z02))) (fun _ _=>rfl))
       case r4=>
        refine' Z0g ?s5 ?r5
        case s5=>
         refine' Z11 ?c (Z07 ?b) Z0k
         case c=>exact(Z66 (Z09 Z9p (pv 3) Z03 (Z0i _)) (Z66 (Z09 Z9p (Z0t hu (pv 1) Z08 (fun _ _=>rfl)) Z03 (Z0i _)) (Z66 (Z09 Z9p (Z0t hu (pv 1) Z08 (fun _ _=>rfl)) (Z0m Z25 Z03 (pv 4)) (Z0i _)) (Z60 (Z09 Z1f (pv 6) Z08 (Z0i _)))))).pt
         case b=>exact Z0h (Z06 GL hr3 (by rfl) G.L.m G.L.F.kp G.L.b .nil Z0f (Z0e (pv 0) (Z0e (pv 1) (Z0e (pv 2) Z02))))
        case r5=>
         refine' Z05 ?s6 ?r6
         case s6=>exact Z11 (Z09 Z1f (pv 6) Z08 (Z0i _)) (Z07 (Z0h (Z06 GY hrY (by rfl) FY.m FY.F.kp FY.b .nil Z0f (Z0e (pv 0) (Z0e (pv 1) (Z0e (pv 2) (Z0e (pv 3) (Z0e (pv 4) Z02)))))))) Z0k
         case r6=>
          refine' Z05 ?s7 ?r7
          case s7=>exact Z11 (Z09 Z1f (pv 6) Z08 (Z0i _)) (Z07 (Z0h (Z06 GC hr (by rfl) FC.m FC.F.kp FC.b .nil Z0f (Z0e (pv 0) (Z0e (pv 1) (Z0e (pv 2) (Z0e (pv 3) (Z0e (pv 4) Z02)))))))) Z0k
          case r7=>
           refine' Z0g ?s8 ?r8
           case s8=>exact Z11 (Z09 Z1x (pv 6) (Z0v (Z18 Z08 (Z18 Z08 (Z18 Z08 Z02)))) (by with_unfolding_all rfl)) (Z07 (Z0h (Z06 GB hr (by rfl) FB.m FB.F.kp FB.b .nil Z0f (Z0e (pv 0) (Z0e (pv 1) (Z0e (pv 2) (Z0e (pv 3) (Z0e (pv 4) (Z0e (pv 6) Z02))))))))) Z0k
           case r8=>
            refine' Z05 ?s9 ?r9
            case s9=>
             refine' Z11 ?c (Z05 ?e1 (Z0g ?e2 (Z07 ?e3))) Z0k
             case c=>exact Z09 Z1f (pv 6) Z08 (Z0i _)
             case e1=>exact Z0a (i:=7) scExpr.nd rfl (Or.inl rfl) (Z0q Z16 (Z14 (Z18 Z03 (Z18 Z03 (Z18 Z03 (Z18 Z03 (Z18 Z03 (Z18 Z03 Z02))))))) (Z06 GD hr1 (by rfl) G.U.mD G.U.D.kp G.U.bD .nil Z0f (Z0e (pv 0) (Z18 Z03 Z02))) (fun _ _=>rfl))
             case e2=>exact Z11 (Z09 Z9p (Z0t hu (pv 1) Z08 (fun _ _=>rfl)) (Z0m Z25 (Z0m Z25 Z03 (pv 4)) (pv 7)) (Z0i _)) (Z07 (Z0a (i:=7) scExpr.nd rfl (Or.inl rfl) Z03)) Z0k
             case e3=>exact Z0h (Z0v (Z18 Z08 (Z0e (pv 7) (Z2h (Z06 ih hrE (by rfl) FE.m FE.F.kp FE.b .nil Z0f (Z0e (pv 0) (Z0e (pv 1) (Z0e (pv 2) (Z0b (Z0m Z24 (pv 3) Z03) (Z0b (Z0m Z25 (pv 4) (pv 7)) Z02)))))) Z02))))
            case r9=>
             refine' Z05 ?s10 ?r10
             case s10=>exact Z0a (i:=8) scExpr.nd rfl (Or.inl rfl) (Z14 (Z18 Z08 Z02))
             case r10=>
              refine' Z0g ?s11 ?r11
              case s11=>exact Z0a (i:=7) scExpr.nd rfl (Or.inl rfl) (Z0q Z16 (Z14 (Z18 Z03 (Z18 Z03 (Z18 Z03 (Z18 Z03 (Z18 Z03 (Z18 Z03 Z02))))))) (Z06 GD hr1 (by rfl) G.U.mD G.U.D.kp G.U.bD .nil Z0f (Z0e (pv 0) (Z18 Z03 Z02))) (fun _ _=>rfl))
              case r11=>
               refine' Z0g ?s12 ?r12
               case s12=>exact Z11 (Z09 Z1f (pv 6) Z08 (Z0i _)) (Z05 (Z0a (i:=8) scExpr.nd rfl (Or.inl rfl) (Z14 (Z18 Z08 Z02))) (Z07 (Z0a (i:=7) scExpr.nd rfl (Or.inl rfl) Z03))) Z0k
               case r12=>
                refine' Z0g ?s13 ?r13
                case s13=>exact Z11 (Z09 Z1f (pv 6) Z08 (Z0i _)) (Z05 (Z0a (i:=8) scExpr.nd rfl (Or.inl rfl) (Z14 (Z18 Z08 (Z0b (Z0q Zc2 Z08 (Z06 GD hr1 (by rfl) G.U.mD G.U.D.kp G.U.bD .nil Z0f (Z0e (pv 0) (Z18 Z03 Z02))) (fun _ _=>rfl)) Z02)))) (Z07 (Z0a (i:=7) scExpr.nd rfl (Or.inl rfl) Z03))) Z0k
                case r13=>
                 refine' Z07 ?s14
                 case s14=>
                  refine' Z0h (Z15 Z0w (by rfl) G.X.T.tup (by decide+kernel) (Z0b (Z0m Z2d (pv 8) ?x) Z02))
                  case x=>
                   refine' Z1h (N':=["_law_feed_here","_law_world_here","_law_bound_here","_law_below","_law_times","_law_k"]) (src:=[some 0,some 1,some 2,some 3,some 4,none]) ?k1 ?k5 ?k6 ?k7
                   case k1=>rfl
                   case k5=>exact Z0d (Z04 Z8t) rfl ["_law_feed_here","_law_world_here","_law_bound_here","_law_below","_law_times","_law_kinds","_law_kind","_law_many","_law_head"] rfl (by decide+kernel)
                   case k6=>exact Z2i (by rfl) G.U.T.range (Z0e (pv 7) Z02)
                   case k7=>exact fun cl C ex s0 H0=>⟨Z0l (i:=5) Zan rfl (Or.inl rfl),Z1q,Z06 ih hrE (by rfl) FE.m FE.F.kp FE.b .nil Z0f (Z0e (pv 0) (Z0e (pv 1) (Z0e (pv 2) (Z0b (Z0m Z24 (pv 3) Z03) (Z0e (pv 4) Z02)))))⟩
   case fin=>
    refine⟨_,rfl,wd,.int r,rfl,Z5f C0.W,_,_,rfl,rfl,_,rfl,wd,_,rfl,Z71 C0.W,?_⟩
    have C1:=C0.put (r2:=r-1) (z2:=z)
    refine⟨_,rfl,wd,.int z,rfl,Z31 C1.W,_,rfl,_,_,rfl,rfl,_,rfl,wd,_,rfl,Z72 C1.W,?_⟩
    have C2:=C1.put (r2:=r-1) (z2:=z-tm)
    revert C2
    generalize z-tm=z2
    intro C2
    have leaf:∀H4 n4,n4<=n+1->Ctx S M H H4 d l wd a i bd bs ns n4 (r-1) z2->Z65 S M [.ref d,.ref wd,.ref bd] H4 (fun v H'=>Q v H') E:=by
     intro H4 n4 h4 C4
     refine⟨d,l,wd,a,i,bd,bs,ns,n4,r-1,z2,rfl,by omega,C4.zero,fun v t n5 H5 hv hL hn5 C5=>?_⟩
     exact k v t n5 (r-1) z2 H5 hv (hL.1.le (by omega)) (by have:=hL.2;omega) (fun _=>rfl) (by omega) (by omega) (C5.tail C4.b2)
    refine⟨fun σ' H'=>∃ka,σ' = [some (.ref d),some (.ref wd),some (.ref bd),some (.int b),some (.int tm),some (.ref ka),none,none,none]/\H' ka=some (.lst (kinds14.map V.str))/\Ctx S M H H' d l wd a i bd bs ns n (r-1) z2,?_,?_⟩
    ·refine⟨Z5c (by decide+kernel),fun ka hka=>⟨ka,rfl,Z00,C2.same (Z01 hka)⟩⟩
    clear C0 C1 C2
    rintro σ3 H3 ⟨ka,rfl,K3,C3⟩
    refine⟨fun σ' H'=>∃kd n',σ' = [some (.ref d),some (.ref wd),some (.ref bd),some (.int b),some (.int tm),some (.ref ka),some (.str kd),none,none]/\n'<=n+1/\Ctx S M H H' d l wd a i bd bs ns n' (r-1) z2,?_,?_⟩
    ·refine⟨_,rfl,_,rfl,d,l,ns,n,_,rfl,C3.F,by omega,by decide,by decide,fun q n4 H4 q0 q1 hn4 F4 b4=>?_⟩
     obtain⟨v,hv,hat⟩:=Z4n (xs:=kinds14.map V.str) (i:=q) q0 (Int.lt_of_lt_of_le q1 (by decide+kernel))
     obtain⟨kd,_,rfl⟩:=mem_map.mp hv
     exact⟨ka,kinds14.map V.str,q,.str kd,rfl,rfl,SqL.of (C3.F.lst b4 K3),hat,kd,n4,rfl,hn4,C3.draw b4 F4⟩
    clear K3 C3
    rintro σ4 H4 ⟨kd,n4,rfl,hn4,C4⟩
    refine⟨fun σ' H'=>σ' = [some (.ref d),some (.ref wd),some (.ref bd),some (.int b),some (.int tm),some (.ref ka),some (.str kd),none,none]/\H'=H4/\1<=N/\7<=r,?_,?_⟩
    ·refine⟨_,rfl,_,_,rfl,rfl,_,rfl,Z1e (fun g=>Zc7 ⟨_,rfl,_,rfl,_,rfl,leaf _ n4 hn4 C4⟩) (fun g1=>?_)⟩
     refine⟨_,rfl,wd,.int (r-1),rfl,Z5f C4.W,_,_,rfl,rfl,_,rfl,Z1e (fun g=>Zc7 ⟨_,rfl,_,rfl,_,rfl,leaf _ n4 hn4 C4⟩) (fun g2=>?_)⟩
     refine⟨_,rfl,wd,.int z2,rfl,Z31 C4.W,_,rfl,_,_,rfl,rfl,.inl ⟨by decide,by decide⟩,_,_,rfl,rfl,_,rfl,Z1e (fun g=>Zc7 ⟨_,rfl,_,rfl,_,rfl,leaf _ n4 hn4 C4⟩) (fun g3=>?_)⟩
     rw[decide_eq_true_iff] at g1 g2
     refine⟨_,rfl,rfl,_,rfl,Z1e (fun g=>⟨_,rfl,_,rfl,_,rfl,leaf _ n4 hn4 C4⟩) (fun g4=>⟨rfl,rfl,by omega,by omega⟩)⟩
    rintro σ5 H5 ⟨rfl,rfl,hN,hr7⟩
    refine⟨_,rfl,rfl,_,rfl,Z1e (fun g=>?_) (fun g=>?_)⟩
    ·refine⟨_,rfl,_,rfl,_,rfl,_,rfl,_,rfl,d,l,wd,a,i,bd,bs,ns,n4,r-1,z2,b,tm,rfl,by omega,hM,ht0,by omega,by omega,C4.zero,fun v t n5 r5 z5 H5 h5 p5 c5 y1 hn5 C5=>?_⟩
     exact k v t n5 r5 z5 H5 h5 (p5.le (by omega)) (by omega) (by omega) (by omega) (by omega) (C5.tail C4.b2)
    refine⟨_,rfl,rfl,_,rfl,Z1e (fun g=>?_) (fun g=>?_)⟩
    ·refine⟨_,rfl,_,rfl,_,rfl,_,rfl,_,rfl,d,l,wd,a,i,bd,bs,ns,n4,r-1,z2,b,tm,rfl,hN,by omega,by omega,hM,ht0,by omega,by omega,by omega,by omega,C4.zero,fun v t n5 r5 z5 H5 h5 p5 c5 y1 hn5 C5=>?_⟩
     exact k v t n5 r5 z5 H5 h5 p5 (by omega) (by omega) (by omega) (by omega) (C5.tail C4.b2)
    refine⟨fun σ' H'=>σ' = [some (.ref d),some (.ref wd),some (.ref bd),some (.int b),some (.int tm),some (.ref ka),some (.str kd),none,none]/\Ctx S M H H' d l wd a i bd bs ns n4 (r-1) z2,?_,?_⟩
    ·refine⟨_,rfl,(by show 3<=sizeLine;decide),fun c hc=>?_⟩
     have sc:=Z01 (o:=.tup [.str "let",.str "set",.str "say"]) hc
     have C5:=C4.same sc
     refine⟨c,[.str "let",.str "set",.str "say"],rfl,.inr (SqT.of Z00),rfl,by decide+kernel,_,rfl,Z1e (fun g=>?_) (fun g=>⟨rfl,C5⟩)⟩
     refine⟨_,rfl,_,rfl,_,rfl,_,rfl,_,rfl,_,rfl,d,l,wd,a,i,bd,bs,ns,n4,r-1,z2,b,tm,kd,rfl,hN,by omega,by omega,hM,ht0,by omega,by omega,by omega,by omega,C5.zero,fun v t n6 r6 z6 H6 h6 p6 c6 y1 hn6 C6=>?_⟩
     exact k v t n6 r6 z6 H6 h6 p6 (by omega) (by omega) (by omega) (by omega) (C6.tail C5.b2)
    clear C4
    rintro σ8 H8 ⟨rfl,C8⟩
    refine⟨_,rfl,rfl,_,rfl,Z1e (fun g=>?_) (fun g=>?_)⟩
    ·refine⟨(by show 6<=sizeLine;decide),fun c hc=>?_⟩
     have sc:=Z01 (o:=.lst [.int 2,.int 3,.int 0,.int 1,.int 5,.int 2]) hc
     have C9:=C8.same sc
     refine⟨_,rfl,d,l,ns,n4,_,rfl,C9.F,by omega,by decide,by decide,fun q n10 H10 q0 q1 hn10 F10 b10=>?_⟩
     have C10:=C9.draw b10 F10
     obtain⟨v,hv,hat⟩:=Z4n (xs:=[V.int 2,.int 3,.int 0,.int 1,.int 5,.int 2]) (i:=q) q0 (Int.lt_of_lt_of_le q1 (by decide))
     obtain⟨mn,rfl,hm0,hm5⟩:∃mn:Int,v = .int mn/\0<=mn/\mn<=5:=by
      simp only [mem_cons,not_mem_nil,or_false] at hv
      rcases hv with rfl|rfl|rfl|rfl|rfl|rfl <;> exact⟨_,rfl,by decide,by decide⟩
     refine⟨c,_,q,.int mn,rfl,rfl,SqL.of (C9.F.lst b10 Z00),hat,?_⟩
     refine⟨fun σ' H'=>∃mn:Int,σ' = [some (.ref d),some (.ref wd),some (.ref bd),some (.int b),some (.int tm),some (.ref ka),some (.str kd),some (.int mn),none]/\H'=H10/\0<=mn/\mn<=5,?_,?_⟩
     ·refine⟨_,rfl,wd,.int z2,rfl,Z31 C10.W,_,rfl,_,_,rfl,rfl,.inl ⟨by decide,by decide⟩,_,rfl,_,_,rfl,rfl,.inr ⟨by omega,by omega⟩,_,_,rfl,rfl,_,rfl,Z1e (fun g=>⟨1,rfl,rfl,by decide,by decide⟩) (fun g=>⟨mn,rfl,rfl,hm0,hm5⟩)⟩
     clear hat hv hm0 hm5
     rintro σ11 H11 ⟨mn,rfl,rfl,hm0,hm5⟩
     have hp0:0<=tm*mn:=Int.mul_nonneg ht0 hm0
     have hp1:tm*mn<=tm*5:=Int.mul_le_mul_of_nonneg_left hm5 ht0
     refine⟨_,rfl,_,rfl,_,rfl,_,rfl,_,rfl,_,_,rfl,rfl,_,rfl,_,rfl,_,_,rfl,rfl,.inr ⟨by omega,by omega⟩,d,l,wd,a,i,bd,bs,ns,n10,r-1,z2,b-1,tm*mn,rfl,hN,by omega,by omega,hM,hp0,by omega,by omega,by omega,C10.zero,fun v t n12 r12 z12 H12 h12 p12 c12 y1 y2 hn12 C12=>⟨(by show 3<=sizeLine;decide),fun p hp=>?_⟩⟩
     have sp:=Z01 (o:=.tup [.str "again",.int mn,v]) hp
     have hk:=Z81 p12
     refine k (.ref p) (nd "again" [.int mn] [t]) n12 r12 z12 _ (.tup Z00 (.cons (.at (by decide+kernel)) (.cons (.at rfl) (.cons (IsTh.kp (Kp.of sp) h12) .nil)))) (Zit hm0 hm5 p12) ?_ (by omega) (by omega) (by omega) ((C12.tail C10.b2).same sp)
     rw[Zld p12]
     omega
    ·refine⟨(by show 1<=sizeLine;decide),fun h0 hh0=>?_⟩
     have sh:=Z01 (o:=.lst [.str "do"]) hh0
     have C9:=C8.same sh
     let Mh:St->Hp->Prop:=fun σ' H'=>∃(h:Addr) (wo:Str) (own:List V) (mn:Int) (n':Nat),σ' = [some (.ref d),some (.ref wd),some (.ref bd),some (.int b),some (.int tm),some (.ref ka),some (.str kd),some (.int mn),some (.ref h)]/\H' h=some (.lst (.str wo::own))/\OwnOk S wo own mn.toNat/\1<=mn/\mn<=6/\n'<=n+2/\Ctx S M H H' d l wd a i bd bs ns n' (r-1) z2
     refine⟨Mh,?_,?_⟩
     ·refine⟨(by show 6<=sizeLine;decide),fun c hc=>?_⟩
      have sc:=Z01 (o:=.lst [.int 2,.int 3,.int 1,.int 2,.int 4,.int 6]) hc
      have C10:=C9.same sc
      refine⟨_,rfl,d,l,ns,n4,_,rfl,C10.F,by omega,by decide,by decide,fun q n11 H11 q0 q1 hn11 F11 b11=>?_⟩
      obtain⟨v,hv,hat⟩:=Z4n (xs:=[V.int 2,.int 3,.int 1,.int 2,.int 4,.int 6]) (i:=q) q0 (Int.lt_of_lt_of_le q1 (by decide))
      obtain⟨mn,rfl,hm0,hm5⟩:∃mn:Int,v = .int mn/\1<=mn/\mn<=6:=by
       simp only [mem_cons,not_mem_nil,or_false] at hv
       rcases hv with rfl|rfl|rfl|rfl|rfl|rfl <;> exact⟨_,rfl,by decide,by decide⟩
      exact⟨c,_,q,.int mn,rfl,rfl,SqL.of (C10.F.lst b11 Z00),hat,h0,"do",[],mn,n11,rfl,C10.F.lst b11 (sc _ _ Z00),Znv (by omega) (by omega),hm0,hm5,by omega,C10.draw b11 F11⟩
     clear C8 C9 sh hh0
     rintro σ11 H11 ⟨h,wo,own,mn,n11,rfl,hh,hO,hm1,hm6,hn11,C11⟩
     refine⟨Mh,?_,?_⟩
     ·refine⟨_,rfl,rfl,_,rfl,Z1e (fun g=>?_) (fun g=>⟨h,wo,own,mn,n11,rfl,hh,hO,hm1,hm6,hn11,C11⟩)⟩
      refine⟨(by show 1<=sizeLine;decide),fun h2 hh2=>?_⟩
      exact⟨h2,"pick",[],3,n11,rfl,Z00,Ziw,by decide,by decide,hn11,C11.same (Z01 hh2)⟩
     clear hh hO hm1 hm6 hn11 C11
     rintro σ12 H12 ⟨h,wo,own,mn,n12,rfl,hh,hO,hm1,hm6,hn12,C12⟩
     refine⟨fun σ' H'=>∃(h:Addr) (wo:Str) (own:List V) (mn:Int) (n':Nat),σ' = [some (.ref d),some (.ref wd),some (.ref bd),some (.int b),some (.int tm),some (.ref ka),some (.str kd),some (.int mn),some (.ref h)]/\H' h=some (.lst (.str wo::own))/\OwnOk S wo own mn.toNat/\1<=mn/\mn<=6/\n'<=n+3/\Ctx S M H H' d l wd a i bd bs ns n' (r-1) z2,?_,?_⟩
     ·refine⟨_,rfl,rfl,_,rfl,Z1e (fun g=>?_) (fun g=>⟨h,wo,own,mn,n12,rfl,hh,hO,hm1,hm6,by omega,C12⟩)⟩
      refine⟨_,rfl,d,l,ns,n12,_,rfl,C12.F,by omega,by decide,by decide,fun q n13 H13 q0 q1 hn13 F13 b13=>?_⟩
      obtain⟨c,hc,hat⟩:=Z4n (xs:=signs6.cps.toList) (i:=q) q0 (Int.lt_of_lt_of_le q1 (by decide+kernel))
      have C13:=C12.draw b13 F13
      refine⟨signs6,q,c,rfl,rfl,(by decide+kernel),hat,(by show 2<=sizeLine;decide),fun h2 hh2=>?_⟩
      exact⟨h2,"op",[.str ⟨#[c]⟩],2,n13,rfl,Z00,Znw hc,by decide,by decide,by omega,C13.same (Z01 hh2)⟩
     clear hh hO hm1 hm6 hn12 C12
     rintro σ14 H14 ⟨h,wo,own,mn,n14,rfl,hh,hO,hm1,hm6,hn14,C14⟩
     have hol:=hO.l
     refine⟨_,rfl,_,rfl,mn,rfl,by omega,by omega,Z7s (lo:=0) (n:=mn.toNat) (fun j ys σc H'=>∃(n':Nat) (o:Option V) (r' z':Int) (cs:List Th),σc = [some (.ref d),some (.ref wd),some (.ref bd),some (.int b),some (.int tm),o]/\Ctx S M H14 H' d l wd a i bd bs ns n' r' z'/\n'<=n14+j*cD N/\Rooms N (r-1) j r'/\IsThs H' ys cs/\cs.length=j/\(∀c∈cs,PfT S (M+N) c)/\(Z3j cs:Int)<=r-1-r')
      ⟨n14,none,r-1,z2,[],rfl,C14.zero,by omega,⟨fun _=>rfl,fun q=>absurd q (by decide)⟩,.nil,rfl,(fun c hc=>by cases hc),by simp [Z3j]⟩ ?_ ?_⟩
     ·rintro j ys σc H' hj ⟨n',o,r',z',cs,rfl,C',hn',hR,hcs,hcl,hca,hcz⟩
      have hmul:j*cD N<=5*cD N:=Nat.mul_le_mul_right _ (by omega)
      have hys:=IsThs.len _ hcs
      refine⟨by omega,?_⟩
      refine⟨_,rfl,_,rfl,_,rfl,_,rfl,_,_,rfl,rfl,_,rfl,d,l,wd,a,i,bd,bs,ns,n',r',z',b-1,tm,rfl,hN,by omega,by omega,hM,ht0,by omega,by omega,by omega,C'.zero,fun v t n5 r5 z5 H5 h5 p5 c5 y1 y2 hn5 C5=>?_⟩
      refine nx hj ⟨n5,_,r5,z5,cs ++ [t],rfl,C5.tail C'.b2,by rw[Nat.succ_mul];omega,hR.next hN (by omega) y1 y2,IsThs.app _ (IsThs.kp (C5.b2.kp C'.F C'.W) hcs) (.cons h5 .nil),by rw[length_append,hcl];rfl,fun c hc=>?_,?_⟩
      ·rcases mem_append.mp hc with y|y
       ·exact hca c y
       ·rw[mem_singleton] at y;subst y;exact p5
      ·rw[Z4c]
       omega
     ·rintro ys σc H' ⟨n',o,r',z',cs,rfl,C',hn',hR,hcs,hcl,hca,hcz⟩ q hq
      have hys:=IsThs.len _ hcs
      have sq:=Z01 (o:=.lst ys) hq
      have D':=sq _ _ (C'.b2.kp C14.F C14.W _ _ hh (fun _ z=>by cases z))
      have hmul:mn.toNat*cD N<=6*cD N:=Nat.mul_le_mul_right _ (by omega)
      refine⟨h,q,_,ys,rfl,rfl,D',Z00,by rw[length_cons];omega,fun r3 hr3=>?_⟩
      have s3:=Z01 (o:=.lst (.str wo::own++ys)) hr3
      refine⟨r3,.str wo::own++ys,rfl,.inl ⟨SqL.of Z00,fun p hp=>?_⟩⟩
      have sp:=Z01 (o:=.tup (.str wo::own++ys)) hp
      have sA:=(sq.trans s3).trans sp
      refine k (.ref p) (nd wo own cs) n' r' z' _ (.tup Z00 (.cons (.at hO.t) (IsThs.app _ (Zgh hO.s) (IsThs.kp (Kp.of sA) hcs)))) (Z73 hO.l hO.p hO.n (by rw[hcl];exact hO.e) (by omega) hca) ?_ (by omega) ?_ (by omega) ((C'.tail C14.b2).same sA)
      ·rw[Z2c fun k hk=>(hca k hk).isTup]
       omega
      ·intro _
       have:=hR.2 (by omega)
       omega
end
end K36
namespace L2
open PySem PySem.Spec PyProof.Rows
section
variable {X:Cx}
theorem Zao:Z4t X (.type "dict") (fun xs H Q=>∃(p:Addr) (kvs:List (Key×V)),xs = [.ref p]/\H p=some (.dK kvs)/\∀a,H a=none->Q (.ref a) (upd H a (.dK kvs))):=by
 intro pins s σ H xs us Q I r h
 obtain⟨p,kvs,rfl,hp,q⟩:=h
 obtain⟨u,rfl,rx⟩:=Z7f r
 cases rx
 exact Zi1 I (Rd.of hp) fun a s' ha I'=>⟨.ref a,_,I',rfl,q a ha⟩
end
end L2
namespace K36
open PySem L2
structure ExpF where
 g:GenF
 fE:Addr
 fB:Addr
 fC:Addr
 fY:Addr
 dE:FuncData
 dB:FuncData
 dC:FuncData
 dY:FuncData
structure Exp (K:W.Frag)(mg:Str->Option Value)(x:ExpF):Prop where
 G:Gen K mg x.g
 E:Fn K mg "_law_expr" Z8t ["_law_feed_here","_law_world_here","_law_bound_here","_law_below","_law_times"] x.fE x.dE
 B:Fn K mg "_law_bound" Z6w ["_law_feed_here","_law_world_here","_law_bound_here","_law_below","_law_times","_law_kind"] x.fB x.dB
 C:Fn K mg "_law_called" Z4x ["_law_feed_here","_law_world_here","_law_bound_here","_law_below","_law_times"] x.fC x.dC
 Y:Fn K mg "_law_copied" Z4w ["_law_feed_here","_law_world_here","_law_bound_here","_law_below","_law_times"] x.fY x.dY
 dict:mg "dict"=none
theorem cD4:cD 4=10360:=by decide+kernel
section
variable {S:SS}{P:Program}{w:World}{K:W.Frag}{mg:Str->Option Value}{base:Heap}{x:ExpF}
theorem Exp.gE {M:Nat}(G:Exp K mg x)(N:Nat):FnOk P w K mg base CX0 (2*N+M+4) x.fE x.dE ["_law_feed_here","_law_world_here","_law_bound_here","_law_below","_law_times"] (Zal S M N):=Zlf G.G G.E G.B G.C G.Y N
end
end K36
namespace L2
open PySem PySem.Spec PyProof.Rows
section
variable {prog:Program}{w:World}{A:Around}{E:Value->Shared->Prop}{s:Shared}
theorem Zbg {a n:Nat}(ha:a<=n):sliceBounds (some (a:Int)) none none n=((a:Int),(n:Int),1):=by
 simp only [sliceBounds,Option.getD_none]
 have h1:¬ ((a:Int)<0):=by omega
 simp only [h1,if_false,show(1:Int)>0 by decide,if_true]
 congr 1
 ·omega
theorem Zgi:∀(xs:List Value) (b:Nat) (p:Nat->Bool) (a:Nat),(∀k,b<=k->k<b+xs.length->p k=decide (a<=k))->((xs.zipIdx b).filterMap fun x=>if p x.snd=true then none else some x.fst)=xs.take (a-b):=by
 intro xs
 induction xs with
 |nil=>intro b p a _;simp
 |cons x xs ih=>
  intro b p a h
  have h0:=h b (Nat.le_refl _) (by rw[length_cons];omega)
  have h1:=ih (b+1) p a (fun k h1 h2=>h k (by omega) (by rw[length_cons];omega))
  rw[List.zipIdx_cons]
  by_cases ha:a<=b
  ·rw[List.filterMap_cons_none (by simp [h0,ha]),h1,show a-(b+1)=0 by omega,show a-b=0 by omega]
   simp
  ·rw[List.filterMap_cons_some (b:=x) (by simp [h0,ha]),h1,show a-b=(a-(b+1))+1 by omega]
   simp
theorem Zgj (items:Array Value)(a:Nat)(p:Nat->Bool)(h:∀k,k<items.size->p k=decide (a<=k)):(items.toList.zipIdx.filterMap fun x=>if p x.snd=true then none else some x.fst).toArray=(items.toList.take a).toArray:=by
 rw[Zgi items.toList 0 p a (fun k _ hk=>h k (by rw[Array.length_toList] at hk;omega)),Nat.sub_zero]
theorem Z95 {l sl:Addr}{items:Array Value}{n:Nat}{vl:Value}{a:Nat}{Q:Unit->Shared->Prop}
  (e:s.heap.get? l=some { cls:=.type "list",data:=.seq items n })
  (hs:s.heap.IsSliceOf sl vl .none .none) (pl:IsPart vl (some (a:Int))) (ha:a<=items.size)
  (hsz:items.size<=sizeLine) (h:∀f:Array Value->Array Value,f items=(items.toList.take a).toArray->Q () { s with heap:=s.heap.update l (Obj.mapSeq f) }):
  wpAny (model prog w) A (delItem (.ref l) (.ref sl)) Q E s:=by
 have hl:s.heap.IsList l items:=PySem.IsL.isList e
 obtain⟨os,hos,hcs,hds⟩:=id hs
 have hTs:s.TypeIs (.ref sl) "slice":=⟨os,hos,hcs⟩
 have hstep:¬ ((rawPart none==rawInt 0)=true):=Bool.false_ne_true
 refine wpAny_delItem_slot hl.typeIs (by decide) PySem.F.slot_list_delitem (wpAny_call_entry PySem.F.slot_list_delitem hl.typeIs PySem.F.entry_list_delitem ?_ (PySem.F.args_list_delitem_2 _ _))
 show wpAny _ _ (Builtin.List.listSubscript? (.ref sl) >>= _) _ _ s
 refine wpAny_bind ?_
 unfold Builtin.List.listSubscript?
 refine wpAny_bind (wpAny_specialOf hTs slice_no_index ?_)
 simp only [Option.isNone_none,if_true]
 refine wpAny_pure ?_
 show wpAny _ _ (typeOf (.ref sl) >>= _) _ _ s
 refine wpAny_bind (wpAny_typeOf hTs ?_)
 first
  |rw[if_neg (by decide)]
  |refine PySem.W.KFB.if_not (by decide) ?_
 rw[listSliceParts_eq]
 refine wpAny_bind (wpAny_bind (wpAny_field hos hds (x:=.none) rfl (wpAny_bind (wpAny_listPart .none ?_))))
 rw[if_neg hstep]
 refine wpAny_bind (wpAny_field hos hds (x:=vl) rfl (wpAny_bind (wpAny_listPart pl ?_)))
 refine wpAny_bind (wpAny_field hos hds (x:=.none) rfl (wpAny_bind (wpAny_listPart .none (wpAny_pure ?_))))
 unfold Builtin.List.listItems
 refine wpAny_bind (wpAny_bind (wpAny_seqItems e rfl (wpAny_pure ?_)))
 refine wpAny_bind (wpAny_of_eq ((sliceIndices_raw (some (a:Int)) none none items.size (by simp)).trans (congrArg (pure:Int×Int×Int->Sem (Int×Int×Int)) (Zbg ha))) ?_)
 refine wpAny_bind (wpAny_rule ?_)
 have key:∀k,k<items.size->(if (1:Int)>0 then decide ((a:Int)<=k)&&decide ((k:Int)<(items.size:Int))&&((k:Int)-a) % 1==0 else decide ((items.size:Int)<k)&&decide ((k:Int)<=a)&&((a:Int)-k) % (-1)==0)=decide (a<=k):=by
  intro k hk
  rw[if_pos (by decide)]
  have h1:decide ((k:Int)<(items.size:Int))=true:=decide_eq_true (by omega)
  have h2:(((k:Int)-a) % 1==0)=true:=by rw[Int.emod_one];rfl
  rw[h1,h2,Bool.and_true,Bool.and_true]
  exact decide_eq_decide.mpr (by omega)
 have key2:=Zgj items a _ key
 refine wpAny_bind (wpAny_updateSeq (hz:=hsz) (_hz':=?_) e rfl ?_)
 ·refine wpAny_bind (wpAny_letGo ?_)
  first
   |exact wpAny_pure ⟨.none,rfl,h _ key2⟩
   |exact wpAny_bind (wpAny_pure (wpAny_pure ⟨.none,rfl,h _ key2⟩))
   |exact wpAny_bind (wpAny_pure (wpAny_pure ⟨.none,rfl,wpAny_pure (h _ key2)⟩))
 ·refine Nat.le_trans (Nat.le_of_eq (congrArg Array.size key2)) ?_
  rw[size_toArray,length_take,Array.length_toList]
  omega
end
section
variable {X:Cx}
theorem Zgk {pins:List (Addr×Obj)}{s:Shared}{σ:St}{H:Hp}{l sl:Addr}{xs:List V}{a:Int}{vl:Value}{Q:Unit->Shared->Prop}(I:Inv X pins σ H s)
  (hH:H l=some (.lst xs)) (hs:s.heap.IsSliceOf sl vl .none .none) (ra:IsPart vl (some a)) (h0:0<=a) (hc:a<=xs.length)
  (h:∀s',Inv X pins σ (upd H l (.lst (xs.take a.toNat))) s'->Q () s'):
  wpAny (model X.prog X.w) X.A (delItem (.ref l) (.ref sl)) Q X.xe s:=by
 obtain⟨z,its,n,r,hl,e⟩:=I.lstM hH
 obtain⟨a',rfl⟩:=Int.eq_ofNat_of_zero_le h0
 simp only [Int.toNat_natCast] at h
 refine Z95 (a:=a') e hs ra (by rw[size_toArray];omega) (by rw[size_toArray];omega) (fun f hf=>h _ ?_)
 refine I.lset (its':=its.take a') (t':=s.toks) hH e hf (r.take _) ?_
 rw[length_take]
 omega
def Zix (te:TE)(tl:TO):TS:=fun D σ H=>te σ H fun x H1=>tl σ H1 fun lo H2=>∃(l:Addr) (xs:List V) (a:Int),x = .ref l/\lo=some a/\H2 l=some (.lst xs)/\0<=a/\a<=xs.length/\D.nx σ (upd H2 l (.lst (xs.take a.toNat)))
theorem Zea {o:Expr}{lo:Option Expr}{te:TE}{tl:TO}{p2 tpos pos:Pos}(ho:PE X o te)(hl:PO X lo tl):PS X (.Delete [.Subscript o (.Slice lo none none p2) tpos] pos) (Zix te tl):=by
 intro pins s σ H D I h
 refine wpAny_Delete (wpAny_deleteEach_cons (wpAny_delete_Subscript (thn (ho pins s σ H _ I h) fun u s1 ⟨x,H1,I1,rx,q1⟩=>?_)))
 refine wpAny_Slice (thn (hl pins s1 σ H1 _ I1 q1) fun vl s2 ⟨l,H2,I2,pl,q2⟩=>?_)
 rw[evalPart_none]
 refine wpAny_pure (wpAny_pure ?_)
 obtain⟨la,xs,a,rfl,rfl,hH,h0,hc,q3⟩:=q2
 obtain rfl:u=Value.ref la:=rx
 have I4:Inv X pins σ H2 { s2 with heap:=s2.heap.push { cls:=.type "slice",data:=.fields #[vl,.none,.none] } }:=I2.kept (t':=s2.toks) fun b ob q=>Heap.get?_push_of_some _ q
 exact Zgk I4 hH (Heap.IsSliceOf.new ..) pl h0 hc fun s5 I5=>wpAny_deleteEach_nil ⟨σ,_,I5,q3⟩
end
end L2
namespace K36
open PySem L2
inductive spParts_ (vs:List V)(H:Hp)(Q:VK):Prop
 |mk (H0:Hp) (v:V) (ts:List Th) (_:vs = [v]) (_:Same H0 H) (_:IsTh H0 v (.tup ts)) (_:ts.length<=1000000) (_:∀(p:Addr) (ws:List V) H',Same H H'->H' p=some (.tup ws)->IsThs H0 ws (Z1a ts)->Q (.ref p) H'):spParts_ vs H Q
def spParts:Sp:=fun vs H Q _=>spParts_ vs H Q
inductive spHead_ (vs:List V)(H:Hp)(Q:VK):Prop
 |mk (H0:Hp) (v:V) (ts:List Th) (_:vs = [v]) (_:Same H0 H) (_:IsTh H0 v (.tup ts)) (_:ts.length<=1000000) (_:∀(p:Addr) (ws:List V) H',Same H H'->H' p=some (.tup ws)->IsThs H0 ws (Ze6 ts)->Q (.ref p) H'):spHead_ vs H Q
def spHead:Sp:=fun vs H Q _=>spHead_ vs H Q
section
variable {P:Program}{w:World}{K:W.Frag}{mg:Str->Option Value}{base:Heap}
theorem Zlg:FnScope ["e"] ["e"] (Z04 Z64):=.q
theorem Zcp {f:Addr}{fd:FuncData}(F:Fun K "parts" "parts" Z64 f fd)(T:TxtT mg)(KI:Kits K):FnOk P w K mg base CX0 1 f fd ["e"] spParts:=by
 refine F.ok Zlg (fun vs H Q E h=>?_) (fun cdv A outer s H vs Q E hr h=>?_)
 ·obtain⟨H0,v,ts,rfl,_⟩:=h
  rfl
 ·obtain⟨H0,v,ts,rfl,s0,hv,hz,k⟩:=h
  refine⟨_,Z07 (Z0h (Z15 Z0w (by rfl) T.tup (by decide+kernel) (Z0b (Z1h (N':=["part"]) (src:=[none]) rfl (Z0d (Z04 Z64) rfl ["e"] rfl (by decide+kernel)) (Z61 (pv 0))
   (fun cl C ex s0' H0'=>⟨Z0l (i:=0) (nd1 _) rfl (Or.inl rfl),Z37 (Z5z (Z0r (id:="isinstance") (Z35 (K:=K) rfl) (by rfl) T.isi (by decide+kernel) (Z0e (pv 0) (Z0e (Z4s (v:=.ty "tuple") (by rfl) T.tup (by decide+kernel) rfl) Z02)))),pv 0⟩)) Z02))),?_⟩
  obtain⟨a,xs,rfl,ha0,hts⟩:=Z13 hv
  have ha:=s0 _ _ ha0
  have hl:=IsThs.len _ hts
  refine⟨_,rfl,a,rfl,⟨_,SqT.of ha⟩,Z51 (K:=K) (a:=a) (xs:=xs) (fun i ys σc H'=>∃o,σc = [o]/\IsThs H0 ys ((ts.take i).filter isTup)/\ys.length<=i/\H'=H) ⟨none,rfl,by rw[take_zero];exact .nil,Nat.le_refl _,rfl⟩ (fun i ys σc H' ⟨_,_,_,_,e⟩=>by rw[e];exact SqT.of ha) ?_ ?_⟩
  ·rintro i x ys σc H' hx hi ⟨o,rfl,hys,hyl,rfl⟩
   obtain⟨t,ht,h1⟩:=Z1c _ hts hx
   have hnext:(ts.take (i+1)).filter isTup=(ts.take i).filter isTup++(if isTup t=true then [t] else []):=Z3h _ ht
   refine⟨by have:sizeLine=16777216:=sizeLine_eq;omega,?_⟩
   refine⟨_,rfl,_,_,_,_,rfl,Zb7 (IsTh.kp (Kp.of s0) h1),KI.tup h1,_,rfl,Z1e (fun g=>?_) (fun g=>?_)⟩
   ·refine⟨_,rfl,nx hi ⟨_,rfl,?_,by rw[length_append];show ys.length+1<=i+1;omega,rfl⟩⟩
    rw[hnext,if_pos g]
    exact IsThs.app _ hys (.cons h1 .nil)
   ·refine nx hi ⟨_,rfl,?_,by omega,rfl⟩
    rw[hnext,if_neg g,append_nil]
    exact hys
  ·rintro ys σc H' ⟨o,rfl,hys,hyl,rfl⟩ l hl'
   refine⟨l,_,rfl,.inl ⟨SqL.of Z00,fun p hp=>?_⟩⟩
   rw[take_of_length_le (by omega)] at hys
   have s2:=(Z01 (o:=.lst ys) hl').trans (Z01 (o:=.tup ys) hp)
   exact k p ys _ s2 Z00 hys
theorem Znx:FnScope ["node"] ["node"] (Z04 Zbc):=.q
theorem Zlh {f:Addr}{fd:FuncData}(F:Fun K "head" "head" Zbc f fd)(T:TxtT mg)(KI:Kits K):FnOk P w K mg base CX0 1 f fd ["node"] spHead:=by
 refine F.ok Znx (fun vs H Q E h=>?_) (fun cdv A outer s H vs Q E hr h=>?_)
 ·obtain⟨H0,v,ts,rfl,_⟩:=h
  rfl
 ·obtain⟨H0,v,ts,rfl,s0,hv,hz,k⟩:=h
  refine⟨_,Z07 (Z0h (Z15 Z0w (by rfl) T.tup (by decide+kernel) (Z0b (Z1h (N':=["field"]) (src:=[none]) rfl (Z0d (Z04 Zbc) rfl ["node"] rfl (by decide+kernel)) (Z61 (pv 0))
   (fun cl C ex s0 H0=>⟨Z0l (i:=0) (nd1 _) rfl (Or.inl rfl),Z37 (Z7l (Z5z (Z0r (id:="isinstance") (Z35 (K:=K) rfl) (by rfl) T.isi (by decide+kernel) (Z0e (pv 0) (Z0e (Z4s (v:=.ty "tuple") (by rfl) T.tup (by decide+kernel) rfl) Z02))))),pv 0⟩)) Z02))),?_⟩
  obtain⟨a,xs,rfl,ha0,hts⟩:=Z13 hv
  have ha:=s0 _ _ ha0
  have hl:=IsThs.len _ hts
  refine⟨_,rfl,a,rfl,⟨_,SqT.of ha⟩,Z51 (K:=K) (a:=a) (xs:=xs) (fun i ys σc H'=>∃o,σc = [o]/\IsThs H0 ys ((ts.take i).filter Z2t)/\ys.length<=i/\H'=H) ⟨none,rfl,by rw[take_zero];exact .nil,Nat.le_refl _,rfl⟩ (fun i ys σc H' ⟨_,_,_,_,e⟩=>by rw[e];exact SqT.of ha) ?_ ?_⟩
  ·rintro i x ys σc H' hx hi ⟨o,rfl,hys,hyl,rfl⟩
   obtain⟨t,ht,h1⟩:=Z1c _ hts hx
   have hnext:(ts.take (i+1)).filter Z2t=(ts.take i).filter Z2t++(if Z2t t=true then [t] else []):=Z3h _ ht
   refine⟨by have:sizeLine=16777216:=sizeLine_eq;omega,?_⟩
   refine⟨_,rfl,_,_,_,_,rfl,Zb7 (IsTh.kp (Kp.of s0) h1),KI.tup h1,_,rfl,Z1e (fun g=>?_) (fun g=>?_)⟩
   ·refine⟨_,rfl,nx hi ⟨_,rfl,?_,by rw[length_append];show ys.length+1<=i+1;omega,rfl⟩⟩
    rw[hnext,if_pos (show Z2t t=true from g)]
    exact IsThs.app _ hys (.cons h1 .nil)
   ·refine nx hi ⟨_,rfl,?_,by omega,rfl⟩
    rw[hnext,if_neg (show ¬Z2t t=true from g),append_nil]
    exact hys
  ·rintro ys σc H' ⟨o,rfl,hys,hyl,rfl⟩ l hl'
   refine⟨l,_,rfl,.inl ⟨SqL.of Z00,fun p hp=>?_⟩⟩
   rw[take_of_length_le (by omega)] at hys
   have s2:=(Z01 (o:=.lst ys) hl').trans (Z01 (o:=.tup ys) hp)
   exact k p ys _ s2 Z00 hys
end
def off (a b:Addr)(H:Hp):Hp:=fun c=>if c=a∨c=b then none else H c
theorem Z96 {a b:Addr}{H:Hp}:Same (off a b H) H:=fun c o e=>by
 unfold off at e
 split at e
 ·cases e
 ·exact e
theorem Z83 {a b c:Addr}{H:Hp}{o:HO}(h:H c=some o)(h1:c≠a)(h2:c≠b):off a b H c=some o:=by
 unfold off
 rw[if_neg (fun z=>z.elim h1 h2)]
 exact h
theorem Ziy {a b:Addr}{H:Hp}{o:HO}:off a b (upd H a o)=off a b H:=by
 funext c
 unfold off
 split
 ·rfl
 ·next h=>rw[Z0c (fun z=>h (.inl z))]
theorem Zcq {a b:Addr}{H:Hp}{o:HO}:off a b (upd H b o)=off a b H:=by
 funext c
 unfold off
 split
 ·rfl
 ·next h=>rw[Z0c (fun z=>h (.inr z))]
theorem Z2u {a b:Addr}{H H':Hp}(s:Same H H'):Same (off a b H) (off a b H'):=fun c o e=>by
 unfold off at e ⊢
 split at e
 ·cases e
 ·next h=>rw[if_neg h];exact s c o e
theorem Zny {a b:Addr}{H0 H:Hp}(s:Same H0 H)(h1:H0 a=none)(h2:H0 b=none):Same H0 (off a b H):=fun c o e=>Z83 (s c o e) (fun z=>by rw[z,h1] at e;cases e) (fun z=>by rw[z,h2] at e;cases e)
structure TxtD (mg:Str->Option Value):Prop where
 node:∃tk,mg "NODE"=some (.str "node" tk)
 opened:∃tk,mg "OPENED"=some (.str "opened" tk)
 closed:∃tk,mg "CLOSED"=some (.str "closed" tk)
inductive spSteps_ (N:Nat)(vs:List V)(H:Hp)(Q:VK):Prop
 |mk (v:V) (t:Th) (_:vs = [v]) (_:IsTh H v t) (_:OkT N t) (_:Th.sz t<=100000) (_:∀(p:Addr) (ws:List V) H',Same H H'->H p=none->H' p=some (.lst ws)->IsThs H' ws ((Z0s t).map pr)->Q (.ref p) H'):spSteps_ N vs H Q
def Zbh (N:Nat):Sp:=fun vs H Q _=>spSteps_ N vs H Q
mutual
theorem Z3p:∀t:Th,(Z0s t).length<=3*Th.sz t
 | .tup xs=>by
  rw[Z0s,Th.sz,length_cons]
  have:=Z74 (Z2r xs) (.tup xs) xs 0
  omega
 | .at _=>by simp [Z0s]
 | .lst _=>by simp [Z0s]
theorem Z74 (l:Bool)(me:Th):∀(xs:List Th) (i:Nat),(Z2y l me i xs).length<=3*szs xs+(2-i)
 |[],i=>by simp [Z2y,szs]
 |x::xs,i=>by
  rw[Z2y,szs]
  have h1:=Z3p x
  have hm:(Z38 l me i).length<=(2-i)-(2-(i+1)):=by
   match i with
   | 0=>cases l <;> simp [Z38]
   | 1=>cases l <;> simp [Z38]
   |_+2=>simp [Z38]
  split
  ·have h2:=Z74 l me xs (i+1)
   rw[length_append,length_append]
   omega
  ·have h2:=Z74 l me xs i
   omega
end
abbrev prs (l:List (Str×Th)):List Th:=l.map pr
theorem Ziz {H:Hp}{ws:List V}{st:List (Str×Th)}(h:IsThs H ws (prs st))(hne:ws ≠ []):∃ws' y st' d t a vn,ws=ws' ++ [y]/\st=st' ++ [(d,t)]/\IsThs H ws' (prs st')/\y = .ref a/\H a=some (.tup [.str d,vn])/\IsTh H vn t:=by
 obtain⟨ws',y,us',u,e1,e2,h1,h2⟩:=Zib ws h hne
 have hn:st ≠ []:=fun z=>by
  subst z
  have:=congrArg List.length e2
  simp [prs] at this
 obtain⟨st',x,rfl⟩:∃st' x,st=st' ++ [x]:=⟨st.dropLast,st.getLast hn,(dropLast_concat_getLast hn).symm⟩
 have e3:prs (st' ++ [x])=prs st' ++ [pr x]:=by simp [prs]
 rw[e3] at e2
 have e4:=List.append_inj' e2 rfl
 obtain⟨e5,e6⟩:=e4
 have e6':pr x=u:=by simpa using e6
 subst e6' e5
 obtain⟨a,vs,rfl,ha,hvs⟩:=Z13 h2
 cases hvs with
 |cons c1 c2=>
  cases c2 with
  |cons c3 c4=>
   cases c4
   obtain⟨rfl,_⟩:=Z1i c1
   exact⟨ws',_,st',x.1,x.2,a,_,e1,rfl,h1,rfl,ha,c3⟩
theorem Z3q {d:Str}(h:d="node"∨d="opened"∨d="closed"):smallV (.str d)=true:=by
 rcases h with rfl|rfl|rfl <;> decide+kernel
theorem Zgl {n:Nat}{t:Th}(h:OkT n t):1<=(Z0s t).length:=by
 cases n with
 |zero=>exact h.elim
 |succ n=>
  obtain⟨w,ts,rfl,_⟩:=h
  rw[Z0s,length_cons]
  omega
def Zli (N:Nat)(p:Str×Th):Prop:=(p.1="node"∨p.1="opened"∨p.1="closed")/\OkT N p.2/\Th.sz p.2<=100000
theorem Zcr {N:Nat}:∀(st:List (Str×Th)),(∀x∈st,Zli N x)->st.length<=(Z2o st).length:=by
 intro st
 induction st with
 |nil=>intro _;exact Nat.zero_le _
 |cons x st ih=>
  intro h
  have h1:=ih (fun y hy=>h y (mem_cons_of_mem _ hy))
  have h2:1<=(Z5o x).length:=by
   unfold Z5o
   split
   ·exact Zgl (h x (mem_cons_self ..)).2.1
   ·exact Nat.le_refl _
  have e:Z2o (x::st)=Z2o st++Z5o x:=by unfold Z2o;simp
  rw[e,length_append,length_cons]
  omega
theorem Z75 (w:Str)(ts:List Th):Z1a (.at (.str w)::ts)=Z1a ts:=rfl
theorem Zap {w:Str}{ts:List Th}:Z2r (.at (.str w)::ts)=decide (w="let"):=rfl
section
variable {P:Program}{w:World}{K:W.Frag}{mg:Str->Option Value}{base:Heap}
theorem scSteps:FnScope ["tree","walk","waiting","deed","node","inner"] ["tree"] (Z04 Z6s):=.q
theorem Zcs {f fP:Addr}{fd dP:FuncData}(F:Fun K "steps" "steps" Z6s f fd)(T:TxtT mg)(TD:TxtD mg)(KI:Kits K)
  (FP:Fun K "parts" "parts" Z64 fP dP) (bP:Binds K dP ["e"] []) (mP:mg "parts"=some (.ref fP)) (N:Nat):FnOk P w K mg base CX0 2 f fd ["tree"] (Zbh N):=by
 have GP:FnOk P w K mg base CX0 1 fP dP ["e"] spParts:=Zcp FP T KI
 obtain⟨tn,hNode⟩:=TD.node
 obtain⟨to,hOpen⟩:=TD.opened
 obtain⟨tc,hClose⟩:=TD.closed
 refine F.ok scSteps (fun vs H Q E h=>?_) (fun cdv A outer s H vs Q E hr h=>?_)
 ·obtain⟨v,t,rfl,_⟩:=h
  rfl
 ·obtain⟨v,t,rfl,ht,hok,hz,k⟩:=h
  have hsz:=sizeLine_eq
  have hr1:Room 1 _:=hr.mono (by decide)
  refine'⟨?tt,?body,?fin⟩
  case body=>
   refine' Z05 ?s1 (Z0g ?s2 (Z05 ?s3 (Z07 ?s4)))
   case s1=>exact Z0a (i:=1) scSteps.nd rfl (Or.inl rfl) (Z14 Z02)
   case s2=>exact Z0a (i:=2) scSteps.nd rfl (Or.inl rfl) (Z14 (Z9g (Z0v (Z0e (Z3r (v:=.str "node") (by rfl) hNode ⟨tn,rfl⟩) (Z0e (pv 0) Z02))) Z02))
   case s3=>
    refine' Zby PassesOwn.never ?c (Z05 ?b1 (Z0g ?b2 (Z07 ?b3)))
    case c=>exact Zc0 (pv 2) (fun _=>rfl)
    case b1=>exact Z9m (Zjx PySem.F.plainAttrs_list PySem.F.slot_list_pop PySem.F.type_list_pop Zjy (pv 2)) (Z4y rfl (Z17 (Z0l (i:=3) scSteps.nd rfl (Or.inl rfl)) (Z17 (Z0l (i:=4) scSteps.nd rfl (Or.inl rfl)) Z3s)))
    case b2=>exact Z42 (Z8h PySem.F.plainAttrs_list PySem.F.slot_list_append PySem.F.type_list_append Z3g (pv 1) (Z9g (Z0v (Z0e (pv 3) (Z0e (pv 4) Z02))) Z02))
    case b3=>
     refine' Z11 ?d (Z0g ?c1 (Z0g ?c2 (Z07 ?c3))) Z0k
     case d=>exact Z09 Z1f (pv 3) (Z3r (v:=.str "node") (by rfl) hNode ⟨tn,rfl⟩) (Z0i _)
     case c1=>
      refine' Z2e (i:=5) (N':=["part"]) (src:=[none]) ?k1 ?k2 ?k3 ?k4 ?k5 ?k6 ?k7
      case k1=>rfl
      case k2=>exact scSteps.nd
      case k3=>rfl
      case k4=>exact Or.inl rfl
      case k5=>exact Z0d (Z04 Z6s) rfl ["tree","walk","waiting","deed","node","inner"] rfl (by decide+kernel)
      case k6=>exact Z61 (Z06 GP hr1 (by rfl) mP FP.kp bP .nil Z0f (Z0e (pv 4) Z02))
      case k7=>exact fun cl C ex s0 H0=>⟨Z0l (i:=0) (nd1 _) rfl (Or.inl rfl),Z1q,Z0v (Z0e (Z3r (v:=.str "node") (by rfl) hNode ⟨tn,rfl⟩) (Z0e (pv 0) Z02))⟩
     case c2=>
      refine' Z11 ?e (Z07 ?g) Z0k
      case e=>exact Z09 Z1f (Z0q Z0x (pv 4) Z03 (fun _ _=>rfl)) Z08 (Z0i _)
      case g=>exact Z0a (i:=5) scSteps.nd rfl (Or.inl rfl) (Z14 (Z0b (Z0q Z16 (pv 5) Z03 (fun _ _=>rfl)) (Z9g (Z0v (Z0e (Z3r (v:=.str "opened") (by rfl) hOpen ⟨to,rfl⟩) (Z0e (pv 4) Z02))) (Z0b (Z0q Z16 (pv 5) Z03 (fun _ _=>rfl)) (Z9g (Z0v (Z0e (Z3r (v:=.str "closed") (by rfl) hClose ⟨tc,rfl⟩) (Z0e (pv 4) Z02))) Z02)))))
     case c3=>exact Z42 (Z8h PySem.F.plainAttrs_list PySem.F.slot_list_extend PySem.F.type_list_extend Zf7 (pv 2) (Z0b (Zfi (pv 5) (Zew Z9o Z03)) Z02))
   case s4=>exact Z0h (pv 1)
  case fin=>
   refine⟨Nat.zero_le _,fun wk hwk=>?_⟩
   refine⟨fun σ' H'=>∃wt p0,σ' = [some v,some (.ref wk),some (.ref wt),none,none,none]/\wk≠wt/\H wt=none/\Same H H'/\H' wk=some (.lst [])/\H' wt=some (.lst [.ref p0])/\H' p0=some (.tup [.str "node",v]),?_,?_⟩
   ·refine⟨_,rfl,(by show 2<=sizeLine;decide),fun p0 hp0=>⟨(by show 1<=sizeLine;decide),fun wt hwt=>?_⟩⟩
    have s1:=Z01 (o:=.lst []) hwk
    have s2:=s1.trans (Z01 (o:=.tup [.str "node",v]) hp0)
    have e1:upd (upd H wk (.lst [])) p0 (.tup [.str "node",v]) wk=some (.lst []):=Z01 hp0 _ _ Z00
    have s3:=Z01 (o:=.lst [.ref p0]) hwt
    exact⟨wt,p0,rfl,Z0j e1 hwt,Z2x s2 hwt,s2.trans s3,s3 _ _ e1,Z00,s3 _ _ Z00⟩
   rintro σ0 H1 ⟨wt,p0,rfl,hkt,hwt,s1,L1,W1,P1⟩
   refine Zkr (fun m σ H'=>∃(ws wl:List V) (st dn:List (Str×Th)) (o3 o4 o5:Option V),σ = [some v,some (.ref wk),some (.ref wt),o3,o4,o5]/\Same H H'/\H' wt=some (.lst ws)/\H' wk=some (.lst wl) ∧
     IsThs (off wk wt H') ws (prs st)/\IsThs (off wk wt H') wl (prs dn)/\dn++Z2o st=Z0s t/\(∀x∈st,Zli N x)/\m=(Z2o st).length)
    (Z2o [("node",t)]).length ⟨[.ref p0],[],[("node",t)],[],none,none,none,rfl,s1,W1,L1,?_,.nil,?_,?_,rfl⟩ ?_ ?_
   ·refine .cons (.tup (Z83 P1 (Z3c P1 L1 (by intro q;cases q)) (Z3c P1 W1 (by intro q;cases q))) (.cons (.at (Z3q (.inl rfl))) (.cons (IsTh.kp (Kp.of (Zny s1 hwk hwt)) ht) .nil))) .nil
   ·show Z2o ([] ++ [(("node":Str),t)])=_
    rw[Z54,Z4h]
    show Z0s t ++ []=_
    rw[append_nil]
   ·intro x hx
    rw[mem_singleton] at hx
    subst hx
    exact⟨.inl rfl,hok,hz⟩
   ·rintro m σ H2 ⟨ws,wl,st,dn,o3,o4,o5,rfl,s2,W2,L2,hst,hdn,heq,hall,rfl⟩
    have hlt:=Z3p t
    have hlen:dn.length+(Z2o st).length=(Z0s t).length:=by rw[<- heq,length_append]
    have hstl:=Zcr st hall
    refine⟨_,rfl,_,.inl ⟨ws,SqL.of W2,rfl⟩,?_⟩
    cases hws:ws.isEmpty with
    |true=>
     have e:ws = []:=List.isEmpty_iff.mp hws
     subst e
     refine Za2 ?_
     have est:st = []:=by
      have:=IsThs.len _ hst
      rw[length_map] at this
      exact eq_nil_of_length_eq_zero this.symm
     subst est
     have ed:dn=Z0s t:=by rw[<- heq];show dn=dn ++ [];rw[append_nil]
     subst ed
     exact⟨_,rfl,k wk wl H2 s2 hwk L2 (IsThs.kp (Kp.of Z96) hdn)⟩
    |false=>
     have hne:ws ≠ []:=fun z=>by rw[z] at hws;cases hws
     obtain⟨ws',y,st',d,n,a,vn,rfl,rfl,hst',rfl,ha,hvn⟩:=Ziz hst hne
     refine Zc7 ?_
     refine⟨_,rfl,.inl ⟨rfl,_,SqL.of W2⟩,wt,_,.ref a,rfl,rfl,W2,(by rw[length_append];simp),?_⟩
     rw[List.dropLast_concat]
     have hx:=hall (d,n) (mem_append_right _ (mem_singleton.mpr rfl))
     have hall':∀x∈st',Zli N x:=fun x hx=>hall x (mem_append_left _ hx)
     have hat:upd H2 wt (.lst ws') a=some (.tup [.str d,vn]):=by
      have h1:=Z96 _ _ ha
      rw[Z0c (Z3c h1 W2 (by intro q;cases q))]
      exact h1
     refine⟨a,[.str d,vn],rfl,SqT.of hat,rfl,_,_,rfl,_,_,rfl,rfl,?_⟩
     refine⟨fun σ' H'=>∃(wl':List V),σ' = [some v,some (.ref wk),some (.ref wt),some (.str d),some vn,o5]/\Same H H'/\H' wt=some (.lst ws')/\H' wk=some (.lst wl') ∧
      IsThs (off wk wt H') ws' (prs st')/\IsThs (off wk wt H') wl' (prs (dn ++ [(d,n)]))/\IsTh (off wk wt H') vn n,?_,?_⟩
     ·have eo:off wk wt (upd H2 wt (.lst ws'))=off wk wt H2:=Zcq
      have Lx:upd H2 wt (.lst ws') wk=some (.lst wl):=by rw[Z0c hkt];exact L2
      have Wx:upd H2 wt (.lst ws') wt=some (.lst ws'):=Z00
      have sx:Same H (upd H2 wt (.lst ws')):=fun b ob e=>by rw[Z0c (Z0j e hwt)];exact s2 b ob e
      rw[<- eo] at hst' hdn hvn
      generalize upd H2 wt (.lst ws')=H3 at Lx Wx sx hst' hdn hvn ⊢
      refine⟨_,rfl,.inl ⟨rfl,_,SqL.of Lx⟩,_,rfl,_,rfl,(by show 2<=sizeLine;decide),fun q hq=>?_⟩
      have sq:=Z01 (o:=.tup [.str d,vn]) hq
      have hqk:q≠wk:=fun z=>by rw[z,Lx] at hq;cases hq
      have hqt:q≠wt:=fun z=>by rw[z,Wx] at hq;cases hq
      have hll:=IsThs.len _ hdn
      rw[length_map] at hll
      rw[length_append] at hstl
      simp only [length_singleton] at hstl
      refine⟨wk,wl,.ref q,rfl,rfl,sq _ _ Lx,by omega,?_⟩
      have so:=Z2u (a:=wk) (b:=wt) sq
      have eo2:off wk wt (upd (upd H3 q (.tup [.str d,vn])) wk (.lst (wl ++ [.ref q])))=off wk wt (upd H3 q (.tup [.str d,vn])):=Ziy
      refine⟨wl ++ [.ref q],rfl,?_,?_,Z00,?_,?_,?_⟩
      ·intro b ob e
       rw[Z0c (Z0j e hwk)]
       exact sq _ _ (sx _ _ e)
      ·rw[Z0c hkt.symm]
       exact sq _ _ Wx
      ·rw[eo2];exact IsThs.kp (Kp.of so) hst'
      ·rw[eo2]
       unfold prs
       rw[map_append]
       refine IsThs.app _ (IsThs.kp (Kp.of so) hdn) (.cons (.tup (Z83 Z00 hqk hqt) (.cons (.at (Z3q hx.1)) (.cons (IsTh.kp (Kp.of so) hvn) .nil))) .nil)
      ·rw[eo2];exact IsTh.kp (Kp.of so) hvn
     clear hst hdn ha hvn hat hst' W2 L2 s2
     rintro σ3 H3 ⟨wl',rfl,s3,W3,L3,hst3,hdn3,hvn3⟩
     refine⟨_,rfl,rfl,_,rfl,Z1e (fun g=>?_) (fun g=>?_)⟩
     ·have hd:d="node":=by
       have g':=of_decide_eq_true g
       injection g'
      subst hd
      obtain⟨_,hokn,hzn⟩:=hx
      obtain⟨N',rfl⟩:∃N',N=N'+1:=by
       cases N with
       |zero=>exact hokn.elim
       |succ N'=>exact⟨N',rfl⟩
      obtain⟨w0,xs,rfl,hlet,hkid⟩:=hokn
      simp only [] at hzn
      have hxs:Th.sz (.tup (.at (.str w0)::xs))=1+(1+szs xs):=by simp only [Th.sz,szs]
      have hxl:=Zb8 xs
      have hkl:(Z1a xs).length<=100000:=by
       have h1:=length_filter_le isTup xs
       show(xs.filter isTup).length<=_
       omega
      have hkok:∀k∈Z1a xs,OkT N' k/\Th.sz k<=100000:=fun k hk=>by
       have hk':k∈xs/\isTup k=true:=mem_filter.mp hk
       have:=Znd xs k hk'.1
       exact⟨hkid k hk'.1 hk'.2,by omega⟩
      refine⟨fun σ' H'=>∃(l:Addr) (ys:List V),σ' = [some v,some (.ref wk),some (.ref wt),some (.str "node"),some vn,some (.ref l)]/\Same H3 H'/\H' l=some (.lst ys)/\H3 l=none/\IsThs (off wk wt H') ys (prs ((Z1a xs).map fun k=>(("node":Str),k))),?_,?_⟩
      ·refine⟨_,rfl,off wk wt H3,vn,.at (.str w0)::xs,rfl,Z96,hvn3,by rw[length_cons];omega,fun p ps H4 s4 hp4 hps=>?_⟩
       rw[Z75] at hps
       have hpl:=IsThs.len _ hps
       refine⟨p,rfl,⟨_,SqT.of hp4⟩,Z51 (K:=K) (a:=p) (xs:=ps) (fun i ys σc H'=>∃o,σc = [o]/\Same H4 H'/\ys.length=i/\IsThs (off wk wt H') ys (prs (((Z1a xs).take i).map fun k=>(("node":Str),k))))
        ⟨none,rfl,Same.refl _,rfl,by rw[take_zero];exact .nil⟩ (fun i ys σc H' ⟨_,_,e,_⟩=>SqT.of (e _ _ hp4)) ?_ ?_⟩
       ·rintro i x ys σc H' hxi hi ⟨o,rfl,s5,hyl,hys⟩
        obtain⟨kd,hk,h1⟩:=Z1c _ hps hxi
        refine⟨by omega,_,rfl,(by show 2<=sizeLine;decide),fun q hq=>?_⟩
        have sq:=Z01 (o:=.tup [.str "node",x]) hq
        have so:=Z2u (a:=wk) (b:=wt) sq
        have hqk:q≠wk:=fun z=>by rw[z,s5 _ _ (s4 _ _ L3)] at hq;cases hq
        have hqt:q≠wt:=fun z=>by rw[z,s5 _ _ (s4 _ _ W3)] at hq;cases hq
        refine nx hi ⟨_,rfl,s5.trans sq,by rw[length_append,hyl];rfl,?_⟩
        have e1:((Z1a xs).take (i+1))=(Z1a xs).take i ++ [kd]:=by rw[take_add_one,hk];rfl
        unfold prs
        rw[e1,map_append,map_append]
        refine IsThs.app _ (IsThs.kp (Kp.of so) hys) (.cons (.tup (Z83 Z00 hqk hqt) (.cons (.at (Z3q (.inl rfl))) (.cons (IsTh.kp (Kp.of (Z2u ((s4.trans s5).trans sq))) h1) .nil))) .nil)
       ·rintro ys σc H' ⟨o,rfl,s5,hyl,hys⟩ l hl
        rw[take_of_length_le (by omega)] at hys
        have sl:=Z01 (o:=.lst ys) hl
        refine⟨l,ys,rfl,(s4.trans s5).trans sl,Z00,Z2x (s4.trans s5) hl,IsThs.kp (Kp.of (Z2u sl)) hys⟩
      rintro σ4 H4 ⟨l,ys,rfl,s4,hl4,hl3,hys4⟩
      have hlk:l≠wk:=fun z=>by rw[z,L3] at hl3;cases hl3
      have hlt':l≠wt:=fun z=>by rw[z,W3] at hl3;cases hl3
      obtain⟨an,vns,evn,han,hvns⟩:=Z13 hvn3
      cases hvns with
      | @cons vh vr _ _ c1 c2=>
       obtain⟨rfl,_⟩:=Z1i c1
       have han3:=Z96 _ _ han
       refine⟨fun σ' H'=>∃(l:Addr) (ys:List V) (ps:List (Str×Th)),σ' = [some v,some (.ref wk),some (.ref wt),some (.str "node"),some vn,some (.ref l)]/\Same H3 H'/\H' l=some (.lst ys)/\IsThs (off wk wt H') ys (prs ps) ∧
        Z2o (st' ++ [(("node":Str),.tup (.at (.str w0)::xs))])=(("node":Str),.tup (.at (.str w0)::xs))::Z2o (st'++ps.reverse)/\∀x∈ps,Zli (N'+1) x,?_,?_⟩
       ·have hself:Zli (N'+1) ("opened",.tup (.at (.str w0)::xs))/\Zli (N'+1) ("closed",.tup (.at (.str w0)::xs)):=
         ⟨⟨.inr (.inl rfl),⟨w0,xs,rfl,hlet,hkid⟩,hzn⟩,⟨.inr (.inr rfl),⟨w0,xs,rfl,hlet,hkid⟩,hzn⟩⟩
        refine⟨_,rfl,an,_,0,.str w0,evn,rfl,SqT.of (s4 _ _ han3),Z1b _ _,rfl,_,rfl,Z1e (fun g2=>?_) (fun g2=>?_)⟩
        ·have hw0:w0="let":=by
          have g':=of_decide_eq_true g2
          injection g'
         have h2:=hlet hw0
         obtain⟨k1,k2,hk12⟩:∃k1 k2,Z1a xs = [k1,k2]:=by
          match hq:Z1a xs,h2 with
          |[k1,k2],_=>exact⟨k1,k2,rfl⟩
         rw[hk12] at hys4 hkok
         cases hys4 with
         | @cons y1 yr _ _ d1 d2=>
          cases d2 with
          | @cons y2 yr2 _ _ d3 d4=>
           cases d4
           refine⟨_,rfl,l,_,0,y1,rfl,rfl,SqL.of hl4,Z1b _ _,_,rfl,(by show 2<=sizeLine;decide),fun q1 hq1=>?_⟩
           have sq1:=Z01 (o:=.tup [.str "opened",vn]) hq1
           refine⟨_,rfl,l,_,1,y2,rfl,rfl,SqL.of (sq1 _ _ hl4),Z12 _ _ _,_,rfl,(by show 2<=sizeLine;decide),fun q2 hq2=>?_⟩
           have sq2:=Z01 (o:=.tup [.str "closed",vn]) hq2
           refine⟨(by show 4<=sizeLine;decide),fun l2 hl2=>?_⟩
           have sq3:=Z01 (o:=.lst [y1,.ref q1,y2,.ref q2]) hl2
           have sA:=(sq1.trans sq2).trans sq3
           have hq1k:q1≠wk:=fun z=>by rw[z,s4 _ _ L3] at hq1;cases hq1
           have hq1t:q1≠wt:=fun z=>by rw[z,s4 _ _ W3] at hq1;cases hq1
           have hq2k:q2≠wk:=fun z=>by rw[z,sq1 _ _ (s4 _ _ L3)] at hq2;cases hq2
           have hq2t:q2≠wt:=fun z=>by rw[z,sq1 _ _ (s4 _ _ W3)] at hq2;cases hq2
           have oA:=Z2u (a:=wk) (b:=wt) sA
           have hvA:=IsTh.kp (Kp.of (Z2u (a:=wk) (b:=wt) (s4.trans sA))) hvn3
           refine⟨l2,_,[("node",k1),("opened",.tup (.at (.str w0)::xs)),("node",k2),("closed",.tup (.at (.str w0)::xs))],rfl,s4.trans sA,Z00,?_,?_,?_⟩
           ·exact .cons (IsTh.kp (Kp.of oA) d1) (.cons (.tup (Z83 (sq3 _ _ (sq2 _ _ Z00)) hq1k hq1t) (.cons (.at (Z3q (.inr (.inl rfl)))) (.cons hvA .nil))) (.cons (IsTh.kp (Kp.of oA) d3) (.cons (.tup (Z83 (sq3 _ _ Z00) hq2k hq2t) (.cons (.at (Z3q (.inr (.inr rfl)))) (.cons hvA .nil))) .nil)))
           ·exact Zic (by rw[Zap,hw0];decide+kernel) (by rw[Z75,hk12])
           ·intro x hx
            have o1:=hkok k1 (by simp)
            have o2:=hkok k2 (by simp)
            simp only [mem_cons,not_mem_nil,or_false] at hx
            rcases hx with rfl|rfl|rfl|rfl
            ·exact⟨.inl rfl,o1.1.up,o1.2⟩
            ·exact hself.1
            ·exact⟨.inl rfl,o2.1.up,o2.2⟩
            ·exact hself.2
        ·have hw0:w0≠"let":=fun z=>g2 (by rw[z];decide+kernel)
         refine⟨l,ys,(Z1a xs).map fun k=>(("node":Str),k),rfl,s4,hl4,hys4,?_,?_⟩
         ·have:=Zdu (st:=st') (xs:=.at (.str w0)::xs) (by rw[Zap];exact decide_eq_false hw0)
          rw[Z75] at this
          exact this
         ·intro x hx
          obtain⟨kd,hk,rfl⟩:=mem_map.mp hx
          exact⟨.inl rfl,(hkok kd hk).1.up,(hkok kd hk).2⟩
       clear hys4 hl4 s4 hl3 hlk hlt'
       rintro σ5 H5 ⟨l,ys,ps,rfl,s5,hl5,hys5,htodo,hps⟩
       have hyl:=IsThs.len _ hys5
       rw[length_map] at hyl
       have hnew:∀x∈st'++ps.reverse,Zli (N'+1) x:=fun x hx=>by
        rcases mem_append.mp hx with z|z
        ·exact hall' x z
        ·exact hps x (List.mem_reverse.mp z)
       have hnl:=Zcr _ hnew
       rw[htodo] at hlen
       rw[length_cons] at hlen
       rw[length_append,length_reverse] at hnl
       have hwl:=IsThs.len _ hst3
       rw[length_map] at hwl
       refine⟨_,rfl,.inl ⟨rfl,_,SqL.of (s5 _ _ W3)⟩,_,rfl,_,rfl,rfl,l,ys,rfl,SqL.of hl5,fun p hp=>?_⟩
       have sp5:=Z01 (o:=.lst ys.reverse) hp
       refine⟨wt,p,ws',ys.reverse,rfl,rfl,sp5 _ _ (s5 _ _ W3),Z00,by rw[length_reverse];omega,?_⟩
       have eo:off wk wt (upd (upd H5 p (.lst ys.reverse)) wt (.lst (ws'++ys.reverse)))=off wk wt (upd H5 p (.lst ys.reverse)):=Zcq
       refine⟨(Z2o (st'++ps.reverse)).length,by rw[htodo,length_cons];omega,ws'++ys.reverse,wl',st'++ps.reverse,dn ++ [(("node":Str),Th.tup (.at (.str w0)::xs))],_,_,_,rfl,?_,Z00,?_,?_,?_,?_,hnew,rfl⟩
       ·intro b ob e
        rw[Z0c (Z0j e hwt)]
        exact sp5 _ _ (s5 _ _ (s3 _ _ e))
       ·rw[Z0c hkt]
        exact sp5 _ _ (s5 _ _ L3)
       ·rw[eo]
        unfold prs
        rw[map_append,List.map_reverse]
        exact IsThs.app _ (IsThs.kp (Kp.of (Z2u (s5.trans sp5))) hst3) (Zfn _ (IsThs.kp (Kp.of (Z2u sp5)) hys5))
       ·rw[eo]
        exact IsThs.kp (Kp.of (Z2u (s5.trans sp5))) hdn3
       ·rw[<- heq,htodo,append_assoc]
        rfl
     ·have hd:d≠"node":=fun z=>g (by rw[z];decide+kernel)
      have e1:Z2o (st' ++ [(d,n)])=(d,n)::Z2o st':=by
       rw[Z54]
       unfold Z5o
       rw[if_neg hd]
       rfl
      refine⟨(Z2o st').length,by rw[e1,length_cons];omega,ws',wl',st',dn ++ [(d,n)],_,_,_,rfl,s3,W3,L3,hst3,hdn3,?_,hall',rfl⟩
      rw[<- heq,e1,append_assoc]
      rfl
   ·rintro σ H1 Q1 Q2 hq ⟨u1,e1,b1,e2,q⟩
    exact⟨u1,e1,b1,e2,hq _ _ q⟩
end
theorem Z97 {X:Cx}{K:W.Frag}(hK:X.K=K):Z4t X (.builtin "len") (fun xs H Q=>∃p ys,xs = [.ref p]/\(SqL K H p ys∨SqT K H p ys)/\Q (.int ys.length) H):=by
 subst hK
 exact Z0u
theorem Z4k {X:Cx}{K:W.Frag}{x y:Str}{px py pos:Pos}{k i j:Nat}(hK:X.K=K)(hc:X.calm=true)(hN:X.N.Nodup)(hi:X.N[i]? = some x)(hx:Loc X.env.scope x)(hj:X.N[j]? = some y)(hy:Loc X.env.scope y)
  (hf:X.fn x=true∨X.env.scope.names.lookup x=some .local) (hg:X.fn y=true∨X.env.scope.names.lookup y=some .local):
  PG X (.Tuple [.Name x px,.Name y py] k pos) (gTup K 2 (Zki (Z9l i) (Zki (Z9l j) gNil))):=by
 subst hK
 exact Z4y hc (Z17 (Z0l hN hi hx hf) (Z17 (Z0l hN hj hy hg) Z3s))
def nm:Th->Str
 | .tup (_ :: .at (.str s)::_)=>s
 |_=>""
def wd:Th->Str
 | .tup (.at (.str s)::_)=>s
 |_=>""
def OkN:Nat->Th->Prop
 | 0,_=>False
 |n+1,t=>∃(w:Str) (ts:List Th),t = .tup (.at (.str w)::ts)/\(w="let"->(Z1a ts).length=2)/\(w="let"∨w="name"∨w="set"->∃x r,ts = .at (.str x)::r) ∧
  (∀x∈ts,isTup x=true∨∃v,x = .at v)/\∀x∈ts,isTup x=true->OkN n x
theorem OkN.ok:∀(n:Nat) {t:Th},OkN n t->OkT n t:=by
 intro n
 induction n with
 |zero=>intro t h;exact h.elim
 |succ n ih=>
  intro t h
  obtain⟨w,ts,rfl,h1,_,_,h4⟩:=h
  exact⟨w,ts,rfl,h1,fun x hx hxt=>ih (h4 x hx hxt)⟩
theorem OkN.up:∀(n:Nat) {t:Th},OkN n t->OkN (n+1) t:=by
 intro n
 induction n with
 |zero=>intro t h;exact h.elim
 |succ n ih=>
  intro t h
  obtain⟨w,ts,rfl,h1,h2,h3,h4⟩:=h
  exact⟨w,ts,rfl,h1,h2,h3,fun x hx hxt=>ih (h4 x hx hxt)⟩
def TO (H:Hp):Hp:=fun c=>match H c with
 |some (.tup vs)=>some (.tup vs)
 |_=>none
theorem Zaq {H:Hp}{c:Addr}{vs:List V}(h:H c=some (.tup vs)):TO H c=some (.tup vs):=by
 unfold TO;rw[h]
theorem Zct {H:Hp}{c:Addr}{o:HO}(h:TO H c=some o):H c=some o/\∃vs,o = .tup vs:=by
 unfold TO at h
 split at h
 ·next vs e=>cases h;exact⟨e,_,rfl⟩
 ·cases h
theorem Z76 {H:Hp}:Same (TO H) H:=fun _ _ e=>(Zct e).1
theorem Z77 {H H':Hp}(s:Same H H'):Same (TO H) (TO H'):=fun c o e=>by
 obtain⟨h,vs,rfl⟩:=Zct e
 exact Zaq (s _ _ h)
theorem Z84 {H:Hp}{a:Addr}{xs:List V}{o:HO}(h:H a=some (.lst xs)):Same (TO H) (TO (upd H a o)):=fun c u e=>by
 obtain⟨h1,vs,rfl⟩:=Zct e
 refine Zaq ?_
 rw[Z0c (Z3c h1 h (by intro q;cases q))]
 exact h1
theorem Zpp {H:Hp}{a:Addr}{kvs:List (Key×V)}{o:HO}(h:H a=some (.dK kvs)):Same (TO H) (TO (upd H a o)):=fun c u e=>by
 obtain⟨h1,vs,rfl⟩:=Zct e
 refine Zaq ?_
 rw[Z0c (Z3c h1 h (by intro q;cases q))]
 exact h1
theorem Zpq {H:Hp}:∀(n:Nat) {v:V} {t:Th},OkN n t->IsTh H v t->IsTh (TO H) v t:=by
 intro n
 induction n with
 |zero=>intro v t h;exact h.elim
 |succ n ih=>
  intro v t h ht
  obtain⟨w,ts,rfl,h1,h2,h3,h4⟩:=h
  obtain⟨a,vs,rfl,ha,hvs⟩:=Z13 ht
  refine .tup (Zaq ha) ?_
  cases hvs with
  | @cons v1 vr _ _ c1 c2=>
   obtain⟨rfl,f⟩:=Z1i c1
   refine .cons (.at f) ?_
   clear ht ha c1 h1 h2
   revert vr
   induction ts with
   |nil=>intro vr c2;cases c2;exact .nil
   |cons x ts ihx=>
    intro vr c2
    cases c2 with
    |cons c3 c4=>
     refine .cons ?_ (ihx (fun y hy=>h3 y (mem_cons_of_mem _ hy)) (fun y hy=>h4 y (mem_cons_of_mem _ hy)) c4)
     rcases h3 x (mem_cons_self ..) with z|⟨u,rfl⟩
     ·exact ih (h4 x (mem_cons_self ..) z) c3
     ·obtain⟨rfl,f⟩:=Z1i c3
      exact .at f
abbrev Mp:=Str->List Int
def Z5k (n:Th)(m:Mp)(L:Int):Int:=if wd n="name"/\m (nm n) ≠ [] then L-1-(m (nm n)).getLastD 0 else -1
def push (m:Mp)(x:Str)(L:Int):Mp:=fun y=>if y=x then m x ++ [L] else m y
def Zlj (m:Mp)(x:Str):Mp:=fun y=>if y=x then (m x).dropLast else m y
theorem Zcu (m:Mp)(x:Str)(L:Int):Zlj (push m x L) x=m:=by
 funext y
 unfold Zlj push
 split
 ·next h=>subst h;simp
 ·rfl
structure OS where
 L:Int
 m:Mp
 r:List (Th×Int)
def Z1v (s:OS)(p:Str×Th):Option OS:=
 if p.1="node" then some ⟨s.L,s.m,s.r ++ [(p.2,Z5k p.2 s.m s.L)]⟩
 else if p.1="opened" then some ⟨s.L+1,push s.m (nm p.2) s.L,s.r⟩
 else if s.m (nm p.2) = [] then none else some ⟨s.L-1,Zlj s.m (nm p.2),s.r⟩
def Z3w:List (Str×Th)->OS->Option OS
 |[],s=>some s
 |p::l,s=>(Z1v s p).bind (Z3w l)
theorem Z4d:∀(a b:List (Str×Th)) (s:OS),Z3w (a++b) s=(Z3w a s).bind (Z3w b):=by
 intro a
 induction a with
 |nil=>intro b s;rfl
 |cons p a ih=>
  intro b s
  show(Z1v s p).bind (Z3w (a++b))=((Z1v s p).bind (Z3w a)).bind (Z3w b)
  cases Z1v s p with
  |none=>rfl
  |some s'=>exact ih b s'
theorem Zj0 {l:List (Str×Th)}{s e:OS}(h:Z3w l s=some e)(i:Nat):∃u,Z3w (l.take i) s=some u:=by
 rw[<- take_append_drop i l,Z4d] at h
 cases z:Z3w (l.take i) s with
 |none=>rw[z] at h;cases h
 |some u=>exact⟨u,rfl⟩
theorem Zj1 {l:List (Str×Th)}{s u:OS}{i:Nat}{p:Str×Th}(h:l[i]? = some p)(e:Z3w (l.take i) s=some u):Z3w (l.take (i+1)) s=Z1v u p:=by
 rw[take_add_one,h,Z4d,e]
 show(Z1v u p).bind (Z3w [])=_
 cases Z1v u p <;> rfl
def frO (n:Th)(B:List Str):List Str:=if wd n="set"∨(wd n="name"/\nm n∉B) then [nm n] else []
mutual
def frT:Th->List Str->List Str
 | .tup xs,B=>frO (.tup xs) B++frI (Z2r xs) (nm (.tup xs)) 0 xs B
 | .at _,_=>[]
 | .lst _,_=>[]
def frI (l:Bool)(x:Str):Nat->List Th->List Str->List Str
 |_,[],_=>[]
 |i,y::ys,B=>if isTup y=true then frT y (B++if l=true/\i=1 then [x] else [])++frI l x (i+1) ys B else frI l x i ys B
end
def frK (l:Bool)(x:Str):Nat->List Th->List Str->List Str
 |_,[],_=>[]
 |i,y::ys,B=>frT y (B++if l=true/\i=1 then [x] else [])++frK l x (i+1) ys B
theorem Zlk (l:Bool)(x:Str)(B:List Str):∀(xs:List Th) (i:Nat),frI l x i xs B=frK l x i (Z1a xs) B:=by
 intro xs
 induction xs with
 |nil=>intro i;simp [frI,frK,Z1a]
 |cons y xs ih=>
  intro i
  rw[frI]
  unfold Z1a
  rw[filter_cons]
  split
  ·rw[frK,ih];rfl
  ·rw[ih];rfl
def Zmi (q:Th×Int):Bool:=decide (wd q.1="set"∨(wd q.1="name"/\q.2<0))
structure RelB (m:Mp)(B:List Str)(L:Int):Prop where
 iff:∀x,m x ≠ []↔x∈B
 lt:∀x,∀z∈m x,z<L
theorem RelB.push {m:Mp}{B:List Str}{L:Int}(h:RelB m B L)(x:Str):RelB (push m x L) (B ++ [x]) (L+1):=by
 constructor
 ·intro y
  unfold K36.push
  rw[mem_append,mem_singleton,<- h.iff y]
  split
  ·next e=>simp [e]
  ·next e=>simp [e]
 ·intro y z hz
  unfold K36.push at hz
  split at hz
  ·rcases mem_append.mp hz with q|q
   ·have:=h.lt x z q;omega
   ·rw[mem_singleton] at q;omega
  ·have:=h.lt y z hz;omega
theorem Zll {m:Mp}{B:List Str}{L:Int}(h:RelB m B L)(n:Th):Zmi (n,Z5k n m L)=decide (wd n="set"∨(wd n="name"/\nm n∉B)):=by
 unfold Zmi
 have e:(wd n="name"/\Z5k n m L<0)↔(wd n="name"/\nm n∉B):=by
  refine and_congr_right fun hw=>?_
  rw[<- h.iff]
  unfold Z5k
  by_cases hm:m (nm n) = []
  ·simp [hm]
  ·rw[if_pos ⟨hw,hm⟩]
   have hl:=h.lt (nm n) ((m (nm n)).getLast hm) (List.getLast_mem hm)
   have e2:(m (nm n)).getLastD 0=(m (nm n)).getLast hm:=by
    rw[getLastD_eq_getLast?,List.getLast?_eq_some_getLast hm];rfl
   rw[e2]
   constructor
   ·intro z;omega
   ·intro z;exact absurd hm z
 simp only [e]
theorem Zgm:("opened":Str)≠"node":=by decide+kernel
theorem Zgn:("closed":Str)≠"node":=by decide+kernel
theorem Zk6:("closed":Str)≠"opened":=by decide+kernel
theorem Zlm:∀(n:Nat) (t:Th),OkN n t->∀(m:Mp) (B:List Str) (L:Int),RelB m B L->∃rs,(∀r,Z3w (Z0s t) ⟨L,m,r⟩=some ⟨L,m,r++rs⟩)/\(rs.filter Zmi).map (fun q=>nm q.1)=frT t B/\rs.map (·.1)=(Z2j (Z0s t)).map (·.2):=by
 intro n
 induction n with
 |zero=>intro t h;exact h.elim
 |succ n ih=>
  intro t h m B L hR
  obtain⟨w,ts,rfl,h1,h2,h3,h4⟩:=h
  have hk:∀k∈Z1a (Th.at (.str w)::ts),OkN n k:=fun k hk=>by
   unfold Z1a at hk
   rw[mem_filter] at hk
   rcases mem_cons.mp hk.1 with z|z
   ·subst z;cases hk.2
   ·exact h4 k z hk.2
  have hn:∀r,Z1v ⟨L,m,r⟩ ("node",.tup (.at (.str w)::ts))=some ⟨L,m,r ++ [(.tup (.at (.str w)::ts),Z5k (.tup (.at (.str w)::ts)) m L)]⟩:=fun r=>by
   unfold Z1v
   exact if_pos rfl
  have hfo:(([(Th.tup (.at (.str w)::ts),Z5k (.tup (.at (.str w)::ts)) m L)]:List (Th×Int)).filter Zmi).map (fun q=>nm q.1)=frO (.tup (.at (.str w)::ts)) B:=by
   rw[filter_cons,Zll hR]
   unfold frO
   split
   ·next q=>rw[if_pos (of_decide_eq_true q)];rfl
   ·next q=>rw[if_neg (fun z=>q (decide_eq_true z))];rfl
  rw[Z0s,frT,Z3i,Zlk]
  rw[show Z2r (Th.at (.str w)::ts)=decide (w="let") from rfl]
  by_cases hw:w="let"
  ·rw[decide_eq_true hw]
   obtain⟨x,tr,rfl⟩:=h2 (Or.inl hw)
   have hnm:nm (Th.tup (.at (.str w) :: .at (.str x)::tr))=x:=rfl
   have hl2:(Z1a (Th.at (.str w) :: .at (.str x)::tr)).length=2:=h1 hw
   match hks:Z1a (Th.at (.str w) :: .at (.str x)::tr),hl2,hk with
   |[a,b],_,hk=>
    obtain⟨ra,ea,fa,ga⟩:=ih a (hk a (by simp)) m B L hR
    obtain⟨rb,eb,fb,gb⟩:=ih b (hk b (by simp)) (push m x L) (B ++ [x]) (L+1) (hR.push x)
    refine⟨(.tup (.at (.str w) :: .at (.str x)::tr),Z5k (.tup (.at (.str w) :: .at (.str x)::tr)) m L)::(ra++rb),fun r=>?_,?_,?_⟩
    rotate_left 1
    ·rw[show((Th.tup (.at (.str w) :: .at (.str x)::tr),Z5k (.tup (.at (.str w) :: .at (.str x)::tr)) m L)::(ra++rb)) = [(Th.tup (.at (.str w) :: .at (.str x)::tr),Z5k (.tup (.at (.str w) :: .at (.str x)::tr)) m L)]++(ra++rb) from rfl]
     rw[filter_append,map_append,hfo,filter_append,map_append,fa,fb,hnm]
     simp [frK]
    ·show _::(ra++rb).map (·.1)=_
     simp only [Z2s,Z38]
     unfold Z2j at ga gb ⊢
     rw[map_append,ga,gb]
     simp [Zgm,Zgn]
    ·show(Z1v _ _).bind (Z3w _)=_
     rw[hn]
     show Z3w _ _=_
     rw[Z2s,Z2s,Z2s,Z4d,ea]
     show Z3w _ _=_
     simp only [Z38,if_true]
     show(Z1v _ _).bind (Z3w _)=_
     have e1:∀r,Z1v ⟨L,m,r⟩ ("opened",.tup (.at (.str w) :: .at (.str x)::tr))=some ⟨L+1,push m x L,r⟩:=fun r=>by
      unfold Z1v
      rw[if_neg Zgm,if_pos rfl]
      rfl
     rw[e1]
     show Z3w (Z0s b++_) _=_
     rw[Z4d,eb]
     show(Z1v _ _).bind (Z3w _)=_
     have e2:∀r,Z1v ⟨L+1,push m x L,r⟩ ("closed",.tup (.at (.str w) :: .at (.str x)::tr))=some ⟨L,m,r⟩:=fun r=>by
      unfold Z1v
      rw[if_neg Zgn,if_neg Zk6,hnm]
      have:push m x L x ≠ []:=by unfold push;simp
      rw[if_neg this,Zcu]
      simp
     rw[e2]
     show some _=some _
     simp
  ·rw[decide_eq_false hw,Z48]
   have main:∀(ks:List Th) (i:Nat) (x:Str),(∀k∈ks,OkN n k)->∃rs,(∀r,Z3w (ks.map Z0s).flatten ⟨L,m,r⟩=some ⟨L,m,r++rs⟩)/\(rs.filter Zmi).map (fun q=>nm q.1)=frK false x i ks B/\rs.map (·.1)=(Z2j (ks.map Z0s).flatten).map (·.2):=by
    intro ks
    induction ks with
    |nil=>intro i x _;exact⟨[],fun r=>by simp [Z3w],rfl,rfl⟩
    |cons k ks ihk=>
     intro i x hks
     obtain⟨ra,ea,fa,ga⟩:=ih k (hks k (mem_cons_self ..)) m B L hR
     obtain⟨rb,eb,fb,gb⟩:=ihk (i+1) x (fun y hy=>hks y (mem_cons_of_mem _ hy))
     refine⟨ra++rb,fun r=>?_,?_,?_⟩
     ·rw[map_cons,flatten_cons,Z4d,ea]
      show Z3w _ _=_
      rw[eb,append_assoc]
     ·rw[filter_append,map_append,fa,fb,frK]
      simp
     ·unfold Z2j at ga gb ⊢
      rw[map_append,ga,gb,map_cons,flatten_cons,filter_append,map_append]
   obtain⟨rs,e1,e2,e3⟩:=main _ 0 (nm (.tup (.at (.str w)::ts))) hk
   refine⟨(.tup (.at (.str w)::ts),Z5k (.tup (.at (.str w)::ts)) m L)::rs,fun r=>?_,?_,?_⟩
   rotate_left 1
   ·rw[show((Th.tup (.at (.str w)::ts),Z5k (.tup (.at (.str w)::ts)) m L)::rs) = [(Th.tup (.at (.str w)::ts),Z5k (.tup (.at (.str w)::ts)) m L)]++rs from rfl]
    rw[filter_append,map_append,hfo,e2]
   ·rw[map_cons,e3]
    unfold Z2j
    simp
   ·show(Z1v _ _).bind (Z3w _)=_
    rw[hn]
    show Z3w _ _=_
    rw[e1]
    simp
structure LetD (H:Hp)(kvs:List (Key×V))(m:Mp):Prop where
 no:∀x,Z2m kvs (.inr x)=none->m x = []
 at1:∀x v,Z2m kvs (.inr x)=some v->∃a,v = .ref a/\H a=some (.lst ((m x).map V.int))
inductive spOwnNo_ (vs:List V)(H:Hp)(Q:VK):Prop
 |mk (v:V) (ld:Addr) (L:Int) (N:Nat) (n:Th) (kvs:List (Key×V)) (m:Mp) (_:vs = [v,.ref ld,.int L]) (_:IsTh H v n) (_:OkN N n) (_:H ld=some (.dK kvs)) (_:LetD H kvs m) (_:Q (.int (Z5k n m L)) H):spOwnNo_ vs H Q
def spOwnNo:Sp:=fun vs H Q _=>spOwnNo_ vs H Q
section
variable {P:Program}{w:World}{K:W.Frag}{mg:Str->Option Value}{base:Heap}
theorem Zln:FnScope ["node","lets","level"] ["node","lets","level"] (Z04 Z3l):=.q
theorem Zj2 {f:Addr}{fd:FuncData}(F:Fun K "own_number" "own_number" Z3l f fd):FnOk P w K mg base CX0 1 f fd ["node","lets","level"] spOwnNo:=by
 refine F.ok Zln (fun vs H Q E h=>?_) (fun cdv A outer s H vs Q E hr h=>?_)
 ·obtain⟨v,ld,L,N,n,kvs,m,rfl,_⟩:=h
  rfl
 ·obtain⟨v,ld,L,N,n,kvs,m,rfl,ht,hok,hld,hd,k⟩:=h
  have hu1:(_:Around).units+1<cLine:=Nat.lt_of_le_of_lt (Nat.add_le_add_left (by decide) _) hr.units
  refine'⟨?tt,?body,?fin⟩
  case body=>
   refine' Z05 ?s1 (Z07 ?s2)
   case s1=>
    refine' Z11 ?c (Z07 ?e1) Z0k
    case c=>exact(Z66 (Z09 Zdi (Z0q Z0x (pv 0) Z03 (fun _ _=>rfl)) Z08 (Z0i _)) (Z60 (Z7l (Zc0 (Zi0 hu1 (pv 1) (Z0q Z0x (pv 0) Z03 (fun _ _=>rfl)) ⟨rfl,rfl,rfl,rfl⟩) (fun _=>rfl))))).pt
    case e1=>exact Z0h (Zew Z9o Z03)
   case s2=>exact Z0h (Z0m Z24 (Z0m Z24 (pv 2) Z03) (Z0q Z16 (Z0t hu1 (pv 1) (Z0q Z0x (pv 0) Z03 (fun _ _=>rfl)) (fun _ _=>rfl)) (Zew Z9o Z03) (fun _ _=>rfl)))
  case fin=>
   cases N with
   |zero=>exact hok.elim
   |succ N=>
    obtain⟨w0,ts,rfl,_,h2,_,_⟩:=hok
    obtain⟨a,vs,rfl,ha,hvs⟩:=Z13 ht
    cases hvs with
    | @cons v1 vr _ _ c1 c2=>
     obtain⟨rfl,_⟩:=Z1i c1
     have hwd:wd (Th.tup (.at (.str w0)::ts))=w0:=rfl
     refine⟨_,rfl,a,_,_,_,rfl,rfl,SqT.of ha,Z1b _ _,rfl,_,rfl,Z1e (fun g=>?_) (fun g=>?_)⟩
     ·have hne:w0≠"name":=fun z=>by
       subst z
       exact absurd g (by decide+kernel)
      have e:Z5k (Th.tup (.at (.str w0)::ts)) m L = -1:=by
       unfold Z5k
       rw[if_neg]
       exact fun z=>hne z.1
      rw[e] at k
      exact Zc7 ⟨_,rfl,k⟩
     ·have he:w0="name":=by
       by_cases z:w0="name"
       ·exact z
       ·exfalso
        refine g ?_
        have:¬V.str w0=V.str "name":=fun q=>z (by injection q)
        simp [this]
      obtain⟨x,tr,rfl⟩:=h2 (Or.inr (Or.inl he))
      have hnm:nm (Th.tup (.at (.str w0) :: .at (.str x)::tr))=x:=rfl
      cases c2 with
      | @cons v2 vr2 _ _ c3 c4=>
       obtain⟨rfl,_⟩:=Z1i c3
       have hix:rIxT K (.ref a) (.int 1) H=rIxT K (.ref a) (.int 1) H:=rfl
       cases hv:Z2m kvs (.inr x) with
       |none=>
        refine⟨_,rfl,ld,rfl,.inl ⟨kvs,.inl hld⟩,_,rfl,a,_,_,_,rfl,rfl,SqT.of ha,Z12 _ _ _,none,?_,false,rfl,?_⟩
        ·rw[<- hv];exact DGet.k (k:=.inr x) hld
        ·have e:Z5k (Th.tup (.at (.str w0) :: .at (.str x)::tr)) m L = -1:=by
          unfold Z5k
          rw[if_neg]
          rw[hnm]
          exact fun z=>z.2 (hd.no x hv)
         rw[e] at k
         exact Zc7 ⟨_,rfl,k⟩
       |some u=>
        obtain⟨b,rfl,hb⟩:=hd.at1 x u hv
        refine⟨_,rfl,ld,rfl,.inl ⟨kvs,.inl hld⟩,_,rfl,a,_,_,_,rfl,rfl,SqT.of ha,Z12 _ _ _,some (.ref b),?_,!((m x).map V.int).isEmpty,.inl ⟨_,SqL.of hb,rfl⟩,?_⟩
        ·rw[<- hv];exact DGet.k (k:=.inr x) hld
        ·cases hm:(m x) with
         |nil=>
          have e:Z5k (Th.tup (.at (.str w0) :: .at (.str x)::tr)) m L = -1:=by
           unfold Z5k
           rw[if_neg]
           rw[hnm]
           exact fun z=>z.2 hm
          rw[e] at k
          exact Zc7 ⟨_,rfl,k⟩
         |cons z0 zr=>
          have hne:m x ≠ []:=by rw[hm];intro q;cases q
          refine Za2 ?_
          have hl:m x=(m x).dropLast ++ [(m x).getLast hne]:=(dropLast_concat_getLast hne).symm
          have hb2:H b=some (.lst ((m x).dropLast.map V.int ++ [V.int ((m x).getLast hne)])):=by
           rw[hb]
           conv=>lhs;rw[hl]
           rw[map_append]
           rfl
          have e:Z5k (Th.tup (.at (.str w0) :: .at (.str x)::tr)) m L=L-1-(m x).getLast hne:=by
           unfold Z5k
           rw[hnm,if_pos ⟨he,hne⟩,getLastD_eq_getLast?,List.getLast?_eq_some_getLast hne]
           rfl
          rw[e] at k
          refine⟨_,rfl,_,_,rfl,rfl,_,rfl,_,rfl,a,_,_,_,rfl,rfl,SqT.of ha,Z12 _ _ _,ld,.ref b,rfl,?_,_,rfl,b,_,_,_,rfl,rfl,SqL.of hb2,Zhx _ _,_,_,rfl,rfl,k⟩
          rw[<- hv]
          exact DGet.k (k:=.inr x) hld
end
def Zpr (N:Nat)(p:Str×Th):Prop:=OkN N p.2/\(p.1="node"∨p.1="opened"∨p.1="closed")/\(p.1≠"node"->wd p.2="let")
theorem Zj3 {l:Bool}{N:Nat}{me:Th}(hm:OkN N me)(hl:l=true->wd me="let")(i:Nat):∀p∈Z38 l me i,Zpr N p:=by
 intro p hp
 match i with
 | 0=>
  cases l with
  |false=>simp [Z38] at hp
  |true=>simp [Z38] at hp;subst hp;exact⟨hm,.inr (.inl rfl),fun _=>hl rfl⟩
 | 1=>
  cases l with
  |false=>simp [Z38] at hp
  |true=>simp [Z38] at hp;subst hp;exact⟨hm,.inr (.inr rfl),fun _=>hl rfl⟩
 |_+2=>simp [Z38] at hp
theorem Z78:∀(N:Nat) (t:Th),OkN N t->∀p∈Z0s t,Zpr N p:=by
 intro N
 induction N with
 |zero=>intro t h;exact h.elim
 |succ N ih=>
  intro t h p hp
  have hme:=h
  obtain⟨w,ts,rfl,h1,h2,h3,h4⟩:=h
  have hk:∀k∈Z1a (Th.at (.str w)::ts),OkN N k:=fun k hk=>by
   unfold Z1a at hk
   rw[mem_filter] at hk
   rcases mem_cons.mp hk.1 with z|z
   ·subst z;cases hk.2
   ·exact h4 k z hk.2
  rw[Z0s,Z3i] at hp
  rcases mem_cons.mp hp with z|z
  ·subst z;exact⟨hme,.inl rfl,fun q=>absurd rfl q⟩
  ·have hl:Z2r (Th.at (.str w)::ts)=true->wd (Th.tup (.at (.str w)::ts))="let":=fun q=>of_decide_eq_true q
   generalize Z2r (Th.at (.str w)::ts)=l at z hl
   have main:∀(ks:List Th) (i:Nat),(∀k∈ks,OkN N k)->p∈Z2s l (.tup (.at (.str w)::ts)) i ks->Zpr (N+1) p:=by
    intro ks
    induction ks with
    |nil=>intro i _ q;cases q
    |cons k ks ihk=>
     intro i hks q
     rw[Z2s] at q
     rcases mem_append.mp q with q|q
     ·obtain⟨a,b,c⟩:=ih k (hks k (mem_cons_self ..)) p q
      exact⟨a.up,b,c⟩
     ·rcases mem_append.mp q with q|q
      ·exact Zj3 hme hl i p q
      ·exact ihk (i+1) (fun y hy=>hks y (mem_cons_of_mem _ hy)) q
   exact main _ 0 hk z
structure Lt (H0:Hp)(ra wk:Addr)(H:Hp)(kvs:List (Key×V))(m:Mp):Prop where
 d:LetD H kvs m
 fr:∀x a,Z2m kvs (.inr x)=some (.ref a)->H0 a=none/\a≠ra/\a≠wk
 inj:∀x y a,Z2m kvs (.inr x)=some (.ref a)->Z2m kvs (.inr y)=some (.ref a)->x=y
section
variable {H0 H H':Hp}{ra wk:Addr}{kvs:List (Key×V)}{m:Mp}
theorem Lt.mono (h:Lt H0 ra wk H kvs m)(s:∀a xs,a≠ra->H a=some (.lst xs)->H' a=some (.lst xs)):Lt H0 ra wk H' kvs m:=
 ⟨⟨h.d.no,fun x v e=>by
  obtain⟨a,rfl,ha⟩:=h.d.at1 x v e
  exact⟨a,rfl,s _ _ (h.fr x a e).2.1 ha⟩⟩,h.fr,h.inj⟩
theorem Lt.set (h:Lt H0 ra wk H kvs m){x:Str}{a:Addr}(e:Z2m kvs (.inr x)=some (.ref a))(zs:List Int):Lt H0 ra wk (upd H a (.lst (zs.map V.int))) kvs (fun y=>if y=x then zs else m y):=by
 refine⟨⟨fun y q=>?_,fun y v q=>?_⟩,h.fr,h.inj⟩
 ·have:y≠x:=fun z=>by rw[z,e] at q;cases q
  simp only [if_neg this]
  exact h.d.no y q
 ·obtain⟨b,rfl,hb⟩:=h.d.at1 y v q
  refine⟨b,rfl,?_⟩
  by_cases z:y=x
  ·subst z
   rw[e] at q
   cases q
   simp only [if_true]
   exact Z00
  ·have hne:b≠a:=fun w=>z (h.inj y x a (by rw[q,w]) e)
   simp only [if_neg z]
   rw[Z0c hne]
   exact hb
theorem Lt.new (h:Lt H0 ra wk H kvs m){x:Str}{q:Addr}{L:Int}(e:Z2m kvs (.inr x)=none)(hq:H q=none)(hq0:H0 q=none)(n1:q≠ra)(n2:q≠wk)
  (hh:H' q=some (.lst [.int L])) (s:∀a xs,a≠q->H a=some (.lst xs)->H' a=some (.lst xs)):Lt H0 ra wk H' (Z3z kvs (.inr x) (.ref q)) (push m x L):=by
 have old:∀y a,y≠x->Z2m (Z3z kvs (.inr x) (.ref q)) (.inr y)=some (.ref a)->Z2m kvs (.inr y)=some (.ref a):=fun y a hy z=>by
  rw[Z20,if_neg (fun w=>hy (by injection w))] at z
  exact z
 have hne:∀y a,Z2m kvs (.inr y)=some (.ref a)->a≠q:=fun y a z w=>by
  obtain⟨b,e1,e2⟩:=h.d.at1 y _ z
  cases e1
  rw[w,hq] at e2
  cases e2
 refine⟨⟨fun y z=>?_,fun y v z=>?_⟩,fun y a z=>?_,fun y y' a z z'=>?_⟩
 ·rw[Z20] at z
  split at z
  ·cases z
  ·next w=>
   have:y≠x:=fun u=>w (by rw[u])
   unfold push
   rw[if_neg this]
   exact h.d.no y z
 ·rw[Z20] at z
  split at z
  ·next w=>
   cases z
   have:y=x:=by injection w
   subst this
   refine⟨q,rfl,?_⟩
   unfold push
   rw[if_pos rfl,h.d.no y e]
   exact hh
  ·next w=>
   have hy:y≠x:=fun u=>w (by rw[u])
   obtain⟨b,rfl,hb⟩:=h.d.at1 y v z
   refine⟨b,rfl,?_⟩
   unfold push
   rw[if_neg hy]
   exact s _ _ (hne y b z) hb
 ·by_cases hy:y=x
  ·subst hy
   rw[Z20,if_pos rfl] at z
   cases z
   exact⟨hq0,n1,n2⟩
  ·exact h.fr y a (old y a hy z)
 ·by_cases hy:y=x
  ·by_cases hy':y'=x
   ·rw[hy,hy']
   ·exfalso
    have:=old y' a hy' z'
    rw[hy,Z20,if_pos rfl] at z
    cases z
    exact hne y' q this rfl
  ·by_cases hy':y'=x
   ·exfalso
    have:=old y a hy z
    rw[hy',Z20,if_pos rfl] at z'
    cases z'
    exact hne y q this rfl
   ·exact h.inj y y' a (old y a hy z) (old y' a hy' z')
end
def prO (q:Th×Int):Th:=.tup [q.1,.at (.int q.2)]
abbrev os0:OS:=⟨0,fun _=>[],[]⟩
def OwR (t:Th)(rs:List (Th×Int)):Prop:=Z3w (Z0s t) os0=some ⟨0,fun _=>[],rs⟩
theorem Zlo {N:Nat}{t:Th}(h:OkN N t):∃rs,OwR t rs/\(rs.filter Zmi).map (fun q=>nm q.1)=frT t []/\rs.map (·.1)=(Z2j (Z0s t)).map (·.2):=by
 obtain⟨rs,e,f,g⟩:=Zlm N t h (fun _=>[]) [] 0 ⟨fun x=>by simp,fun x z hz=>by cases hz⟩
 exact⟨rs,by have:=e [];rw[nil_append] at this;exact this,f,g⟩
inductive spOwned_ (N:Nat)(vs:List V)(H:Hp)(Q:VK):Prop
 |mk (v:V) (t:Th) (_:vs = [v]) (_:IsTh H v t) (_:OkN N t) (_:Th.sz t<=100000) (_:∀(p:Addr) (ws:List V) (rs:List (Th×Int)) H',Same H H'->H p=none->H' p=some (.lst ws)->IsThs H' ws (rs.map prO)->OwR t rs->Q (.ref p) H'):spOwned_ N vs H Q
def Zgo (N:Nat):Sp:=fun vs H Q _=>spOwned_ N vs H Q
structure Stt (H0:Hp)(ra wk ld:Addr)(ws:List V)(t:Th)(i:Nat)(u:OS)(H:Hp)(rws:List V)(kvs:List (Key×V)):Prop where
 same:Same H0 H
 rows:H ra=some (.lst rws)
 len:rws.length<=i
 rth:IsThs (TO H) rws (u.r.map prO)
 walk:H wk=some (.lst ws)
 wth:IsThs (TO H) ws (prs (Z0s t))
 dict:H ld=some (.dK kvs)
 few:kvs.length<=i
 lt:Lt H0 ra wk H kvs u.m
 lens:∀x,(u.m x).length<=i
theorem Znz {H:Hp}{N:Nat}:∀(l:List (Str×Th)) {ws:List V},(∀p∈l,OkN N p.2)->IsThs H ws (prs l)->IsThs (TO H) ws (prs l):=by
 intro l
 induction l with
 |nil=>intro ws _ h;cases h;exact .nil
 |cons p l ih=>
  intro ws hp h
  cases h with
  |cons c1 c2=>
   refine .cons ?_ (ih (fun y hy=>hp y (mem_cons_of_mem _ hy)) c2)
   obtain⟨a,vs,rfl,ha,hvs⟩:=Z13 c1
   refine .tup (Zaq ha) ?_
   cases hvs with
   |cons d1 d2=>
    cases d2 with
    |cons d3 d4=>
     cases d4
     obtain⟨rfl,f⟩:=Z1i d1
     exact .cons (.at f) (.cons (Zpq N (hp p (mem_cons_self ..)) d3) .nil)
theorem Zgp (i:Int):smallV (.int i)=true:=rfl
section
variable {P:Program}{w:World}{K:W.Frag}{mg:Str->Option Value}{base:Heap}
structure HOw (K:W.Frag)(mg:Str->Option Value)(fP fS fO:Addr)(dP dS dO:FuncData):Prop where
 T:TxtT mg
 TD:TxtD mg
 KI:Kits K
 P:Fun K "parts" "parts" Z64 fP dP
 bP:Binds K dP ["e"] []
 mP:mg "parts"=some (.ref fP)
 S:Fun K "steps" "steps" Z6s fS dS
 bS:Binds K dS ["tree"] []
 mS:mg "steps"=some (.ref fS)
 O:Fun K "own_number" "own_number" Z3l fO dO
 bO:Binds K dO ["node","lets","level"] []
 mO:mg "own_number"=some (.ref fO)
theorem scOwned:FnScope ["e","rows","lets","level","deed","node"] ["e"] (Z04 Zaf):=.q
theorem Zj4 {f fP fS fO:Addr}{fd dP dS dO:FuncData}(F:Fun K "owned" "owned" Zaf f fd)(U:HOw K mg fP fS fO dP dS dO)(N:Nat):FnOk P w K mg base CX0 3 f fd ["e"] (Zgo N):=by
 have GS:FnOk P w K mg base CX0 2 fS dS ["tree"] (Zbh N):=Zcs U.S U.T U.TD U.KI U.P U.bP U.mP N
 have GO:FnOk P w K mg base CX0 1 fO dO ["node","lets","level"] spOwnNo:=Zj2 U.O
 obtain⟨tn,hNode⟩:=U.TD.node
 obtain⟨to,hOpen⟩:=U.TD.opened
 refine F.ok scOwned (fun vs H Q E h=>?_) (fun cdv A outer s H vs Q E hr h=>?_)
 ·obtain⟨v,t,rfl,_⟩:=h
  rfl
 ·obtain⟨v,t,rfl,ht,hok,hz,k⟩:=h
  have hsz:=sizeLine_eq
  have hr1:Room 1 _:=hr.mono (by decide)
  have hr2:Room 2 _:=hr.mono (by decide)
  have hu1:(_:Around).units+1<cLine:=Nat.lt_of_le_of_lt (Nat.add_le_add_left (by decide) _) hr.units
  refine'⟨?tt,?body,?fin⟩
  case body=>
   refine' Z05 ?s1 ?r1
   case s1=>exact Z0a (i:=1) scOwned.nd rfl (Or.inl rfl) (Z14 Z02)
   case r1=>
    refine' Z05 ?s2 ?r2
    case s2=>exact Z0a (i:=2) scOwned.nd rfl (Or.inl rfl) Z6b
    case r2=>
     refine' Z05 ?s3 ?r3
     case s3=>exact Z0a (i:=3) scOwned.nd rfl (Or.inl rfl) Z03
     case r3=>
      refine' Z05 ?s4 (Z07 ?s5)
      case s4=>
       refine' Z43 PassesOwn.never rfl (Z19 (Z06 GS hr2 (by rfl) U.mS U.S.kp U.bS .nil Z0f (Z0e (pv 0) Z02))) (Z4y rfl (Z17 (Z0l (i:=4) scOwned.nd rfl (Or.inl rfl)) (Z17 (Z0l (i:=5) scOwned.nd rfl (Or.inl rfl)) Z3s))) (Z07 ?b)
       case b=>
        refine' Z11 ?c (Z07 ?e1) (Z07 ?e2)
        case c=>exact Z09 Z1f (pv 4) (Z3r (v:=.str "node") (by rfl) hNode ⟨tn,rfl⟩) (Z0i _)
        case e1=>
         refine' Z42 ?m
         case m=>
          refine' Z8h PySem.F.plainAttrs_list PySem.F.slot_list_append PySem.F.type_list_append Z3g (pv 1) ?a
          case a=>
           refine' Z9g (Z0v ?z) Z02
           case z=>exact Z0e (pv 5) (Z2h (Z06 GO hr1 (by rfl) U.mO U.O.kp U.bO .nil Z0f (Z0e (pv 5) (Z0e (pv 2) (Z0e (pv 3) Z02)))) Z02)
        case e2=>
         refine' Z11 ?c2 (Z05 ?e3 (Z07 ?e4)) (Z05 ?e5 (Z07 ?e6))
         case c2=>exact Z09 Z1f (pv 4) (Z3r (v:=.str "opened") (by rfl) hOpen ⟨to,rfl⟩) (Z0i _)
         case e3=>
          refine' Z42 ?m3
          case m3=>
           refine' Z8h PySem.F.plainAttrs_list PySem.F.slot_list_append PySem.F.type_list_append Z3g ?o3 ?a3
           case o3=>exact Zif (pv 2) (Z0q Z0x (pv 5) Z03 (fun _ _=>rfl)) (Z14 Z02) ⟨rfl,rfl,rfl,rfl⟩
           case a3=>exact Z0e (pv 3) Z02
         case e4=>exact Zjt (i:=3) scOwned.nd rfl (Or.inl rfl) Z03 Zmu
         case e5=>
          refine' Z42 ?m5
          case m5=>
           refine' Zjx PySem.F.plainAttrs_list PySem.F.slot_list_pop PySem.F.type_list_pop Zjy ?o5
           case o5=>exact Z0t hu1 (pv 2) (Z0q Z0x (pv 5) Z03 (fun _ _=>rfl)) (fun _ _=>rfl)
         case e6=>exact Zjt (i:=3) scOwned.nd rfl (Or.inl rfl) Z03 Zmv
      case s5=>exact Z0h (pv 1)
  case fin=>
   refine⟨Nat.zero_le _,fun ra hra=>?_⟩
   intro ld hld
   have z1:=Z01 (o:=.lst []) hra
   have z2:=Z01 (o:=.dK []) hld
   have za:=z1.trans z2
   refine⟨_,rfl,v,t,rfl,IsTh.kp (Kp.of za) ht,hok.ok,hz,fun wk ws H1 s1 hwk L1 hws=>?_⟩
   have sH1:=za.trans s1
   have hld0:H ld=none:=Z2x z1 hld
   have hwk0:H wk=none:=Z2x za hwk
   have hrl:ra≠ld:=fun z=>by rw[<- z,Z00] at hld;cases hld
   have R1:H1 ra=some (.lst []):=s1 _ _ (z2 _ _ Z00)
   have D1:H1 ld=some (.dK []):=s1 _ _ Z00
   have hwr:wk≠ra:=fun z=>by rw[z,z2 _ _ Z00] at hwk;cases hwk
   have hwl:=IsThs.len _ hws
   rw[length_map] at hwl
   have hls:=Z3p t
   obtain⟨rs,hrs,_,_⟩:=Zlo hok
   have hws1:IsThs (TO H1) ws (prs (Z0s t)):=Znz _ (fun p hp=>(Z78 N t hok p hp).1) hws
   refine⟨wk,rfl,⟨_,SqL.of L1⟩,Zbz (K:=K) (a:=wk) (xs:=ws) (fun i σ H'=>∃(u:OS) (rws:List V) (kvs:List (Key×V)) (o4 o5:Option V),σ = [some v,some (.ref ra),some (.ref ld),some (.int u.L),o4,o5]/\Z3w ((Z0s t).take i) os0=some u/\Stt H ra wk ld ws t i u H' rws kvs)
    ⟨os0,[],[],none,none,rfl,rfl,⟨sH1,R1,Nat.le_refl _,.nil,L1,hws1,D1,Nat.le_refl _,⟨⟨fun x _=>rfl,fun x v e=>(by cases e)⟩,fun x a e=>(by cases e),fun x y a e=>(by cases e)⟩,fun x=>Nat.zero_le _⟩⟩ (fun i σ H' _ ⟨_,_,_,_,_,_,_,S⟩=>SqL.of S.walk) ?_ ?_⟩
   ·rintro i x σ H2 hx ⟨u,rws,kvs,o4,o5,rfl,hrun,S⟩
    obtain⟨tx,htx,hx2⟩:=Z1c _ S.wth hx
    rw[List.getElem?_map] at htx
    obtain⟨p,hp,rfl⟩:∃p,(Z0s t)[i]? = some p/\pr p=tx:=by
     cases e:(Z0s t)[i]? with
     |none=>rw[e] at htx;cases htx
     |some p=>rw[e] at htx;exact⟨p,rfl,by simpa using htx⟩
    have hil:i<(Z0s t).length:=(List.getElem?_eq_some_iff.mp hp).1
    have hi:i<300000:=by omega
    have hl1:=S.len
    have hf1:=S.few
    obtain⟨hown,hdeed,hlet⟩:=Z78 N t hok p (mem_of_getElem? hp)
    obtain⟨d,n⟩:=p
    have hnext:=Zj1 hp hrun
    obtain⟨u',hu'⟩:=Zj0 hrs (i+1)
    rw[hu'] at hnext
    obtain⟨a,vs2,rfl,ha,hvs2⟩:=Z13 hx2
    cases hvs2 with
    | @cons v1 vr _ _ c1 c2=>
     cases c2 with
     | @cons v2 vr2 _ _ c3 c4=>
      cases c4
      obtain⟨rfl,_⟩:=Z1i c1
      refine⟨a,[.str d,v2],rfl,SqT.of (Z76 _ _ ha),rfl,_,_,rfl,_,_,rfl,rfl,?_⟩
      refine⟨_,rfl,rfl,_,rfl,Z1e (fun g=>?_) (fun g=>?_)⟩
      ·have hd:d="node":=by
        have g':=of_decide_eq_true g
        injection g'
       have es:Z1v u (d,n)=some ⟨u.L,u.m,u.r ++ [(n,Z5k n u.m u.L)]⟩:=by
        unfold Z1v
        exact if_pos hd
       rw[es] at hnext
       cases hnext
       refine⟨_,rfl,.inl ⟨rfl,_,SqL.of S.rows⟩,_,rfl,?_⟩
       refine⟨_,rfl,_,rfl,_,rfl,v2,ld,u.L,N,n,kvs,u.m,rfl,IsTh.kp (Kp.of Z76) c3,hown,S.dict,S.lt.d,?_⟩
       refine⟨(by show 2<=sizeLine;decide),fun q hq=>?_⟩
       have s3:=Z01 (o:=.tup [v2,.int (Z5k n u.m u.L)]) hq
       have hqr:ra≠q:=Z0j S.rows hq
       refine⟨ra,rws,_,rfl,rfl,s3 _ _ S.rows,(by omega),⟨u.L,u.m,u.r ++ [(n,Z5k n u.m u.L)]⟩,rws ++ [.ref q],kvs,_,_,rfl,hu',?_⟩
       have R3:=s3 _ _ S.rows
       have t3:Same (TO H2) (TO (upd (upd H2 q (.tup [v2,.int (Z5k n u.m u.L)])) ra (.lst (rws ++ [.ref q])))):=(Z77 s3).trans (Z84 R3)
       refine⟨fun c o e=>?_,Z00,by rw[length_append];simp;omega,?_,?_,IsThs.kp (Kp.of t3) S.wth,?_,by omega,?_,fun x=>Nat.le_succ_of_le (S.lens x)⟩
       ·rw[Z0c (Z0j e hra)]
        exact s3 _ _ (S.same _ _ e)
       ·show IsThs _ _ ((u.r ++ [(n,Z5k n u.m u.L)]).map prO)
        rw[map_append]
        refine IsThs.app _ (IsThs.kp (Kp.of t3) S.rth) (.cons (.tup (Zaq ?_) (.cons (IsTh.kp (Kp.of t3) c3) (.cons (.at (Zgp _)) .nil))) .nil)
        rw[Z0c hqr.symm]
        exact Z00
       ·rw[Z0c hwr]
        exact s3 _ _ S.walk
       ·rw[Z0c hrl.symm]
        exact s3 _ _ S.dict
       ·refine S.lt.mono fun b xs hb e=>?_
        rw[Z0c hb]
        exact s3 _ _ e
      ·have hd:d≠"node":=fun z=>g (by rw[z];decide+kernel)
       have hlt:=hlet hd
       obtain⟨N',rfl⟩:∃N',N=N'+1:=by
        cases N with
        |zero=>exact hown.elim
        |succ N'=>exact⟨N',rfl⟩
       obtain⟨w0,ts,rfl,_,h2,_,_⟩:=hown
       obtain⟨x,tr,rfl⟩:=h2 (Or.inl hlt)
       have hnm:nm (Th.tup (.at (.str w0) :: .at (.str x)::tr))=x:=rfl
       obtain⟨an,vns,rfl,han,hvns⟩:=Z13 c3
       cases hvns with
       | @cons vh vr' _ _ d1 d2=>
        obtain⟨rfl,_⟩:=Z1i d1
        cases d2 with
        | @cons vh2 vr2 _ _ d3 d4=>
         obtain⟨rfl,_⟩:=Z1i d3
         have han2:=Z76 _ _ han
         refine⟨_,rfl,rfl,_,rfl,Z1e (fun g2=>?_) (fun g2=>?_)⟩
         ·have hd2:d="opened":=by
           have g':=of_decide_eq_true g2
           injection g'
          have es:Z1v u (d,Th.tup (.at (.str w0) :: .at (.str x)::tr))=some ⟨u.L+1,push u.m x u.L,u.r⟩:=by
           unfold Z1v
           rw[if_neg hd,if_pos hd2]
           rfl
          rw[es] at hnext
          cases hnext
          have hpl:∀y,(push u.m x u.L y).length<=i+1:=fun y=>by
           unfold push
           split
           ·rw[length_append]
            have:=S.lens x
            simp
            omega
           ·exact Nat.le_succ_of_le (S.lens y)
          refine⟨_,rfl,ld,rfl,.inl ⟨kvs,.inl S.dict⟩,_,rfl,an,_,_,_,rfl,rfl,SqT.of han2,Z12 _ _ _,Nat.zero_le _,fun q hq=>?_⟩
          have s3:=Z01 (o:=.lst []) hq
          refine⟨kvs,.inr x,s3 _ _ S.dict,rfl,(by omega),fun v' hv=>?_,fun hv=>?_⟩
          ·obtain⟨b,rfl,hb⟩:=S.lt.d.at1 x v' hv
           have hb3:=s3 _ _ hb
           have hf:=S.lt.fr x b hv
           have hlen:=S.lens x
           refine⟨.inl ⟨rfl,_,SqL.of hb3⟩,_,rfl,b,_,_,rfl,rfl,hb3,(by rw[length_map];omega),?_⟩
           refine⟨_,rfl,_,_,rfl,rfl,⟨u.L+1,push u.m x u.L,u.r⟩,rws,kvs,_,_,rfl,hu',?_⟩
           have t3:Same (TO H2) (TO (upd (upd H2 q (.lst [])) b (.lst ((u.m x).map V.int ++ [.int u.L])))):=(Z77 s3).trans (Z84 hb3)
           refine⟨fun c o e=>?_,?_,Nat.le_succ_of_le hl1,IsThs.kp (Kp.of t3) S.rth,?_,IsThs.kp (Kp.of t3) S.wth,?_,Nat.le_succ_of_le hf1,?_,hpl⟩
           ·rw[Z0c (Z0j e hf.1)]
            exact s3 _ _ (S.same _ _ e)
           ·rw[Z0c hf.2.1.symm]
            exact s3 _ _ S.rows
           ·rw[Z0c hf.2.2.symm]
            exact s3 _ _ S.walk
           ·rw[Z0c (Z3c (s3 _ _ S.dict) hb3 (by intro q;cases q))]
            exact s3 _ _ S.dict
           ·have l3:Lt H ra wk (upd H2 q (.lst [])) kvs u.m:=S.lt.mono fun c xs _ e=>s3 _ _ e
            have:=l3.set hv (u.m x ++ [u.L])
            rw[map_append] at this
            exact this
          ·have hq0:H q=none:=Z2x S.same hq
           have hqr:q≠ra:=(Z0j S.rows hq).symm
           have hqw:q≠wk:=(Z0j S.walk hq).symm
           have hqd:q≠ld:=(Z0j S.dict hq).symm
           have q3:upd (upd H2 q (.lst [])) ld (.dK (Z3z kvs (.inr x) (.ref q))) q=some (.lst []):=by
            rw[Z0c hqd]
            exact Z00
           refine⟨.inl ⟨rfl,_,SqL.of q3⟩,_,rfl,q,_,_,rfl,rfl,q3,(by show 0<sizeLine;omega),?_⟩
           refine⟨_,rfl,_,_,rfl,rfl,⟨u.L+1,push u.m x u.L,u.r⟩,rws,Z3z kvs (.inr x) (.ref q),_,_,rfl,hu',?_⟩
           have hpk:=Z2w kvs (Sum.inr x:Key) (.ref q)
           have t3:=((Z77 s3).trans (Zpp (o:=.dK (Z3z kvs (.inr x) (.ref q))) (s3 _ _ S.dict))).trans (Z84 (o:=.lst ([] ++ [.int u.L])) q3)
           refine⟨fun c o e=>?_,?_,Nat.le_succ_of_le hl1,IsThs.kp (Kp.of t3) S.rth,?_,IsThs.kp (Kp.of t3) S.wth,?_,by omega,?_,hpl⟩
           ·rw[Z0c (Z0j e hq0),Z0c (Z0j e hld0)]
            exact s3 _ _ (S.same _ _ e)
           ·rw[Z0c hqr.symm,Z0c hrl]
            exact s3 _ _ S.rows
           ·rw[Z0c hqw.symm,Z0c (Z3c S.walk S.dict (by intro q;cases q))]
            exact s3 _ _ S.walk
           ·rw[Z0c hqd.symm]
            exact Z00
           ·refine S.lt.new hv hq hq0 hqr hqw Z00 fun c xs hc e=>?_
            rw[Z0c hc,Z0c (Z3c e S.dict (by intro q;cases q))]
            exact s3 _ _ e
         ·have hd2:d≠"opened":=fun z=>g2 (by rw[z];decide+kernel)
          have es:Z1v u (d,Th.tup (.at (.str w0) :: .at (.str x)::tr))=if u.m x = [] then none else some ⟨u.L-1,Zlj u.m x,u.r⟩:=by
           unfold Z1v
           rw[if_neg hd,if_neg hd2]
           rfl
          rw[es] at hnext
          by_cases hm:u.m x = []
          ·rw[if_pos hm] at hnext
           cases hnext
          rw[if_neg hm] at hnext
          cases hnext
          cases hv:Z2m kvs (.inr x) with
          |none=>exact absurd (S.lt.d.no x hv) hm
          |some v'=>
           obtain⟨b,rfl,hb⟩:=S.lt.d.at1 x v' hv
           have hf:=S.lt.fr x b hv
           have hml:u.m x=(u.m x).dropLast ++ [(u.m x).getLast hm]:=(dropLast_concat_getLast hm).symm
           refine⟨_,rfl,_,rfl,an,_,_,_,rfl,rfl,SqT.of han2,Z12 _ _ _,ld,.ref b,rfl,?_,.inl ⟨rfl,_,SqL.of hb⟩,b,_,.int ((u.m x).getLast hm),rfl,rfl,hb,?_,?_⟩
           ·rw[<- hv];exact DGet.k (k:=.inr x) S.dict
           ·conv=>lhs;rw[hml]
            rw[map_append]
            simp
           refine⟨_,rfl,_,_,rfl,rfl,⟨u.L-1,Zlj u.m x,u.r⟩,rws,kvs,_,_,rfl,hu',?_⟩
           have t3:Same (TO H2) (TO (upd H2 b (.lst ((u.m x).map V.int).dropLast))):=Z84 hb
           refine⟨fun c o e=>?_,?_,Nat.le_succ_of_le hl1,IsThs.kp (Kp.of t3) S.rth,?_,IsThs.kp (Kp.of t3) S.wth,?_,Nat.le_succ_of_le hf1,?_,fun y=>?_⟩
           ·rw[Z0c (Z0j e hf.1)]
            exact S.same _ _ e
           ·rw[Z0c hf.2.1.symm]
            exact S.rows
           ·rw[Z0c hf.2.2.symm]
            exact S.walk
           ·rw[Z0c (Z3c S.dict hb (by intro q;cases q))]
            exact S.dict
           ·have:=S.lt.set hv (u.m x).dropLast
            rw[<- List.map_dropLast]
            exact this
           ·show(Zlj u.m x y).length<=i+1
            unfold Zlj
            split
            ·rw[List.length_dropLast]
             have:=S.lens x
             omega
            ·exact Nat.le_succ_of_le (S.lens y)
   ·rintro σ H2 ⟨u,rws,kvs,o4,o5,rfl,hrun,S⟩
    rw[hwl,take_length,hrs] at hrun
    cases hrun
    exact⟨_,rfl,k ra rws rs H2 S.same hra S.rows (IsThs.kp (Kp.of Z76) S.rth) hrs⟩
end
def Zor:List Str->Str->Nat
 |[],_=>0
 |y::R,x=>if y=x then R.length else Zor R x
def lix (B:List Str)(x:Str):Nat:=Zor B.reverse x
theorem Zcv (B:List Str)(y x:Str):lix (B ++ [y]) x=if y=x then B.length else lix B x:=by
 unfold lix
 rw[List.reverse_append]
 show Zor (y::B.reverse) x=_
 rw[Zor,length_reverse]
theorem Zeb {p:List Str->Prop}(h0:p [])(h1:∀B y,p B->p (B ++ [y])):∀B,p B:=by
 intro B
 rw[<- List.reverse_reverse B]
 generalize B.reverse=R
 induction R with
 |nil=>exact h0
 |cons y R ih=>rw[reverse_cons];exact h1 _ _ ih
theorem Zk7:∀(B:List Str) {x:Str},x∈B->lix B x<B.length/\B[lix B x]? = some x/\∀j,lix B x<j->B[j]? ≠ some x:=by
 refine Zeb ?_ ?_
 ·intro x h;cases h
 ·intro B y ih x h
  rw[Zcv]
  by_cases e:y=x
  ·rw[if_pos e]
   refine⟨by rw[length_append,length_singleton];omega,by rw[List.getElem?_append_right (Nat.le_refl _),Nat.sub_self,e];rfl,fun j hj q=>?_⟩
   rw[List.getElem?_eq_none (by rw[length_append,length_singleton];omega)] at q
   cases q
  ·rw[if_neg e]
   have hx:x∈B:=by
    rcases mem_append.mp h with q|q
    ·exact q
    ·rw[mem_singleton] at q;exact absurd q.symm e
   obtain⟨h1,h2,h3⟩:=ih hx
   refine⟨by rw[length_append];omega,by rw[List.getElem?_append_left h1];exact h2,fun j hj q=>?_⟩
   by_cases hjl:j<B.length
   ·rw[List.getElem?_append_left hjl] at q
    exact h3 j hj q
   ·rw[List.getElem?_append_right (by omega)] at q
    cases hz:j-B.length with
    |zero=>rw[hz] at q;exact e (Option.some.inj q)
    |succ m=>rw[hz] at q;simp at q
def Z9h (n:Th)(B:List Str):Int:=if wd n="name"/\nm n∈B then (B.length:Int)-1-(lix B (nm n):Int) else -1
structure RelC (m:Mp)(B:List Str)(L:Int):Prop where
 iff:∀x,m x ≠ []↔x∈B
 lv:L=(B.length:Int)
 last:∀x∈B,(m x).getLastD 0=(lix B x:Int)
theorem RelC.push {m:Mp}{B:List Str}{L:Int}(h:RelC m B L)(x:Str):RelC (push m x L) (B ++ [x]) (L+1):=by
 refine⟨fun y=>?_,by rw[h.lv,length_append];simp,fun y hy=>?_⟩
 ·unfold K36.push
  rw[mem_append,mem_singleton,<- h.iff y]
  split
  ·next e=>simp [e]
  ·next e=>simp [e]
 ·unfold K36.push
  rw[Zcv]
  by_cases e:y=x
  ·rw[if_pos e,if_pos e.symm,getLastD_eq_getLast?,List.getLast?_concat,<- h.lv]
   rfl
  ·rw[if_neg e,if_neg (fun q=>e q.symm)]
   rcases mem_append.mp hy with q|q
   ·exact h.last y q
   ·rw[mem_singleton] at q;exact absurd q e
theorem Zo0 {m:Mp}{B:List Str}{L:Int}(h:RelC m B L)(n:Th):Z5k n m L=Z9h n B:=by
 unfold Z5k Z9h
 by_cases c:wd n="name"/\nm n∈B
 ·rw[if_pos ⟨c.1,(h.iff _).mpr c.2⟩,if_pos c,h.last _ c.2,h.lv]
 ·rw[if_neg (fun q=>c ⟨q.1,(h.iff _).mp q.2⟩),if_neg c]
mutual
def Z40:Th->List Str->List (Th×Int)
 | .tup xs,B=>(.tup xs,Z9h (.tup xs) B)::Zec (Z2r xs) (nm (.tup xs)) 0 xs B
 | .at _,_=>[]
 | .lst _,_=>[]
def Zec (l:Bool)(x:Str):Nat->List Th->List Str->List (Th×Int)
 |_,[],_=>[]
 |i,y::ys,B=>if isTup y=true then Z40 y (B++if l=true/\i=1 then [x] else [])++Zec l x (i+1) ys B else Zec l x i ys B
end
def Zar (l:Bool)(x:Str):Nat->List Th->List Str->List (Th×Int)
 |_,[],_=>[]
 |i,y::ys,B=>Z40 y (B++if l=true/\i=1 then [x] else [])++Zar l x (i+1) ys B
theorem Z79 (l:Bool)(x:Str)(B:List Str):∀(xs:List Th) (i:Nat),Zec l x i xs B=Zar l x i (Z1a xs) B:=by
 intro xs
 induction xs with
 |nil=>intro i;simp [Zec,Zar,Z1a]
 |cons y xs ih=>
  intro i
  rw[Zec]
  unfold Z1a
  rw[filter_cons]
  split
  ·rw[Zar,ih];rfl
  ·rw[ih];rfl
theorem Z7a (x:Str)(B:List Str):∀(ks:List Th) (i:Nat),Zar false x i ks B=(ks.map fun k=>Z40 k B).flatten:=by
 intro ks
 induction ks with
 |nil=>intro i;rfl
 |cons k ks ih=>intro i;rw[Zar,ih];simp
theorem Zj5:∀(n:Nat) (t:Th),OkN n t->∀(m:Mp) (B:List Str) (L:Int),RelC m B L->∀r,Z3w (Z0s t) ⟨L,m,r⟩=some ⟨L,m,r++Z40 t B⟩:=by
 intro n
 induction n with
 |zero=>intro t h;exact h.elim
 |succ n ih=>
  intro t h m B L hR
  obtain⟨w,ts,rfl,h1,h2,h3,h4⟩:=h
  have hk:∀k∈Z1a (Th.at (.str w)::ts),OkN n k:=fun k hk=>by
   unfold Z1a at hk
   rw[mem_filter] at hk
   rcases mem_cons.mp hk.1 with z|z
   ·subst z;cases hk.2
   ·exact h4 k z hk.2
  have hn:∀r,Z1v ⟨L,m,r⟩ ("node",.tup (.at (.str w)::ts))=some ⟨L,m,r ++ [(.tup (.at (.str w)::ts),Z9h (.tup (.at (.str w)::ts)) B)]⟩:=fun r=>by
   unfold Z1v
   rw[<- Zo0 hR]
   exact if_pos rfl
  rw[Z0s,Z40,Z3i,Z79]
  rw[show Z2r (Th.at (.str w)::ts)=decide (w="let") from rfl]
  by_cases hw:w="let"
  ·rw[decide_eq_true hw]
   obtain⟨x,tr,rfl⟩:=h2 (Or.inl hw)
   have hnm:nm (Th.tup (.at (.str w) :: .at (.str x)::tr))=x:=rfl
   have hl2:(Z1a (Th.at (.str w) :: .at (.str x)::tr)).length=2:=h1 hw
   match hks:Z1a (Th.at (.str w) :: .at (.str x)::tr),hl2,hk with
   |[a,b],_,hk=>
    have ea:=ih a (hk a (by simp)) m B L hR
    have eb:=ih b (hk b (by simp)) (push m x L) (B ++ [x]) (L+1) (hR.push x)
    intro r
    show(Z1v _ _).bind (Z3w _)=_
    rw[hn]
    show Z3w _ _=_
    rw[Z2s,Z2s,Z2s,Z4d,ea]
    show Z3w _ _=_
    simp only [Z38,if_true]
    show(Z1v _ _).bind (Z3w _)=_
    have e1:∀r,Z1v ⟨L,m,r⟩ ("opened",.tup (.at (.str w) :: .at (.str x)::tr))=some ⟨L+1,push m x L,r⟩:=fun r=>by
     unfold Z1v
     rw[if_neg Zgm,if_pos rfl]
     rfl
    rw[e1]
    show Z3w (Z0s b++_) _=_
    rw[Z4d,eb]
    show(Z1v _ _).bind (Z3w _)=_
    have e2:∀r,Z1v ⟨L+1,push m x L,r⟩ ("closed",.tup (.at (.str w) :: .at (.str x)::tr))=some ⟨L,m,r⟩:=fun r=>by
     unfold Z1v
     rw[if_neg Zgn,if_neg Zk6,hnm]
     have:push m x L x ≠ []:=by unfold push;simp
     rw[if_neg this,Zcu]
     simp
    rw[e2]
    show some _=some _
    simp [Zar,hnm]
  ·rw[decide_eq_false hw,Z48,Z7a]
   have main:∀(ks:List Th),(∀k∈ks,OkN n k)->∀r,Z3w (ks.map Z0s).flatten ⟨L,m,r⟩=some ⟨L,m,r++(ks.map fun k=>Z40 k B).flatten⟩:=by
    intro ks
    induction ks with
    |nil=>intro _ r;simp [Z3w]
    |cons k ks ihk=>
     intro hks r
     rw[map_cons,flatten_cons,Z4d,ih k (hks k (mem_cons_self ..)) m B L hR]
     show Z3w _ _=_
     rw[ihk fun y hy=>hks y (mem_cons_of_mem _ hy)]
     simp
   intro r
   show(Z1v _ _).bind (Z3w _)=_
   rw[hn]
   show Z3w _ _=_
   rw[main _ hk]
   simp
theorem Zbi {N:Nat}{t:Th}{rs:List (Th×Int)}(h:OkN N t)(o:OwR t rs):rs=Z40 t []:=by
 have e:=Zj5 N t h (fun _=>[]) [] 0 ⟨fun x=>by simp,rfl,fun x hx=>by cases hx⟩ []
 have:=o.symm.trans e
 injection this with this
 injection this
def Zgq:Th->List Th
 | .tup xs=>Ze6 xs
 |_=>[]
def Zos:Th->Nat
 | .tup xs=>(Z1a xs).length
 |_=>0
def shH (n:Th)(o:Int):List Th:=
 if wd n="let" then [.at (.str "let")]
 else if 0<=o then [.at (.str "own"),.at (.int o)]
 else Zgq n
mutual
def shT:Th->List Str->Th
 | .tup xs,B=>.tup (shH (.tup xs) (Z9h (.tup xs) B)++shI (Z2r xs) (nm (.tup xs)) 0 xs B)
 | .at v,_=>.at v
 | .lst xs,_=>.lst xs
def shI (l:Bool)(x:Str):Nat->List Th->List Str->List Th
 |_,[],_=>[]
 |i,y::ys,B=>if isTup y=true then shT y (B++if l=true/\i=1 then [x] else [])::shI l x (i+1) ys B else shI l x i ys B
end
def shK (l:Bool)(x:Str):Nat->List Th->List Str->List Th
 |_,[],_=>[]
 |i,y::ys,B=>shT y (B++if l=true/\i=1 then [x] else [])::shK l x (i+1) ys B
theorem Zgr (l:Bool)(x:Str)(B:List Str):∀(xs:List Th) (i:Nat),shI l x i xs B=shK l x i (Z1a xs) B:=by
 intro xs
 induction xs with
 |nil=>intro i;simp [shI,shK,Z1a]
 |cons y xs ih=>
  intro i
  rw[shI]
  unfold Z1a
  rw[filter_cons]
  split
  ·rw[shK,ih];rfl
  ·rw[ih];rfl
theorem Zgs (x:Str)(B:List Str):∀(ks:List Th) (i:Nat),shK false x i ks B=ks.map fun k=>shT k B:=by
 intro ks
 induction ks with
 |nil=>intro i;rfl
 |cons k ks ih=>intro i;rw[shK,ih];simp
theorem Z6e (w:Str)(hd:List V)(ks:List Th):Z2r (.at (.str w)::(hd.map Th.at++ks))=decide (w="let"):=rfl
section
variable {w:Str}{hd:List V}{ks:List Th}{B:List Str}
theorem Z98:wd (nd w hd ks)=w:=rfl
theorem Zps {x:Str}:nm (nd w [.str x] ks)=x:=rfl
theorem Zbj (nk:∀k∈ks,L2.isTup k=true):Zos (nd w hd ks)=ks.length:=by
 show(Z1a (.at (.str w)::(hd.map Th.at++ks))).length=_
 rw[Z5u nk]
theorem Zgt (nk:∀k∈ks,L2.isTup k=true)(hw:w≠"let"):Z40 (nd w hd ks) B=(nd w hd ks,Z9h (nd w hd ks) B)::(ks.map fun k=>Z40 k B).flatten:=by
 unfold nd
 rw[Z40,Z79,Z6e,decide_eq_false hw,Z7a,Z5u nk]
theorem Zcw {x:Str}{a b:Th}(ha:L2.isTup a=true)(hb:L2.isTup b=true):Z40 (nd "let" [.str x] [a,b]) B=(nd "let" [.str x] [a,b],-1)::(Z40 a B++Z40 b (B ++ [x])):=by
 have e:Z9h (nd "let" [.str x] [a,b]) B = -1:=by
  unfold Z9h
  rw[Z98,if_neg (fun q=>absurd q.1 (by decide+kernel))]
 have h:=e
 unfold nd at h ⊢
 rw[Z40,Z79,Z6e,h,Z5u (Z3a ha hb)]
 have hn:nm (.tup (.at (.str "let")::(([.str x]:List V).map Th.at ++ [a,b])))=x:=rfl
 rw[hn]
 simp [Zar]
theorem Zlp (nk:∀k∈ks,L2.isTup k=true)(hw:w≠"let"):shT (nd w hd ks) B = .tup (shH (nd w hd ks) (Z9h (nd w hd ks) B)++ks.map fun k=>shT k B):=by
 unfold nd
 rw[shT,Zgr,Z6e,decide_eq_false hw,Zgs,Z5u nk]
theorem Zgu {x:Str}{a b:Th}(ha:L2.isTup a=true)(hb:L2.isTup b=true):shT (nd "let" [.str x] [a,b]) B = .tup [.at (.str "let"),shT a B,shT b (B ++ [x])]:=by
 have e:shH (nd "let" [.str x] [a,b]) (Z9h (nd "let" [.str x] [a,b]) B) = [.at (.str "let")]:=by
  unfold shH
  rw[Z98,if_pos rfl]
 have h:=e
 unfold nd at h ⊢
 rw[shT,Zgr,Z6e,h,Z5u (Z3a ha hb)]
 have hn:nm (.tup (.at (.str "let")::(([.str x]:List V).map Th.at ++ [a,b])))=x:=rfl
 rw[hn]
 simp [shK]
end
theorem PfT.cases {S:SS}{n:Nat}{t:Th}(h:PfT S (n+1) t):(∃x a b,t=nd "let" [.str x] [a,b]/\NmU S x/\PfT S n a/\PfT S n b) ∨
  ∃w hd ks,t=nd w hd ks/\w≠"let"/\Sh S w hd ks.length/\hd.length<=1/\ks.length<=6/\∀k∈ks,PfT S n k:=by
 obtain⟨w,hd,ks,rfl,h1,h2,h3,h4,h5,h6⟩:=h
 by_cases hw:w="let"
 ·left
  have sh:=h4.sh
  obtain⟨⟨x,rfl⟩,hl⟩:=h3 hw
  match ks,hl,h6 with
  |[a,b],_,h6=>
   subst hw
   refine⟨x,a,b,rfl,?_,h6 a (by simp),h6 b (by simp)⟩
   generalize [a,b].length=m at sh
   cases sh with
   |lt h=>exact h
 ·exact .inr ⟨w,hd,ks,rfl,hw,h4.sh,h1,h5,h6⟩
theorem Zk8 {S:SS}:∀(n:Nat) {t:Th},PfT S n t->OkN n t:=by
 intro n
 induction n with
 |zero=>intro t h;exact h.elim
 |succ n ih=>
  intro t h
  obtain⟨w,hd,ks,rfl,h1,h2,h3,h4,h5,h6⟩:=h
  have nk:∀k∈ks,L2.isTup k=true:=fun k hk=>(h6 k hk).isTup
  refine⟨w,hd.map Th.at++ks,rfl,fun e=>?_,fun e=>?_,fun x hx=>?_,fun x hx ht=>?_⟩
  ·rw[Z4b nk];exact(h3 e).2
  ·have:∃x:Str,hd = [.str x]:=by
    rcases e with q|q|q
    ·exact(h3 q).1
    ·exact h4.st (.inr q)
    ·exact h4.st (.inl q)
   obtain⟨x,rfl⟩:=this
   exact⟨x,ks,rfl⟩
  ·rcases mem_append.mp hx with z|z
   ·obtain⟨v,_,rfl⟩:=mem_map.mp z
    exact .inr ⟨v,rfl⟩
   ·exact .inl (nk x z)
  ·rcases mem_append.mp hx with z|z
   ·obtain⟨v,_,rfl⟩:=mem_map.mp z
    cases ht
   ·exact ih (h6 x z)
def Z99 (q:Th×Int):Th:=.tup [.tup (shH q.1 q.2),.at (.int (Zos q.1:Nat))]
def bst:Th->List Th->Option (List Th)
 | .tup [.tup ls,.at (.int m)],D=>if m.toNat<=D.length then some (D.take (D.length-m.toNat) ++ [.tup (ls++(D.drop (D.length-m.toNat)).reverse)]) else none
 |_,_=>none
def Zed (R:List Th)(x:Option (List Th)):Option (List Th):=R.foldr (fun row acc=>acc.bind (bst row)) x
theorem Z9a (A B:List Th)(x:Option (List Th)):Zed (A++B) x=Zed A (Zed B x):=by
 unfold Zed;rw[List.foldr_append]
theorem Z5g (a:Th)(B:List Th)(x:Option (List Th)):Zed (a::B) x=(Zed B x).bind (bst a):=rfl
theorem Zgv:∀{A:List Th} {x:Option (List Th)} {D:List Th},Zed A x=some D->∃D',x=some D':=by
 intro A
 induction A with
 |nil=>intro x D h;exact⟨D,h⟩
 |cons a A ih=>
  intro x D h
  rw[Z5g] at h
  obtain⟨D1,h1,_⟩:=Option.bind_eq_some_iff.mp h
  exact ih h1
theorem Zgw (ls D K:List Th)(m:Nat)(hm:K.length=m):bst (.tup [.tup ls,.at (.int (m:Nat))]) (D++K.reverse)=some (D ++ [.tup (ls++K)]):=by
 unfold bst
 dsimp only
 rw[Int.toNat_natCast,length_append,length_reverse,hm,if_pos (by omega),show D.length+m-m=D.length by omega,take_left,List.drop_left,List.reverse_reverse]
theorem Zgx {S:SS}:∀(n:Nat) {t:Th},PfT S n t->∀(B:List Str) (D:List Th),Zed ((Z40 t B).map Z99) (some D)=some (D ++ [shT t B]):=by
 intro n
 induction n with
 |zero=>intro t h;exact h.elim
 |succ n ih=>
  intro t h B D
  rcases h.cases with ⟨x,a,b,rfl,_,ha,hb⟩|⟨w,hd,ks,rfl,hw,sh,h1,h5,h6⟩
  ·rw[Zcw ha.isTup hb.isTup,Zgu ha.isTup hb.isTup,map_cons,Z5g,map_append,Z9a,ih hb,ih ha]
   have e:Z99 (nd "let" [.str x] [a,b],-1) = .tup [.tup [.at (.str "let")],.at (.int (2:Nat))]:=by
    unfold Z99 shH
    rw[Z98,if_pos rfl]
    rw[Zbj (Z3a ha.isTup hb.isTup)]
    rfl
   rw[e]
   have:=Zgw [.at (.str "let")] D [shT a B,shT b (B ++ [x])] 2 rfl
   simpa using this
  ·have nk:∀k∈ks,L2.isTup k=true:=fun k hk=>(h6 k hk).isTup
   rw[Zgt nk hw,Zlp nk hw,map_cons,Z5g]
   have main:∀l:List Th,(∀k∈l,PfT S n k)->Zed (((l.map fun k=>Z40 k B).flatten).map Z99) (some D)=some (D++(l.map fun k=>shT k B).reverse):=by
    intro l
    induction l with
    |nil=>intro _;simp [Zed]
    |cons k l il=>
     intro hl
     rw[map_cons,flatten_cons,map_append,Z9a,il fun y hy=>hl y (mem_cons_of_mem _ hy),ih (hl k (mem_cons_self ..))]
     simp
   rw[main ks h6]
   have e:Zos (nd w hd ks)=ks.length:=Zbj nk
   show bst (Z99 (nd w hd ks,Z9h (nd w hd ks) B)) _=_
   unfold Z99
   rw[e]
   exact Zgw _ D _ _ (by rw[length_map])
end K36
namespace K36
open PySem L2
inductive spBareHead_ (N:Nat)(vs:List V)(H:Hp)(Q:VK):Prop
 |mk (v:V) (n:Th) (o:Int) (_:vs = [v,.int o]) (_:IsTh H v n) (_:OkN N n) (_:Th.sz n<=100000) (_:∀(p:Addr) H',Same H H'->IsTh H' (.ref p) (.tup (shH n o))->Q (.ref p) H'):spBareHead_ N vs H Q
def Z85 (N:Nat):Sp:=fun vs H Q _=>spBareHead_ N vs H Q
section
variable {P:Program}{w:World}{K:W.Frag}{mg:Str->Option Value}{base:Heap}
theorem Zee:FnScope ["node","own"] ["node","own"] (Z04 Z49):=.q
theorem Zbk {f fH:Addr}{fd dH:FuncData}(F:Fun K "bare_head" "bare_head" Z49 f fd)(T:TxtT mg)(KI:Kits K)(FH:Fn K mg "head" Zbc ["node"] fH dH)(N:Nat):FnOk P w K mg base CX0 2 f fd ["node","own"] (Z85 N):=by
 have GH:FnOk P w K mg base CX0 1 fH dH ["node"] spHead:=Zlh FH.F T KI
 refine F.ok Zee (fun vs H Q E h=>?_) (fun cdv A outer s H vs Q E hr h=>?_)
 ·obtain⟨v,n,o,rfl,_⟩:=h
  rfl
 ·obtain⟨v,n,o,rfl,hv,hok,hz,k⟩:=h
  have hsz:=sizeLine_eq
  refine'⟨?tt,?body,?fin⟩
  case body=>
   refine' Z05 ?s1 (Z05 ?s2 (Z07 ?s3))
   case s1=>exact Z11 (Z09 Z1f (Z0q Z0x (pv 0) Z03 (fun _ _=>rfl)) Z08 (Z0i _)) (Z07 (Z0h (Z0v (Z18 Z08 Z02)))) Z0k
   case s2=>exact Z11 (Z09 Zmx (pv 1) Z03 (Z0i _)) (Z07 (Z0h (Z0v (Z18 Z08 (Z0e (pv 1) Z02))))) Z0k
   case s3=>exact Z0h (Z06 GH hr (by rfl) FH.m FH.F.kp FH.b .nil Z0f (Z0e (pv 0) Z02))
  case fin=>
   cases N with
   |zero=>exact hok.elim
   |succ N=>
    obtain⟨w0,ts,rfl,_⟩:=hok
    obtain⟨a,vs,rfl,ha,hvs⟩:=Z13 hv
    have hwd:wd (Th.tup (.at (.str w0)::ts))=w0:=rfl
    unfold shH at k
    rw[hwd] at k
    cases hvs with
    | @cons v1 vr _ _ c1 c2=>
     obtain⟨rfl,_⟩:=Z1i c1
     refine⟨_,rfl,a,_,_,_,rfl,rfl,SqT.of ha,Z1b _ _,rfl,_,rfl,Z1e (fun g=>?_) (fun g=>?_)⟩
     ·have hw:w0="let":=by
       have g':=of_decide_eq_true g
       injection g'
      refine⟨(by show 1<=sizeLine;decide),fun p hp=>k p _ (Z01 hp) ?_⟩
      rw[if_pos hw]
      exact .tup Z00 (.cons (.at (by decide+kernel)) .nil)
     ·have hw:w0≠"let":=fun z=>g (by rw[z];decide+kernel)
      rw[if_neg hw] at k
      refine⟨_,rfl,_,_,rfl,rfl,_,rfl,Z1e (fun g2=>?_) (fun g2=>?_)⟩
      ·have ho:0<=o:=of_decide_eq_true g2
       refine⟨_,rfl,(by show 2<=sizeLine;decide),fun p hp=>k p _ (Z01 hp) ?_⟩
       rw[if_pos ho]
       exact .tup Z00 (.cons (.at (by decide+kernel)) (.cons (.at rfl) .nil))
      ·have ho:¬ 0<=o:=fun z=>g2 (decide_eq_true z)
       rw[if_neg ho] at k
       have hl:=Zb8 ts
       have hz2:Th.sz (.tup (.at (.str w0)::ts))=1+(1+szs ts):=by simp only [Th.sz,szs]
       refine⟨_,rfl,H,.ref a,_,rfl,Same.refl _,hv,by rw[length_cons];omega,fun p ws H' s' hp hws=>k p H' s' (.tup hp (IsThs.kp (Kp.of s') hws))⟩
end
mutual
theorem Zcx:∀(t:Th) (N:Nat),OkT N t->Th.sz t<=100000->∀x∈Z0s t,OkT N x.2/\Th.sz x.2<=100000
 | .tup xs,N,h,hz,x,hx=>by
  rw[Z0s] at hx
  rcases mem_cons.mp hx with z|z
  ·subst z;exact⟨h,hz⟩
  ·cases N with
   |zero=>exact h.elim
   |succ N=>
    refine Zcy (Z2r xs) (.tup xs) xs N 0 ?_ h hz ?_ x z
    ·intro y hy hyt
     obtain⟨w,ts,e,_,h2⟩:=h
     cases e
     rcases mem_cons.mp hy with q|q
     ·subst q;cases hyt
     ·exact h2 y q hyt
    ·rw[Th.sz] at hz;omega
 | .at _,N,h,hz,x,hx=>by simp [Z0s] at hx
 | .lst _,N,h,hz,x,hx=>by simp [Z0s] at hx
theorem Zcy (l:Bool)(me:Th):∀(xs:List Th) (N i:Nat),(∀y∈xs,isTup y=true->OkT N y)->OkT (N+1) me->Th.sz me<=100000->szs xs<=100000->∀x∈Z2y l me i xs,OkT (N+1) x.2/\Th.sz x.2<=100000
 |[],N,i,h,hm,hz,hs,x,hx=>by simp [Z2y] at hx
 |y::ys,N,i,h,hm,hz,hs,x,hx=>by
  rw[Z2y] at hx
  rw[szs] at hs
  have hr:=fun j z=>Zcy l me ys N j (fun q hq=>h q (mem_cons_of_mem _ hq)) hm hz (by omega) x z
  split at hx
  ·rcases mem_append.mp hx with z|z
   ·have:=Zcx y N (h y (mem_cons_self ..) ‹_›) (by omega) x z
    exact⟨this.1.up,this.2⟩
   ·rcases mem_append.mp z with z|z
    ·have e:x.2=me:=by
      match i with
      | 0=>cases l <;> simp [Z38] at z;rw[z]
      | 1=>cases l <;> simp [Z38] at z;rw[z]
      |_+2=>simp [Z38] at z
     rw[e];exact⟨hm,hz⟩
    ·exact hr _ z
  ·exact hr _ hx
end
mutual
theorem Zo1 {H:Hp}:∀{v:V} {t:Th},IsTh H v t->plT t=true->IsTh (TO H) v t
 |_,_,.at f,_=>.at f
 |_,_,.tup e r,p=>by
  rw[plT] at p
  exact .tup (Zaq e) (Zbl r p)
 |_,_,.lst e r,p=>by rw[plT] at p;cases p
theorem Zbl {H:Hp}:∀{vs:List V} {ts:List Th},IsThs H vs ts->Z4q ts=true->IsThs (TO H) vs ts
 |_,_,.nil,_=>.nil
 |_,_,.cons e r,p=>by
  rw[Z4q,Bool.and_eq_true] at p
  exact .cons (Zo1 e p.1) (Zbl r p.2)
end
def Zpt (r:Th):Prop:=∃(ls:List Th) (m:Nat),r = .tup [.tup ls,.at (.int (m:Nat))]/\m<=6/\ls.length<=1000/\Z4q ls=true
inductive spBuilt_ (vs:List V)(H:Hp)(Q:VK):Prop
 |mk (ra:Addr) (ws:List V) (R:List Th) (u:Th) (_:vs = [.ref ra]) (_:H ra=some (.lst ws)) (_:IsThs H ws R) (_:(∀r∈R,Zpt r)) (_:Zed R (some [])=some [u]) (_:R.length<=100000) (_:∀(v:V) H',Same H H'->IsTh H' v u->Q v H'):spBuilt_ vs H Q
def spBuilt:Sp:=fun vs H Q _=>spBuilt_ vs H Q
theorem Zlq {r:Th}(h:Zpt r):plT r=true:=by
 obtain⟨ls,m,rfl,_,_,hp⟩:=h
 simp [plT,Z4q,hp]
section
variable {P:Program}{w:World}{K:W.Frag}{mg:Str->Option Value}{base:Heap}
theorem scBuilt:FnScope ["rows","done","lead","many","start","inner"] ["rows"] (Z04 Zae):=.q
theorem Zj6 {f:Addr}{fd:FuncData}(F:Fun K "built" "built" Zae f fd)(T:TxtT mg)(hrev:mg "reversed"=none):FnOk P w K mg base CX0 1 f fd ["rows"] spBuilt:=by
 refine F.ok scBuilt (fun vs H Q E h=>?_) (fun cdv A outer s H vs Q E hr h=>?_)
 ·obtain⟨ra,ws,R,u,rfl,_⟩:=h
  rfl
 ·obtain⟨ra,ws,R,u,rfl,hra,hws,hR,run,hRl,k⟩:=h
  have hsz:=sizeLine_eq
  refine'⟨?tt,?body,?fin⟩
  case body=>
   refine' Z05 ?s1 (Z05 ?s2 (Z07 ?s3))
   case s1=>exact Z0a (i:=1) scBuilt.nd rfl (Or.inl rfl) (Z14 Z02)
   case s2=>
    refine' Z43 PassesOwn.never rfl (Znh (by rfl) hrev (Z0e (pv 0) Z02)) (Z4y rfl (Z17 (Z0l (i:=2) scBuilt.nd rfl (Or.inl rfl)) (Z17 (Z0l (i:=3) scBuilt.nd rfl (Or.inl rfl)) Z3s))) (Z05 ?b1 (Z05 ?b2 (Z05 ?b3 (Z07 ?b4))))
    case b1=>exact Z0a (i:=4) scBuilt.nd rfl (Or.inl rfl) (Z0m Z24 (Z0r Z0u (by rfl) T.len PySem.boot_len (Z0e (pv 1) Z02)) (pv 3))
    case b2=>exact Z0a (i:=5) scBuilt.nd rfl (Or.inl rfl) (Z1d Z2l (pv 1) (Z1m (pv 4)) Z1p)
    case b3=>exact Zea (pv 1) (Z1m (pv 4))
    case b4=>exact Z42 (Z8h PySem.F.plainAttrs_list PySem.F.slot_list_append PySem.F.type_list_append Z3g (pv 1) (Z0b (Z0m Zfm (pv 2) (Z15 Z0w (by rfl) T.tup (by decide+kernel) (Z0b (Zfi (pv 5) (Zew Z9o Z03)) Z02))) Z02))
   case s3=>exact Z0h (Z0q Z16 (pv 1) Z03 (fun _ _=>rfl))
  case fin=>
   refine⟨Nat.zero_le _,fun dn hdn=>?_⟩
   have s0:=Z01 (o:=.lst []) hdn
   have hrd:ra≠dn:=Z0j hra hdn
   have hwl:=IsThs.len _ hws
   have hra1:=s0 _ _ hra
   have hdn1:upd H dn (.lst []) dn=some (.lst []):=Z00
   have hplR:Z4q R=true:=Z21 fun r hr=>Zlq (hR r hr)
   have hws1:IsThs (TO (upd H dn (.lst []))) ws R:=Zbl (IsThs.kp (Kp.of s0) hws) hplR
   refine⟨_,rfl,ra,ws,rfl,hra1,Zl1 (K:=K) (a:=ra) (xs:=ws) (fun i σ H'=>∃(D:List Th) (dv:List V) (o3 o4 o5 o6:Option V),σ = [some (.ref ra),some (.ref dn),o3,o4,o5,o6]/\Zed (R.drop (ws.length-i)) (some [])=some D/\D.length<=i/\H' dn=some (.lst dv)/\IsThs (TO H') dv D/\But dn H H'/\IsThs (TO H') ws R)
    ⟨[],[],none,none,none,none,rfl,by rw[Nat.sub_zero,List.drop_of_length_le (Nat.le_of_eq hwl.symm)];rfl,Nat.le_refl _,hdn1,.nil,But.of s0,hws1⟩ (fun i σ H' _ ⟨_,_,_,_,_,_,_,_,_,_,_,b,_⟩=>SqL.of (b _ _ hra hrd)) ?_ ?_⟩
   ·rintro i x σ H2 hi hx ⟨D,dv,o3,o4,o5,o6,rfl,hD,hDl,hdn2,hdv,B2,hws2⟩
    obtain⟨row,hrow,hxr⟩:=Z1c _ hws2 hx
    have hmem:=mem_of_getElem? hrow
    obtain⟨ls,m,rfl,hm6,hls,hlp⟩:=hR row hmem
    obtain⟨a,vs,rfl,ha,hvs⟩:=Z13 hxr
    have hdvl:=IsThs.len _ hdv
    have hdrop:R.drop (ws.length-(i+1)) = .tup [.tup ls,.at (.int (m:Nat))]::R.drop (ws.length-i):=by
     rw[show ws.length-(i+1)=ws.length-1-i by omega,List.drop_eq_getElem?_toList_append,hrow,show ws.length-1-i+1=ws.length-i by omega]
     rfl
    have hsome:∃D',Zed (R.drop (ws.length-(i+1))) (some [])=some D':=by
     have e:=run
     rw[<- take_append_drop (ws.length-(i+1)) R,Z9a] at e
     exact Zgv e
    obtain⟨D',hD'⟩:=hsome
    have hst:=hD'
    rw[hdrop,Z5g,hD] at hst
    have hst2:(if ((m:Nat):Int).toNat<=D.length then some (D.take (D.length-((m:Nat):Int).toNat) ++ [.tup (ls++(D.drop (D.length-((m:Nat):Int).toNat)).reverse)]) else none)=some D':=hst
    rw[Int.toNat_natCast] at hst2
    by_cases hmD:m<=D.length
    ·rw[if_pos hmD] at hst2
     have hD2:=Option.some.inj hst2
     cases hvs with
     | @cons v1 vr _ _ d1 d2=>
      cases d2 with
      | @cons v2 vr2 _ _ d3 d4=>
       cases d4
       obtain⟨rfl,_⟩:=Z1i d3
       obtain⟨la,lvs,rfl,hla,hlvs⟩:=Z13 d1
       have hll:=IsThs.len _ hlvs
       refine⟨a,_,rfl,SqT.of (Z76 _ _ ha),rfl,_,_,rfl,_,_,rfl,rfl,?_⟩
       refine⟨_,rfl,dn,_,rfl,.inl (SqL.of hdn2),_,rfl,_,_,rfl,rfl,?_⟩
       refine⟨_,rfl,_,rfl,_,rfl,dn,_,rfl,SqL.of hdn2,fun p1 hp1=>?_⟩
       rw[Z3k (by omega) (by omega)]
       have e1:((dv.length:Int)-(m:Int)).toNat=D.length-m:=by omega
       rw[e1]
       have s3:=Z01 (o:=.lst (dv.drop (D.length-m))) hp1
       have hdn3:=s3 _ _ hdn2
       have hp1d:p1≠dn:=fun q=>by rw[q,hdn2] at hp1;cases hp1
       refine⟨_,rfl,_,rfl,_,rfl,dn,dv,_,rfl,rfl,hdn3,by omega,by omega,?_⟩
       rw[e1]
       have P4:upd (upd H2 p1 (.lst (dv.drop (D.length-m)))) dn (.lst (dv.take (D.length-m))) p1=some (.lst (dv.drop (D.length-m))):=by rw[Z0c hp1d];exact Z00
       have N4:upd (upd H2 p1 (.lst (dv.drop (D.length-m)))) dn (.lst (dv.take (D.length-m))) dn=some (.lst (dv.take (D.length-m))):=Z00
       have t4:Same (TO H2) (TO (upd (upd H2 p1 (.lst (dv.drop (D.length-m)))) dn (.lst (dv.take (D.length-m))))):=(Z77 s3).trans (Z84 hdn3)
       have B4:But dn H (upd (upd H2 p1 (.lst (dv.drop (D.length-m)))) dn (.lst (dv.take (D.length-m)))):=fun b o e hb=>by rw[Z0c hb];exact s3 _ _ (B2 b o e hb)
       generalize upd (upd H2 p1 (.lst (dv.drop (D.length-m)))) dn (.lst (dv.take (D.length-m)))=H4 at P4 N4 t4 B4
       refine⟨_,rfl,.inl ⟨rfl,_,SqL.of N4⟩,_,rfl,_,rfl,_,rfl,rfl,p1,_,rfl,SqL.of P4,fun p2 hp2=>?_⟩
       have s5:=Z01 (o:=.lst (dv.drop (D.length-m)).reverse) hp2
       refine⟨p2,_,rfl,.inl ⟨SqL.of Z00,fun p3 hp3=>?_⟩⟩
       have s6:=Z01 (o:=.tup (dv.drop (D.length-m)).reverse) hp3
       have s56:=s5.trans s6
       have hla6:=s56 _ _ (Z76 _ _ (t4 _ _ hla))
       refine⟨la,p3,_,_,rfl,rfl,hla6,Z00,by rw[length_reverse,length_drop];omega,fun p4 H7 s7 hp4=>?_⟩
       have s47:=s56.trans s7
       have N7:=s47 _ _ N4
       have t7:=t4.trans (Z77 s47)
       refine⟨dn,_,_,rfl,rfl,N7,by rw[length_take];omega,?_⟩
       have t8:=t7.trans (Z84 (o:=.lst (dv.take (D.length-m) ++ [.ref p4])) N7)
       have hdv8:=IsThs.kp (Kp.of t8) hdv
       refine⟨D',_,_,_,_,_,rfl,hD',?_,Z00,?_,fun b o e hb=>?_,IsThs.kp (Kp.of t8) hws2⟩
       ·rw[<- hD2,length_append,length_take,length_singleton]
        omega
       ·rw[<- hD2]
        refine IsThs.app _ (Z8s _ hdv8) (.cons (.tup (Zaq ?_) (IsThs.app _ (IsThs.kp (Kp.of t8) hlvs) (Zfn _ (Zch _ hdv8)))) .nil)
        rw[Z0c (fun q=>by rw[q,N7] at hp4;cases hp4)]
        exact hp4
       ·rw[Z0c hb]
        exact s47 _ _ (B4 b o e hb)
    ·rw[if_neg hmD] at hst2
     cases hst2
   ·rintro σ H2 ⟨D,dv,o3,o4,o5,o6,rfl,hD,hDl,hdn2,hdv,B2,_⟩
    rw[Nat.sub_self,drop_zero,run] at hD
    have hD2:=Option.some.inj hD
    subst hD2
    cases hdv with
    | @cons v1 vr _ _ d1 d2=>
     refine⟨_,rfl,dn,_,_,v1,rfl,rfl,SqL.of hdn2,Z1b _ _,k v1 H2 (fun b o e=>B2 b o e (Z0j e hdn)) (IsTh.kp (Kp.of Z76) d1)⟩
end
theorem Zlr {S:SS}:∀(n:Nat) {t:Th},PfT S n t->∀(B:List Str),∀q∈Z40 t B,PfT S n q.1:=by
 intro n
 induction n with
 |zero=>intro t h;exact h.elim
 |succ n ih=>
  intro t h B q hq
  have me:=h
  rcases h.cases with ⟨x,a,b,rfl,_,ha,hb⟩|⟨w,hd,ks,rfl,hw,sh,h1,h5,h6⟩
  ·rw[Zcw ha.isTup hb.isTup] at hq
   rcases mem_cons.mp hq with z|z
   ·rw[z];exact me
   ·rcases mem_append.mp z with z|z
    ·exact(ih ha B q z).up
    ·exact(ih hb _ q z).up
  ·rw[Zgt (fun k hk=>(h6 k hk).isTup) hw] at hq
   rcases mem_cons.mp hq with z|z
   ·rw[z];exact me
   ·obtain⟨l,hl,hx⟩:=List.mem_flatten.mp z
    obtain⟨k,hk,rfl⟩:=mem_map.mp hl
    exact(ih (h6 k hk) B q hx).up
theorem Zef {n:Th}{B:List Str}(h1:wd n="name")(h2:nm n∈B):Z9h n B=(B.length:Int)-1-(lix B (nm n):Int)/\0<=Z9h n B:=by
 have e:Z9h n B=(B.length:Int)-1-(lix B (nm n):Int):=by unfold Z9h;rw[if_pos ⟨h1,h2⟩]
 have:=(Zk7 B h2).1
 exact⟨e,by rw[e];omega⟩
theorem Zj7 {n:Th}{B:List Str}(h:¬ (wd n="name"/\nm n∈B)):Z9h n B = -1:=by unfold Z9h;rw[if_neg h]
theorem Zj8 {S:SS}{n:Nat}{t:Th}{o:Int}(h:PfT S n t):∃l:List V,shH t o=l.map Th.at/\(∀v∈l,plT (.at v)=true)/\l.length<=2:=by
 cases n with
 |zero=>exact h.elim
 |succ n=>
  obtain⟨w,hd,ks,rfl,h1,h2,h3,h4,h5,h6⟩:=h
  have e:Zgq (nd w hd ks) = .at (.str w)::hd.map Th.at:=Z8y fun k hk=>(h6 k hk).isTup
  unfold shH
  rw[e]
  split
  ·exact⟨[_],rfl,Z1o rfl,by show 1<=2;decide⟩
  ·split
   ·exact⟨[_,_],rfl,Z3a rfl rfl,Nat.le_refl _⟩
   ·refine⟨.str w::hd,rfl,fun v hv=>?_,by rw[length_cons];omega⟩
    rcases mem_cons.mp hv with z|z
    ·rw[z];rfl
    ·exact h2 v z
theorem Zo2 {l:List V}(h:∀v∈l,plT (.at v)=true):Z4q (l.map Th.at)=true:=Z21 fun y hy=>by
 obtain⟨v,hv,rfl⟩:=mem_map.mp hy
 exact h v hv
theorem Zpu {S:SS}{n:Nat}{q:Th×Int}(h:PfT S n q.1):Zpt (Z99 q):=by
 obtain⟨l,e,h1,h2⟩:=Zj8 (o:=q.2) h
 refine⟨shH q.1 q.2,Zos q.1,rfl,?_,by rw[e,length_map];omega,by rw[e];exact Zo2 h1⟩
 cases n with
 |zero=>exact h.elim
 |succ n=>
  obtain⟨w,hd,ks,e,_,_,_,_,h5,h6⟩:=h
  rw[e,Zbj fun k hk=>(h6 k hk).isTup]
  exact h5
abbrev brT (t:Th):Th:=shT t []
abbrev rws (t:Th):List Th:=(Z40 t []).map Z99
inductive spBareRows_ (S:SS)(N:Nat)(vs:List V)(H:Hp)(Q:VK):Prop
 |mk (v:V) (t:Th) (_:vs = [v]) (_:IsTh H v t) (_:PfT S N t) (_:Th.sz t<=30000) (_:∀(p:Addr) (ws:List V) H',Same H H'->H' p=some (.lst ws)->IsThs H' ws (rws t)->Q (.ref p) H'):spBareRows_ S N vs H Q
def Z86 (S:SS)(N:Nat):Sp:=fun vs H Q _=>spBareRows_ S N vs H Q
inductive spBare_ (S:SS)(N:Nat)(vs:List V)(H:Hp)(Q:VK):Prop
 |mk (v:V) (t:Th) (_:vs = [v]) (_:IsTh H v t) (_:PfT S N t) (_:Th.sz t<=30000) (_:∀(v':V) H',Same H H'->IsTh H' v' (brT t)->Q v' H'):spBare_ S N vs H Q
def Zk9 (S:SS)(N:Nat):Sp:=fun vs H Q _=>spBare_ S N vs H Q
theorem Zo3:(["node","own"]:List Str).Nodup:=by decide+kernel
section
variable {S:SS}{P:Program}{w:World}{K:W.Frag}{mg:Str->Option Value}{base:Heap}
structure BrF where
 fP:Addr
 fS:Addr
 fO:Addr
 fW:Addr
 fH:Addr
 fB:Addr
 fR:Addr
 fT:Addr
 dP:FuncData
 dS:FuncData
 dO:FuncData
 dW:FuncData
 dH:FuncData
 dB:FuncData
 dR:FuncData
 dT:FuncData
structure Brp (K:W.Frag)(mg:Str->Option Value)(q:BrF):Prop where
 U:HOw K mg q.fP q.fS q.fO q.dP q.dS q.dO
 W:Fn K mg "owned" Zaf ["e"] q.fW q.dW
 H:Fn K mg "head" Zbc ["node"] q.fH q.dH
 B:Fn K mg "bare_head" Z49 ["node","own"] q.fB q.dB
 R:Fn K mg "bare_rows" Z3m ["e"] q.fR q.dR
 T:Fn K mg "built" Zae ["rows"] q.fT q.dT
 rev:mg "reversed"=none
variable {q:BrF}
theorem Zeg:FnScope ["e"] ["e"] (Z04 Z3m):=.q
theorem Zbm {f:Addr}{fd:FuncData}(F:Fun K "bare_rows" "bare_rows" Z3m f fd)(G:Brp K mg q)(N:Nat):FnOk P w K mg base CX0 4 f fd ["e"] (Z86 S N):=by
 have GW:FnOk P w K mg base CX0 3 q.fW q.dW ["e"] (Zgo N):=Zj4 G.W.F G.U N
 have GX:FnOk P w K mg base CX0 2 q.fB q.dB ["node","own"] (Z85 N):=Zbk G.B.F G.U.T G.U.KI G.H N
 have GP:FnOk P w K mg base CX0 1 q.fP q.dP ["e"] spParts:=Zcp G.U.P G.U.T G.U.KI
 have T:=G.U.T
 refine F.ok Zeg (fun vs H Q E h=>?_) (fun cdv A outer s H vs Q E hr h=>?_)
 ·obtain⟨v,t,rfl,_⟩:=h
  rfl
 ·obtain⟨v,t,rfl,hv,pf,hz,k⟩:=h
  have hsz:=sizeLine_eq
  have hr1:Room 1 _:=hr.mono (by decide)
  have hr2:Room 2 _:=hr.mono (by decide)
  refine'⟨?tt,?body,?fin⟩
  case body=>
   refine' Z07 ?s2
   case s2=>
    refine' Z0h (Z1h (N':=["node","own"]) (src:=[none,none]) ?k1 ?k5 ?k6 ?k7)
    case k1=>rfl
    case k5=>exact Z0d (Z04 Z3m) rfl ["e"] rfl (by decide+kernel)
    case k6=>exact Z19 (Z06 GW hr (by rfl) G.W.m G.W.F.kp G.W.b .nil Z0f (Z0e (pv 0) Z02))
    case k7=>exact fun cl C ex s0 H0=>⟨Z4k (K:=K) (i:=0) (j:=1) rfl rfl Zo3 rfl (Or.inl rfl) rfl (Or.inl rfl) (Or.inr rfl) (Or.inr rfl),Z1q,Z0v (Z2h (Z06 GX hr2 (by rfl) G.B.m G.B.F.kp G.B.b .nil Z0f (Z0e (pv 0) (Z0e (pv 1) Z02))) (Z2h (Z0r (id:="len") (Z97 (K:=K) rfl) (by rfl) T.len PySem.boot_len (Z2h (Z06 GP hr1 (by rfl) G.U.mP G.U.P.kp G.U.bP .nil Z0f (Z0e (pv 0) Z02)) Z02)) Z02))⟩
  case fin=>
   have hok:=Zk8 N pf
   obtain⟨rs,hrs,hfr,hnd⟩:=Zlo hok
   have ers:=Zbi hok hrs
   have hrl:rs.length<=3*Th.sz t:=by
    have h1:=congrArg List.length hnd
    rw[length_map,length_map] at h1
    have h2:=length_filter_le (fun p:Str×Th=>decide (p.1="node")) (Z0s t)
    have h3:=Z3p t
    unfold Z2j at h1
    omega
   refine⟨_,rfl,v,t,rfl,hv,hok,by omega,fun p ws rs2 H2 s2 hp0 hp hws hrs2=>?_⟩
   have e2:rs2=rs:=by rw[Zbi hok hrs2,ers]
   subst e2
   have hwl:=IsThs.len _ hws
   rw[length_map] at hwl
   refine⟨p,rfl,⟨_,SqL.of hp⟩,Z0y (K:=K) (a:=p) (xs:=ws) (fun i ys σc H'=>∃o o',σc = [o,o']/\Same H2 H'/\ys.length=i/\IsThs H' ys ((rs2.take i).map Z99))
    ⟨none,none,rfl,Same.refl _,rfl,by rw[take_zero];exact .nil⟩ (fun i ys σc H' ⟨_,_,_,e,_⟩=>SqL.of (e _ _ hp)) ?_ ?_⟩
   ·rintro i x ys σc H' hx hi ⟨o,o',rfl,s',hyl,hys⟩
    obtain⟨tx,htx,hx2⟩:=Z1c _ hws hx
    rw[List.getElem?_map] at htx
    obtain⟨r,hr',rfl⟩:=Option.map_eq_some_iff.mp htx
    obtain⟨n,o2⟩:=r
    have hmem:=mem_of_getElem? hr'
    have hown:OkN N n/\Th.sz n<=100000:=by
     have h1:n∈rs2.map (·.1):=mem_map.mpr ⟨(n,o2),hmem,rfl⟩
     rw[hnd] at h1
     obtain⟨q,h2,h3⟩:=mem_map.mp h1
     have hqs:=(mem_filter.mp h2).1
     have a1:=(Z78 N t hok q hqs).1
     have a2:=(Zcx t N hok.ok (by omega) q hqs).2
     rw[<- h3]
     exact⟨a1,a2⟩
    obtain⟨a,vs2,rfl,ha,hvs2⟩:=Z13 hx2
    cases hvs2 with
    | @cons v1 vr _ _ c1 c2=>
     cases c2 with
     | @cons v2 vr2 _ _ c3 c4=>
      cases c4
      obtain⟨rfl,_⟩:=Z1i c3
      refine⟨by omega,a,_,rfl,SqT.of (s' _ _ ha),rfl,_,_,rfl,_,_,rfl,rfl,?_⟩
      refine⟨_,rfl,_,rfl,v1,n,o2,rfl,IsTh.kp (Kp.of s') c1,hown.1,hown.2,fun p3 H3 s3 hp3=>?_⟩
      have hn3:=IsTh.kp (Kp.of (s'.trans s3)) c1
      obtain⟨N',rfl⟩:∃N',N=N'+1:=by
       cases N with
       |zero=>exact hown.1.elim
       |succ N'=>exact⟨N',rfl⟩
      obtain⟨w0,ts,en,_⟩:=hown.1
      have hzn:=hown.2
      subst en
      have hl:=Zb8 ts
      have hz2:Th.sz (.tup (.at (.str w0)::ts))=1+(1+szs ts):=by simp only [Th.sz,szs]
      refine⟨_,rfl,H3,v1,_,rfl,Same.refl _,hn3,by rw[length_cons];omega,fun p4 ws4 H4 s4 hp4 hws4=>?_⟩
      have hl4:=IsThs.len _ hws4
      refine⟨p4,ws4,rfl,.inr (SqT.of hp4),(by show 2<=sizeLine;decide),fun p5 hp5=>?_⟩
      have s5:=Z01 (o:=.tup [.ref p3,.int (ws4.length:Nat)]) hp5
      have sA:=(s3.trans s4).trans s5
      refine nx hi ⟨_,_,rfl,s'.trans sA,by rw[length_append,hyl];rfl,?_⟩
      rw[take_add_one,hr',map_append]
      refine IsThs.app _ (IsThs.kp (Kp.of sA) hys) (.cons (.tup Z00 (.cons (IsTh.kp (Kp.of (s4.trans s5)) hp3) (.cons ?_ .nil))) .nil)
      rw[hl4]
      exact .at rfl
   ·rintro ys σc H' ⟨o,o',rfl,s',hyl,hys⟩ l hl
    have sl:=Z01 (o:=.lst ys) hl
    rw[take_of_length_le (by omega),ers] at hys
    exact k l ys _ (s2.trans (s'.trans sl)) Z00 (IsThs.kp (Kp.of sl) hys)
theorem Zo4:FnScope ["e"] ["e"] (Z04 Zfx):=.q
theorem Zls {f:Addr}{fd:FuncData}(F:Fun K "bare" "bare" Zfx f fd)(G:Brp K mg q)(N:Nat):FnOk P w K mg base CX0 5 f fd ["e"] (Zk9 S N):=by
 have GR:FnOk P w K mg base CX0 4 q.fR q.dR ["e"] (Z86 S N):=Zbm G.R.F G N
 have GT:FnOk P w K mg base CX0 1 q.fT q.dT ["rows"] spBuilt:=Zj6 G.T.F G.U.T G.rev
 refine F.ok Zo4 (fun vs H Q E h=>?_) (fun cdv A outer s H vs Q E hr h=>?_)
 ·obtain⟨v,t,rfl,_⟩:=h
  rfl
 ·obtain⟨v,t,rfl,hv,pf,hz,k⟩:=h
  have hr1:Room 1 _:=hr.mono (by decide)
  refine'⟨?tt,?body,?fin⟩
  case body=>
   refine' Z07 ?s1
   case s1=>exact Z0h (Z06 GT hr1 (by rfl) G.T.m G.T.F.kp G.T.b .nil Z0f (Z2h (Z06 GR hr (by rfl) G.R.m G.R.F.kp G.R.b .nil Z0f (Z0e (pv 0) Z02)) Z02))
  case fin=>
   have hok:=Zk8 N pf
   obtain⟨rs,hrs,hfr,hnd⟩:=Zlo hok
   have ers:=Zbi hok hrs
   have hrl:rs.length<=3*Th.sz t:=by
    have h1:=congrArg List.length hnd
    rw[length_map,length_map] at h1
    have h2:=length_filter_le (fun p:Str×Th=>decide (p.1="node")) (Z0s t)
    have h3:=Z3p t
    unfold Z2j at h1
    omega
   rw[ers] at hrl
   refine⟨_,rfl,v,t,rfl,hv,pf,hz,fun p ws H1 s1 hp hws=>?_⟩
   refine⟨p,ws,_,_,rfl,hp,hws,fun r hr=>?_,by have:=Zgx N pf [] [];exact this,by rw[length_map];omega,fun v' H2 s2 hv'=>k v' H2 (s1.trans s2) hv'⟩
   obtain⟨r',hr',rfl⟩:=mem_map.mp hr
   exact Zpu (Zlr N pf [] r' hr')
end
end K36
namespace L2
open PySem PySem.Spec PyProof.Rows Srt
section
variable {prog:Program}{w:World}{A:Around}{E:Value->Shared->Prop}{R:Result->Shared->Prop}{s:Shared}
theorem Z4e {elt target iter ifs rest scope pos it acc env}
  (h0:codeAny (model prog w) A (.compLoop (.SetComp elt (⟨target,iter,ifs,0⟩::rest) scope pos) 0 it acc env) R s)
  (h:wpAny (model prog w) A (pyIter it) (fun it' s'=>codeAny (model prog w) A (.compLoop (.SetComp elt (⟨target,iter,ifs,0⟩::rest) scope pos) 0 it' acc env) R s')
   (notedBy (model prog w) A env fun x s'=>R (.error x) s') s):
  codeAny (model prog w) A (.compStart (.SetComp elt (⟨target,iter,ifs,0⟩::rest) scope pos) 0 it acc env) R s:=by
 refine codeAny_of_tree ?_
 show wpAny _ A ((compStart (.SetComp elt (⟨target,iter,ifs,0⟩::rest) scope pos) 0 it acc env).onRaise (fun x=>do noteFrame x env;standAt theWindowsPlace)) _ _ s
 refine wpAny_notedAt ?_
 unfold compStart
 show wpAny _ A (ask >>= _) _ _ s
 refine wpAny_bind (wpAny_askSetting (wpAny_ite ?_))
 split
 ·first
   |exact wpAny_bind (wpAny_pure (wpAny_pure (And.intro rfl h0)))
   |exact wpAny_pure (And.intro rfl h0)
 ·first
   |exact wpAny_bind (wpAny_rule (wpAny_bind (wpAny_standAt (wpAny_bind (wpAny_mono h (fun it' s' h'=>wpAny_pure (And.intro rfl h')) fun _ _ x=>x)))))
   | (refine wpAny_bind (wpAny_rule ?_);show wpAny _ _ (standAt iter.pos >>= _) _ _ s;exact wpAny_bind (wpAny_standAt (wpAny_bind (wpAny_mono h (fun it' s' h'=>wpAny_pure (And.intro rfl h')) fun _ _ x=>x))))
end
theorem Zlt {P:Program}{w:World}{A:Around}{E:Value->Shared->Prop}{s:Shared}{Q:Value->Shared->Prop}(h:Q (.ref s.heap.objs.size) { s with heap:=s.heap.push (Zdv w) }):wpAny (model P w) A (newSet (.type "set")) Q E s:=by
 unfold newSet setsByText
 refine wpAny_bind (wpAny_bind (wpAny_askSetting (wpAny_pure ?_)))
 simp only [newObj]
 exact wpAny_bind (wpAny_alloc (wpAny_pure h))
end L2
namespace Stx
open Srt PySem PyProof.Rows
theorem strs_len:∀{vs:List Value} {ns:List Str},StrsAre vs ns->vs.length=ns.length
 |_,_,.nil=>rfl
 |_,_,.cons y t h=>congrArg (· + 1) (strs_len h)
theorem Z9b {v:Value}{k:Str}(h:Value.isStrOf k v=true):∃t,v = .str k t:=by
 unfold Value.isStrOf at h
 split at h
 ·rw[beq_iff_eq] at h
  subst h
  exact⟨_,rfl⟩
 ·cases h
def IS (P:Program)(w:World)(h:Heap)(a:Addr)(l:List Str):Prop:=
 ∃o es ep t,h.get? a=some o/\o.ExactSet/\o.data = .set es ep t/\ElemsOf (PySem.strKind P w) es.toList/\(es.toList.map fun e=>strOf e.2).Perm l/\l.Nodup/\es.size<scanBound/\t.fits es.size=true/\Rs t.place/\t.led = !byT w
theorem IS.keep {P:Program}{w:World}{h h':Heap}{a:Addr}{l:List Str}(x:IS P w h a l)(k:∀o,h.get? a=some o->h'.get? a=some o):IS P w h' a l:=by
 obtain⟨o,es,ep,t,ho,r⟩:=x
 exact⟨o,es,ep,t,k o ho,r⟩
theorem IS.type {P:Program}{w:World}{s:Shared}{a:Addr}{l:List Str}(x:IS P w s.heap a l):s.TypeIs (.ref a) "set":=by
 obtain⟨o,es,ep,t,ho,hx,_⟩:=x
 exact⟨o,ho,hx.1⟩
def addL (l:List Str)(k:Str):List Str:=if k∈l then l else l ++ [k]
theorem addL_nd {l:List Str}{k:Str}(h:l.Nodup):(addL l k).Nodup:=by
 unfold addL
 by_cases e:k∈l
 ·rw[if_pos e]
  exact h
 ·rw[if_neg e]
  exact List.nodup_append.mpr ⟨h,nodup_cons.mpr ⟨not_mem_nil,nodup_nil⟩,fun a ha b hb=>by rw[mem_singleton.mp hb];exact fun z=>e (z▸ha)⟩
section
variable {P:Program}{w:World}{A:Around}{E:Value->Shared->Prop}{s:Shared}
theorem IS.store {h:Heap}{a:Addr}{o:Obj}{es:Array (Int×Value)}{ep:Nat}{t:SetTable}(ho:h.get? a=some o)(hx:o.ExactSet)(hd:o.data = .set es ep t){es':Array (Int×Value)}{t':SetTable}{l:List Str}
  (h1:ElemsOf (PySem.strKind P w) es'.toList) (h2:(es'.toList.map fun e=>strOf e.2).Perm l) (h3:l.Nodup) (h4:es'.size<scanBound) (h5:t'.fits es'.size=true) (h6:Rs t'.place) (h7:t'.led = !byT w):
  (h.update a (Obj.putSet es' t')).get? a=some { o with data:=.set es' (ep+1) t' }/\IS P w (h.update a (Obj.putSet es' t')) a l:=by
 have g:(h.update a (Obj.putSet es' t')).get? a=some { o with data:=.set es' (ep+1) t' }:=by
  have q:=Heap.get?_update_self (Obj.putSet es' t') ho (by rw[putSet_of es' t' hd];rfl)
  rw[putSet_of es' t' hd] at q
  exact q
 exact⟨g,_,es',ep+1,t',g,hx,rfl,h1,h2,h3,h4,h5,h6,h7⟩
theorem Z87 {a:Addr}{l:List Str}{k:Str}{tk:Tok}{Q:Bool->Shared->Prop}(hS:IS P w s.heap a l)(room:l.length+1<scanBound)
  (h:∀h' b,Heap.SameBut a s.heap h'->IS P w h' a (addL l k)->Q b { s with heap:=h' }):wpAny (model P w) A (setAddHashed a (.str k tk) ((PySem.strKind P w).hash k)) Q E s:=by
 obtain⟨o,es,ep,t,ho,hx,hd,hel,hpm,hnd,hb,hf,hr,hled⟩:=hS
 have hlen:es.size=l.length:=by rw[<- hpm.length_eq,length_map,Array.length_toList]
 have hkey:(PySem.strKind P w).is k (.str k tk)=true:=PySem.strKind_is _ _ _ _
 have memk:k∈l↔∃e∈es.toList,(PySem.strKind P w).is k e.2=true:=by
  rw[<- hpm.mem_iff,mem_map]
  constructor
  ·rintro⟨e,he,q⟩
   obtain⟨⟨k',hk',_⟩,_⟩:=hel e he
   obtain⟨t',e'⟩:=Z9b hk'
   refine⟨e,he,?_⟩
   rw[e'] at q ⊢
   rw[<- q]
   exact PySem.strKind_is _ _ _ _
  ·rintro⟨e,he,q⟩
   obtain⟨t',e'⟩:=Z9b q
   exact⟨e,he,by rw[e'];rfl⟩
 unfold setAddHashed setAddHashedIn
 refine wpAny_holding (wpAny_bind (wpAny_setState_of ho hd hf ?_))
 dsimp only
 rw[byScan_of (x:=.str k tk) rfl hb hel]
 simp only [↓reduceIte]
 unfold setAddByScan
 refine wpAny_bind (wpAny_bind (wpAny_rule (wpAny_bind (wpAny_setScan_of hkey ho hd hf hel ?_))))
 cases hq:List.findIdx? (fun e=>(PySem.strKind P w).is k e.2) es.toList with
 |some j=>
  dsimp only
  obtain⟨hj,hpj,_⟩:=List.findIdx?_eq_some_iff_getElem.mp hq
  have hk:k∈l:=memk.mpr ⟨es.toList[j],getElem_mem hj,hpj⟩
  refine wpAny_pure (wpAny_pure ?_)
  refine h s.heap _ (Heap.SameBut.refl a s.heap) ?_
  rw[addL,if_pos hk]
  exact⟨o,es,ep,t,ho,hx,hd,hel,hpm,hnd,hb,hf,hr,hled⟩
 |none=>
  dsimp only
  have hk:¬k∈l:=fun z=>by
   obtain⟨e,he,q⟩:=memk.mp z
   have:=List.findIdx?_eq_none_iff.mp hq e he
   rw[q] at this
   cases this
  have e1:=layNew_perm t es ((PySem.strKind P w).hash k) (.str k tk)
  have e2:=layNew_fits t es ((PySem.strKind P w).hash k) (.str k tk)
  have e3:=Zfr hr es ((PySem.strKind P w).hash k) (.str k tk)
  generalize layNew t es ((PySem.strKind P w).hash k) (.str k tk)=L at e1 e2 e3 ⊢
  obtain⟨es1,t1,wd,gave⟩:=L
  dsimp only at e1 e2 e3 ⊢
  rw[Array.toList_push] at e1
  have el1:ElemsOf (PySem.strKind P w) es1.toList:=(hel.push hkey rfl).perm e1
  have pm1:(es1.toList.map fun e=>strOf e.2).Perm (addL l k):=by
   refine(e1.map _).trans ?_
   rw[map_append,addL,if_neg hk]
   exact List.Perm.append_right _ hpm
  have nd1:(addL l k).Nodup:=addL_nd hnd
  have b1:es1.size<scanBound:=by
   rw[<- Array.length_toList,e1.length_eq,length_append,Array.length_toList,hlen]
   exact room
  refine wpAny_bind (Zft gave ?_)
  have e4:hashByValue 8 (.str k tk)=pure false:=rfl
  rw[e4]
  obtain⟨e3a,e3b⟩:=e3
  have sb1:=fun t9:SetTable=>Heap.SameBut.update s.heap a (Obj.putSet es1 t9)
  cases hpl:t1.plain
  ·rw[if_neg (by decide)]
   refine wpAny_bind (wpAny_pure ?_)
   simp only [↓reduceIte]
   have e3b':=e3b.trans hled
   have sbb:=sb1 t1
   clear hpl e4 e3b sb1
   generalize t1=t2 at e2 e3a e3b' sbb ⊢
   refine wpAny_bind (wpAny_storeSet_of ho hd ?_ (fits_of_scanBound b1))
   obtain⟨g1,i1⟩:=IS.store (P:=P) (w:=w) ho hx hd el1 pm1 nd1 b1 e2 e3a e3b'
   split
   ·have f1:=relayAll_perm t2 es1 (SetTable.grown es1.size)
    have f2:=relayAll_fits t2 es1 (SetTable.grown es1.size)
    have f3:=Z6o (t:=t2) es1 (SetTable.grown es1.size)
    generalize relayAll t2 es1 (SetTable.grown es1.size)=R at f1 f2 f3 ⊢
    obtain⟨es2,t3,gave2⟩:=R
    dsimp only at f1 f2 f3 ⊢
    have sz:es2.size=es1.size:=by rw[<- Array.length_toList,f1.length_eq,Array.length_toList]
    refine wpAny_bind (Zft gave2 ?_)
    refine wpAny_bind (wpAny_storeSet_of g1 rfl ?_ (fits_of_scanBound (by omega)))
    obtain⟨g2,i2⟩:=IS.store (P:=P) (w:=w) g1 hx rfl (el1.perm f1) ((f1.map _).trans pm1) nd1 (by omega) f2 f3.1 (f3.2.trans e3b')
    exact wpAny_pure (wpAny_pure (h _ _ (sbb.trans (Heap.SameBut.update _ a _)) i2))
   ·exact wpAny_pure (wpAny_pure (h _ _ sbb i1))
  ·rw[if_pos rfl]
   refine wpAny_bind (wpAny_pure ?_)
   simp only [Bool.false_eq_true,↓reduceIte]
   replace e2:({ t1 with plain:=false }:SetTable).fits es1.size=true:=e2
   replace e3a:Rs ({ t1 with plain:=false }:SetTable).place:=e3a
   have e3b':({ t1 with plain:=false }:SetTable).led = !byT w:=e3b.trans hled
   have sbb:=sb1 { t1 with plain:=false }
   clear sb1
   generalize ({ t1 with plain:=false }:SetTable)=t2 at e2 e3a e3b' sbb ⊢
   refine wpAny_bind (wpAny_storeSet_of ho hd ?_ (fits_of_scanBound b1))
   obtain⟨g1,i1⟩:=IS.store (P:=P) (w:=w) ho hx hd el1 pm1 nd1 b1 e2 e3a e3b'
   split
   ·have f1:=relayAll_perm t2 es1 (SetTable.grown es1.size)
    have f2:=relayAll_fits t2 es1 (SetTable.grown es1.size)
    have f3:=Z6o (t:=t2) es1 (SetTable.grown es1.size)
    generalize relayAll t2 es1 (SetTable.grown es1.size)=R at f1 f2 f3 ⊢
    obtain⟨es2,t3,gave2⟩:=R
    dsimp only at f1 f2 f3 ⊢
    have sz:es2.size=es1.size:=by rw[<- Array.length_toList,f1.length_eq,Array.length_toList]
    refine wpAny_bind (Zft gave2 ?_)
    refine wpAny_bind (wpAny_storeSet_of g1 rfl ?_ (fits_of_scanBound (by omega)))
    obtain⟨g2,i2⟩:=IS.store (P:=P) (w:=w) g1 hx rfl (el1.perm f1) ((f1.map _).trans pm1) nd1 (by omega) f2 f3.1 (f3.2.trans e3b')
    exact wpAny_pure (wpAny_pure (h _ _ (sbb.trans (Heap.SameBut.update _ a _)) i2))
   ·exact wpAny_pure (wpAny_pure (h _ _ sbb i1))
theorem call_add {a:Addr}{l:List Str}{k:Str}{tk:Tok}{Q:Value->Shared->Prop}(hS:IS P w s.heap a l)(room:l.length+1<scanBound)
  (h:∀h',Heap.SameBut a s.heap h'->IS P w h' a (addL l k)->Q .none { s with heap:=h',toks:=s.toks+1 }):wpAny (model P w) A (call (.builtin "set.add") [.ref a,.str k tk]) Q E s:=by
 refine wpAny_call_entry F.slot_set_add hS.type F.entry_set_add ?_ (F.args_set_add_2 _ _)
 unfold Builtin.«set.add» Builtin.Frozenset.oneOther
 simp only [List.isEmpty_nil,bind_assoc]
 unfold Builtin.Frozenset.addrOf setAdd
 refine wpAny_bind (wpAny_pure ?_)
 refine wpAny_bind (wpAny_pure ?_)
 refine wpAny_bind (wpAny_holding (wpAny_bind ((PySem.strKind P w).pyHash (k:=k) (PySem.strKind_is _ _ _ _) ?_)))
 refine Z87 (s:={ s with toks:=s.toks+1 }) hS room fun h' b hs hS'=>?_
 show wpAny _ _ (ret Value.none) _ _ _
 exact wpAny_pure ⟨_,rfl,h h' hs hS'⟩
end
end Stx
namespace Stx
open Srt PySem PyProof.Rows PySem.Spec
section
variable {P:Program}{w:World}
theorem IS.new {h:Heap}{a:Addr}(e:h.get? a=some (Zdv w)):IS P w h a []:=
 ⟨_,#[],0,_,e,⟨rfl,rfl,rfl⟩,rfl,fun e he=>absurd he (by simp),List.Perm.refl _,nodup_nil,by decide,by rfl,List.Pairwise.nil,rfl⟩
end
theorem Zgy:∀{vs:List Value} {ns:List Str},StrsAre vs ns->∀(i:Nat) (v:Value),vs[i]? = some v->∃t,v = .str (ns.getD i "") t
 |_,_,.nil,i,v,e=>by simp at e
 |_,_,.cons y t h,0,v,e=>by
  simp at e
  exact⟨t,by rw[<- e];rfl⟩
 |_,_,.cons y t h,i+1,v,e=>Zgy h i v (by simpa using e)
def ofL (ns:List Str):List Str:=ns.foldl addL []
theorem Zj9 (ns:List Str)(k:Str):ofL (ns ++ [k])=addL (ofL ns) k:=by
 unfold ofL
 rw[foldl_append]
 rfl
theorem ofL_take (ns:List Str)(i:Nat):(ofL (ns.take i)).length<=(ofL ns).length:=by
 have go:∀(ns l:List Str),l.length<=(ns.foldl addL l).length:=by
  intro ns
  induction ns with
  |nil=>intro l;exact Nat.le_refl _
  |cons a r ih=>
   intro l
   have h1:=ih (addL l a)
   have h2:l.length<=(addL l a).length:=by
    unfold addL
    split
    ·exact Nat.le_refl _
    ·rw[length_append];omega
   rw[List.foldl_cons]
   omega
 have e:ofL ns=(ns.drop i).foldl addL (ofL (ns.take i)):=by
  unfold ofL
  rw[<- foldl_append,take_append_drop]
 rw[e]
 exact go _ _
theorem Zja {l:List Str}{k x:Str}:x∈addL l k↔x∈l∨x=k:=by
 unfold addL
 by_cases e:k∈l
 ·rw[if_pos e]
  exact⟨.inl,fun h=>h.elim id fun z=>z▸e⟩
 ·rw[if_neg e,mem_append,mem_singleton]
theorem ofL_mem (ns:List Str):∀x,x∈ofL ns↔x∈ns:=by
 have go:∀(ns l:List Str) x,x∈ns.foldl addL l↔x∈l∨x∈ns:=by
  intro ns
  induction ns with
  |nil=>intro l x;simp
  |cons a r ih=>
   intro l x
   rw[List.foldl_cons,ih,Zja,mem_cons,or_assoc]
 intro x
 have q:=go ns [] x
 unfold ofL
 simpa using q
section
variable {P:Program}{w:World}{A:Around}{R:Result->Shared->Prop}{I:Addr}{fp wr:List Addr}{G:Array GenState->Array GenState->Prop}{n:Nat}{Pv:Nat->Value->Prop}{St:Nat->Shared->Prop}
theorem Zjb (W:WalksS P w A.in1 I fp wr G n Pv St)(S:Addr)(hS:S∉fp)(ns:List Str)(hn:ns.length=n)(hv:∀i v,Pv i v->∃t,v = .str (ns.getD i "") t)(hb:(ofL ns).length+1<scanBound):
  ∀(k i:Nat) (s:Shared),n-i=k->i<=n->St i s->IS P w s.heap S (ofL (ns.take i))->(∀s',Moved (S::wr) G s s'->IS P w s'.heap S (ofL ns)->R (.ok (.ret .none)) s') →
   codeAny (model P w) A (.builtin "set.update.loop" ⟨[.ref S,.ref I],[]⟩) R s:=by
 have hw:S∉wr:=fun z=>hS (W.sub _ z)
 have sub:∀b∈wr,b∈S::wr:=fun b z=>mem_cons_of_mem _ z
 intro k
 induction k with
 |zero=>
  intro i s hk hi st is hR
  obtain rfl:i=n:=by omega
  refine codeAny_builtin F.entry_set_update_loop ?_
  rw[Around.under_plainId F.plain_set_update_loop _]
  show wpAny _ A.in1 (pyNext (.ref I) >>= _) _ _ s
  refine wpAny_bind (W.done s _ _ st fun s' hm=>?_)
  show wpAny _ A.in1 (ret Value.none) _ _ s'
  refine wpAny_pure (hR s' (hm.mono sub) ?_)
  rw[take_of_length_le (by omega)] at is
  exact is.keep fun o e=>hm.heap S o hw e
 |succ k ih=>
  intro i s hk hi st is hR
  have lt:i<n:=by omega
  refine codeAny_builtin F.entry_set_update_loop ?_
  rw[Around.under_plainId F.plain_set_update_loop _]
  show wpAny _ A.in1 (pyNext (.ref I) >>= _) _ _ s
  refine wpAny_bind (W.item i s _ _ lt st fun v s' hP st' hm=>?_)
  obtain⟨t,rfl⟩:=hv i v hP
  have is':=is.keep (h':=s'.heap) fun o e=>hm.heap S o hw e
  show wpAny _ A.in1 (holding [Value.str (ns.getD i "") t] (setAdd S (.str (ns.getD i "") t)) >>= _) _ _ s'
  refine wpAny_bind (wpAny_holding ?_)
  unfold setAdd
  refine wpAny_holding (wpAny_bind ((PySem.strKind P w).pyHash (k:=ns.getD i "") (PySem.strKind_is _ _ _ _) ?_))
  have room:(ofL (ns.take i)).length+1<scanBound:=by
   have h1:=ofL_take ns i
   omega
  refine Z87 (s:={ s' with toks:=s'.toks+1 }) is' room fun h' b hs is2=>?_
  have e:addL (ofL (ns.take i)) (ns.getD i "")=ofL (ns.take (i+1)):=by
   have q:ns[i]? = some (ns.getD i ""):=by
    rw[List.getD_eq_getElem?_getD,List.getElem?_eq_getElem (by omega)]
    rfl
   rw[take_add_one,q,<- Zj9]
   rfl
  rw[e] at is2
  refine wpAny_pure ⟨plainId_quiet F.plain_set_update_loop _,ih (i+1) _ (by omega) lt (W.frame _ s' _ _ st' (Nat.le_succ _) fun b hb o q=>?_) is2 fun s'' hm'' is3=>?_⟩
  ·rw[hs.2 b fun z=>hS (z▸hb)]
   exact q
  ·refine hR s'' (Moved.trans W.gtrans ((hm.mono sub).then_heap (Nat.le_succ _) fun b o hb q=>?_) hm'') is3
   rw[hs.2 b fun z=>hb (z▸mem_cons_self)]
   exact q
end
section
variable {P:Program}{w:World}{A:Around}{E:Value->Shared->Prop}{s:Shared}
theorem set1 {l:Addr}{vs:List Value}{ns:List Str}{Q:Value->Shared->Prop}(hh:A.handled=none)(hl:s.heap.IsList l vs.toArray)(hi:StrsAre vs ns)(hb:(ofL ns).length+1<scanBound)
  (h:∀(h':Heap) (tk:Nat),IS P w h' s.heap.objs.size (ofL ns)->(∀b o,b<s.heap.objs.size->s.heap.get? b=some o->h'.get? b=some o)->Q (.ref s.heap.objs.size) { s with heap:=h',toks:=tk }):
  wpAny (model P w) A (call (.type "set") [.ref l]) Q E s:=by
 obtain⟨c,tl,hmro⟩:=F.called_set.mro
 have hmade:=F.called_set.made
 have hsub:=F.called_set.sub
 have h1:=F.called_set.notType
 have h2:=F.called_set.canCreate
 have hct:=F.typeCall_set_1 (.ref l)
 refine wpAny_call (codeAny_of_tree ?_)
 show wpAny _ _ (callAny (.type "set") _) _ _ _
 refine wpAny_pure ⟨Code.quiet_builtin _ (by decide+kernel),codeAny_builtin F.entry_type_call ?k⟩
 case k=>
  rw[Around.under_plain (weight_type_call_type "set" [.ref l] []) rfl]
  repeat (any_goals (first|assumption|wp_step))
  refine codeAny_mono (Zqy (.ref l) (E:=E) (Q₁:=fun v s₁=>v = .ref s.heap.objs.size/\s₁={ s with heap:=s.heap.push (Zdv w) }) ⟨rfl,rfl⟩) fun r s₁ hr=>?_
  rcases r with e|fl
  ·exact hr
  ·rcases fl with _|_|_|v
   ·exact hr.elim
   ·exact hr.elim
   ·exact hr.elim
   ·obtain⟨rfl,rfl⟩:=hr
    have hS:(s.heap.push (Zdv w)).get? s.heap.objs.size=some (Zdv w):=Heap.get?_push_size _ rfl
    have hT:Shared.TypeIs { s with heap:=s.heap.push (Zdv w) } (.ref s.heap.objs.size) "set":=⟨_,hS,rfl⟩
    have hli:=F.called_set.init.lookup
    have hbi:=F.called_set.init.bind (.ref s.heap.objs.size)
    repeat (any_goals (first|assumption|wp_step))
    refine codeAny_mono (codeAny_call_builtin (R:=wants (fun r s₂=>r = .none/\∃h' tk,s₂={ s with heap:=h',toks:=tk }/\IS P w h' s.heap.objs.size (ofL ns)/\∀b o,b<s.heap.objs.size->s.heap.get? b=some o->h'.get? b=some o) E) F.called_set.init.plain F.entry_set_init (check_set_init_1 hT ?goA)) fun r₂ s₂ hr₂=>?goB
    case goA=>
     obtain⟨ol,hol,hcl,nl,hdl⟩:=hl
     obtain⟨ocls,odict,odata,oslots⟩:=ol
     simp only at hcl hdl
     subst hcl hdl
     have hol':(s.heap.push (Zdv w)).get? l=some { cls:=.type "list",dict:=odict,data:=.seq vs.toArray nl,slots:=oslots }:=Heap.get?_push_of_some _ hol
     have hsls:=F.sub_list_set
     have hslf:=F.sub_list_frozenset
     have hne:(Value.type "list"==Value.type "dict")=false:=by decide
     have hl1:(s.heap.push (Zdv w)).IsList l vs.toArray:=⟨_,hol',rfl,nl,rfl⟩
     unfold Builtin.«set.__init__» noKeywords Builtin.Frozenset.updateFrom
     generalize hPI:pyIter=PI
     wp_walk
     subst hPI
     refine wpAny_pyIter_list hl1 ?_
     refine wpAny_bind (wpAny_runValue ?_)
     have lS:l<s.heap.objs.size:=Heap.lt_size hol
     have hh3:A.in1.in1.in1.handled=none:=by simp [hh]
     have nI:l≠(s.heap.push (Zdv w)).objs.size:=by
      rw[Heap.size_push]
      exact Nat.ne_of_lt (Nat.lt_succ_of_lt lS)
     have nS:s.heap.objs.size ∉ [(s.heap.push (Zdv w)).objs.size,l]:=by
      rw[Heap.size_push]
      simp only [mem_cons,not_mem_nil,or_false,not_or]
      exact And.intro (Nat.ne_of_lt (Nat.lt_succ_self _)) (Nat.ne_of_gt lS)
     have hv:∀(i:Nat) (v:Value),vs.toArray[i]? = some v->∃t,v = .str (ns.getD i "") t:=fun i v e=>Zgy hi i v (by simpa using e)
     refine Zjb ((Walks.list hh3 _ l nI vs.toArray).toS) s.heap.objs.size nS ns (by rw[<- strs_len hi];simp) hv hb (vs.toArray.size-0) 0 _ rfl (Nat.zero_le _) ⟨⟨_,Heap.get?_push_size _ rfl,rfl,rfl⟩,hl1.push _⟩ ?isA ?rA
     case isA=>exact IS.new (Heap.get?_push_of_some _ hS)
     case rA=>
      intro s' hm is'
      obtain⟨h',g',d',tk',os'⟩:=s'
      obtain rfl:g'=s.gens:=hm.gens
      obtain rfl:d'=s.drawn:=hm.drawn
      obtain rfl:os'=s.os:=hm.os
      show wpAny _ _ _ _ _ _
      refine wpAny_pure ?_
      show wpAny _ _ (ret Value.none) _ _ _
      refine wpAny_pure ⟨rfl,h',tk',rfl,is',fun b o hb e=>?_⟩
      refine hm.heap b o ?_ (Heap.get?_push_of_some _ (Heap.get?_push_of_some _ e))
      rw[Heap.size_push]
      simp only [mem_cons,not_mem_nil,or_false,not_or]
      exact And.intro (Nat.ne_of_lt hb) (Nat.ne_of_lt (Nat.lt_succ_of_lt hb))
    case goB=>
     rcases r₂ with e|fl₂
     ·exact hr₂
     ·rcases fl₂ with _|_|_|v
      ·exact hr₂.elim
      ·exact hr₂.elim
      ·exact hr₂.elim
      ·obtain⟨rfl,h',tk,rfl,is',k'⟩:=hr₂
       repeat (any_goals (first|assumption|wp_step))
       exact h _ _ is' k'
end
theorem strs_of {P:Program}{w:World}:∀{l:List (Int×Value)},ElemsOf (PySem.strKind P w) l->StrsAre (l.map (·.2)) (l.map fun e=>strOf e.2)
 |[],_=>.nil
 |e::r,h=>by
  obtain⟨⟨k,hk,_⟩,_⟩:=h.head
  obtain⟨t,e'⟩:=Z9b hk
  have q:=strs_of h.tail
  rw[map_cons,map_cons,e']
  exact .cons k t q
section
variable {P:Program}{w:World}{A:Around}{E:Value->Shared->Prop}{s:Shared}
theorem Zjc {a:Addr}{l:List Str}{Q:Value->Shared->Prop}(hS:IS P w s.heap a l)
  (q:∀(it:Addr) (h':Heap) (d:Drawn) (fp:List Addr) (seq:List Value) (ns:List Str) (St:Nat->Heap->Prop),(∀A':Around,A'.handled=none->Walks P w A' it fp [it] seq.length (fun i v=>seq[i]? = some v) St)->St 0 h'->StrsAre seq ns->ns.Perm l →
   s.heap.objs.size<=it->(∀b∈fp,b=a∨s.heap.objs.size<=b)->(∀b o,s.heap.get? b=some o->h'.get? b=some o)->Q (.ref it) { s with heap:=h',drawn:=d }):wpAny (model P w) A (pyIter (.ref a)) Q E s:=by
 have hT:=hS.type
 obtain⟨o,es,ep,t,ho,hx,hdat,hel,hpm,hnd,hb,hf,hr,hled⟩:=hS
 have hz:t.place.size=es.size:=by
  unfold SetTable.fits at hf
  rw[Bool.and_eq_true] at hf
  exact beq_iff_eq.mp hf.1
 have alt:a<s.heap.objs.size:=Heap.lt_size ho
 refine wpAny_pyIter_slot hT F.slot_set_iter (wpAny_call_entry F.slot_set_iter hT Zkv ?_ (F.args_set_iter_1 _))
 unfold Builtin.«frozenset.__iter__»
 refine wpAny_bind (wpAny_pure ?_)
 unfold Builtin.Frozenset.sizeOf
 refine wpAny_bind (wpAny_bind (wpAny_setEntries_of ho hdat hf (wpAny_pure ?_)))
 unfold setDrawn
 refine wpAny_bind (wpAny_bind (wpAny_setState_of ho hdat hf ?_))
 dsimp only
 refine wpAny_bind (Z8n (wpAny_pure ?_))
 have em:(es.toList.map fun e=>strOf e.2)=(es.toList.map (·.2)).map strOf:=by
  rw[map_map]
  rfl
 have lt1:∀o',(s.heap.push o').objs.size=s.heap.objs.size+1:=fun o'=>Heap.size_push _ _
 split
 ·refine wpAny_bind (Za8 es.size (List.range es.size) s _ (by simp) fun ps d hps=>?_)
  have lp:ps.length=es.size:=by rw[hps.length_eq,length_range]
  refine wpAny_bind (wpAny_newTuple ?_ (by rw[length_map,lp];exact fits_of_scanBound hb))
  refine wpAny_bind (wpAny_setEpoch_of (Heap.get?_push_of_some _ ho) hdat hf ?_)
  refine wpAny_bind (wpAny_newObj_type (wpAny_pure ⟨_,rfl,"set_iterator",_,⟨_,Heap.get?_push_size _ rfl,rfl⟩,sl_next.lookup,?_⟩))
  have sl:(ps.map fun p=>(es.getD p (0,.none)).2).length=es.size:=by rw[length_map,lp]
  have e1:=Srt.map_range es
  have pm:=hps.map fun p=>(es.getD p (0,.none)).2
  rw[e1] at pm
  have hI:∀v∈ps.map (fun p=>(es.getD p (0,.none)).2),∃n t,v = .str n t:=fun v hv=>(strs_of hel).all v (pm.mem_iff.mp hv)
  show Q (.ref (s.heap.push { cls:=.type "tuple",data:=.seq (ps.map fun(k:Nat)=>Value.int k 0).toArray 0 }).objs.size) { s with heap:=_,drawn:=d }
  rw[lt1]
  refine q _ _ d [s.heap.objs.size+1,a,s.heap.objs.size] (ps.map fun p=>(es.getD p (0,.none)).2) _ (fun i h=>SI h (s.heap.objs.size+1) (.ref s.heap.objs.size) i a es.size ep/\SA h a es ep t/\h.get? s.heap.objs.size=some { cls:=.type "tuple",data:=.seq (ps.map fun(k:Nat)=>Value.int k 0).toArray 0 })
   (fun A' hh=>?_) ?_ (strsAre_map _ hI) ?_ ?_ ?_ ?_
  ·rw[sl]
   exact Zdy hh _ a _ (Nat.ne_of_lt (Nat.lt_succ_of_lt alt)) (Nat.ne_of_lt (Nat.lt_succ_self _)) es ep t ps hps
  ·refine⟨?_,⟨o,Heap.get?_push_of_some _ (Heap.get?_push_of_some _ ho),hx,hdat,hf⟩,Heap.get?_push_of_some _ (Heap.get?_push_size _ rfl)⟩
   have g:=Heap.get?_push_size (s.heap.push { cls:=.type "tuple",data:=.seq (ps.map fun(k:Nat)=>Value.int k 0).toArray 0 }) (o:={ cls:=.type "set_iterator",data:=.fields #[.ref s.heap.objs.size,.int (0:Nat) 0,.ref a,.int es.size 0,.int ep 0] }) rfl
   rw[lt1] at g
   exact g
  ·refine List.Perm.trans ?_ hpm
   rw[em]
   exact pm.map strOf
  ·exact Nat.le_succ _
  ·intro b hb'
   simp only [mem_cons,not_mem_nil,or_false] at hb'
   rcases hb' with rfl|rfl|rfl
   ·exact .inr (Nat.le_succ _)
   ·exact .inl rfl
   ·exact .inr (Nat.le_refl _)
  ·exact fun b o' e=>Heap.get?_push_of_some _ (Heap.get?_push_of_some _ e)
 ·next z=>
  refine wpAny_bind (wpAny_pure ?_)
  refine wpAny_bind (wpAny_setEpoch_of ho hdat hf ?_)
  refine wpAny_bind (wpAny_newObj_type (wpAny_pure ⟨_,rfl,"set_iterator",_,⟨_,Heap.get?_push_size _ rfl,rfl⟩,sl_next.lookup,?_⟩))
  have sa:SA (s.heap.push { cls:=.type "set_iterator",data:=.fields #[.int (0:Nat) 0,.int (0:Nat) 0,.ref a,.int es.size 0,.int ep 0] }) a es ep t:=⟨o,Heap.get?_push_of_some _ ho,hx,hdat,hf⟩
  have fpl:∀b ∈ [s.heap.objs.size,a],b=a∨s.heap.objs.size<=b:=fun b hb'=>by
   simp only [mem_cons,not_mem_nil,or_false] at hb'
   rcases hb' with rfl|rfl
   ·exact .inr (Nat.le_refl _)
   ·exact .inl rfl
  by_cases ht:byT w=true
  ·have pm:=(Z6p (w.params.setOrder a ep) es).map (·.2)
   have sl:((pickOrder (w.params.setOrder a ep) es).toList.map (·.2)).length=es.size:=by rw[pm.length_eq,length_map,Array.length_toList]
   have hI:∀v∈(pickOrder (w.params.setOrder a ep) es).toList.map (·.2),∃n t,v = .str n t:=fun v hv=>(strs_of hel).all v (pm.mem_iff.mp hv)
   refine q _ _ s.drawn [s.heap.objs.size,a] ((pickOrder (w.params.setOrder a ep) es).toList.map (·.2)) _ (fun i h=>SI h s.heap.objs.size (.int (0:Nat) 0) i a es.size ep/\SA h a es ep t) (fun A' hh=>?_) ⟨Heap.get?_push_size _ rfl,sa⟩ (strsAre_map _ hI) ?_ (Nat.le_refl _) fpl fun b o' e=>Heap.get?_push_of_some _ e
   ·rw[sl]
    exact Zfv hh _ a (Nat.ne_of_lt alt) es ep t ht
   ·refine List.Perm.trans ?_ hpm
    rw[em]
    exact pm.map strOf
  ·have hf0:byT w=false:=Bool.not_eq_true _▸ht
   have hd:(!t.plain&&decide (es.size>1))=false:=by
    have z:¬ ((!byT w&&(!t.plain&&decide (es.size>1)))=true):=z
    rw[hf0] at z
    simpa using z
   have sl:(es.toList.map (·.2)).length=es.size:=by rw[length_map,Array.length_toList]
   refine q _ _ s.drawn [s.heap.objs.size,a] (es.toList.map (·.2)) _ (fun i h=>SI h s.heap.objs.size (.int (at0 t i:Nat) 0) i a es.size ep/\SA h a es ep t) (fun A' hh=>?_) ⟨Heap.get?_push_size _ rfl,sa⟩ (strs_of hel) hpm (Nat.le_refl _) fpl fun b o' e=>Heap.get?_push_of_some _ e
   rw[sl]
   exact Zdx hh _ a (Nat.ne_of_lt alt) es ep t hf0 hd (by rw[hled,hf0];rfl) hr hz
theorem Zbn {a:Addr}{l:List Str}{Q:List Value->Shared->Prop}(hh:A.handled=none)(hS:IS P w s.heap a l)
  (q:∀(vs:List Value) (ns:List Str) (s':Shared),StrsAre vs ns->ns.Perm l->s'.gens=s.gens->s'.os=s.os->(∀b o,s.heap.get? b=some o->s'.heap.get? b=some o)->Q vs s'):wpAny (model P w) A (collect (.ref a)) Q E s:=by
 have alt:a<s.heap.objs.size:=by
  obtain⟨o,es,ep,t,ho,_⟩:=hS
  exact Heap.lt_size ho
 have hl:l.length<scanBound:=by
  obtain⟨o,es,ep,t,ho,hx,hdat,hel,hpm,hnd,hb,hf,hr,hled⟩:=hS
  rw[<- hpm.length_eq,length_map,Array.length_toList]
  exact hb
 unfold collect
 refine wpAny_bind (wpAny_runValue (codeAny_builtin F.entry_proto_collect ?_))
 rw[Around.under_plainId F.plain_proto_collect _]
 show wpAny _ A.in1 (newList [] >>= fun z=>again (.builtin "list.__iadd__" ⟨[z,.ref a],[]⟩)) _ _ s
 refine wpAny_bind (wpAny_newObj_type (wpAny_pure ⟨plainId_quiet F.plain_list_iadd _,codeAny_builtin F.entry_list_iadd ?_⟩))
 rw[Around.under_plainId F.plain_list_iadd _]
 have g0:(s.heap.push (seqObj "list" #[] 0)).get? s.heap.objs.size=some (seqObj "list" #[] 0):=Heap.get?_push_size _ rfl
 have hS1:IS P w (s.heap.push (seqObj "list" #[] 0)) a l:=hS.keep fun o e=>Heap.get?_push_of_some _ e
 show wpAny _ A.in1 (Builtin.List.listExtendWith (.ref s.heap.objs.size) (.ref a) (.ref s.heap.objs.size)) _ _ { s with heap:=s.heap.push (seqObj "list" #[] 0) }
 unfold Builtin.List.listExtendWith
 refine wpAny_bind (wpAny_typeOf (s:={ s with heap:=s.heap.push (seqObj "list" #[] 0) }) (T:="set") (IS.type (s:={ s with heap:=s.heap.push (seqObj "list" #[] 0) }) hS1) ?_)
 rw[if_neg (by rw[Zky (Nat.ne_of_gt alt)];decide)]
 refine wpAny_bind (Zjc (s:={ s with heap:=s.heap.push (seqObj "list" #[] 0) }) hS1 fun it h' d fp seq ns St W st hi hp hit hfp hk=>?_)
 have hT':Shared.TypeIs { s with heap:=h',drawn:=d } (.ref a) "set":=IS.type (s:={ s with heap:=h',drawn:=d }) (hS1.keep fun o e=>hk a o e)
 refine wpAny_bind (wpAny_holding (Zid hT' ?_))
 have g1:h'.get? s.heap.objs.size=some (seqObj "list" #[] 0):=hk _ _ g0
 dsimp only
 refine Zk2 (by decide+kernel) ?_
 refine wpAny_bind (wpAny_rule ?_)
 have lz:l.length<=sizeLine:=fits_of_scanBound hl
 have ls:seq.length=l.length:=by rw[strs_len hi,hp.length_eq]
 have nS:s.heap.objs.size∉fp:=fun z=>by
  rcases hfp _ z with e|e
  ·exact absurd alt (e▸Nat.lt_irrefl _)
  ·have e:(s.heap.push (seqObj "list" #[] 0)).objs.size<=s.heap.objs.size:=e
   rw[Heap.size_push] at e
   exact absurd e (Nat.not_succ_le_self _)
 unfold Builtin.List.listTouch
 refine wpAny_bind (wpAny_bind (listUpdate_at (s:={ s with heap:=h',drawn:=d }) g1 rfl ?_))
 have g2:=get?_update_seq g1 (fun x=>x.push .none)
 refine listUpdate_at (s:={ s with heap:=h'.update s.heap.objs.size (Obj.mapSeq fun x=>x.push .none),drawn:=d }) g2 rfl ?_
 have g3:=get?_update_seq g2 (fun x=>x.pop)
 have oth:∀b o,b≠s.heap.objs.size->h'.get? b=some o->((h'.update s.heap.objs.size (Obj.mapSeq fun x=>x.push .none)).update s.heap.objs.size (Obj.mapSeq fun x=>x.pop)).get? b=some o:=fun b o hb e=>by
  rw[Heap.get?_update_ne _ _ _ _ hb,Heap.get?_update_ne _ _ _ _ hb]
  exact e
 have WS:=(W A.in1 hh).toS
 refine wpAny_pure ⟨plainId_quiet F.plain_extend_loop _,codeAny_extend_loopS WS (by omega) _ nS _ seq.length 0 _ _ _ rfl (Nat.zero_le _) (WS.frame 0 { s with heap:=h',drawn:=d } _ s.toks st (Nat.le_refl _) fun b hb o e=>oth b o (fun z=>nS (z▸hb)) e) g3 (ItemsOf.nil _) fun s' acc' c' hm g4 hacc=>?_⟩
 show wpAny _ A (load s.heap.objs.size >>= _) _ _ s'
 refine wpAny_bind (wpAny_load g4 ?_)
 have ev:acc'.toList=seq:=by
  have lv:acc'.size=seq.length:=hacc.1
  refine List.ext_getElem? fun j=>?_
  rw[Array.getElem?_toList]
  by_cases hj:j<acc'.size
  ·have e1:acc'[j]? = some acc'[j]:=getElem?_pos acc' j hj
   rw[e1]
   exact(hacc.2 j _ e1).symm
  ·rw[getElem?_neg acc' j hj,List.getElem?_eq_none (by omega)]
 refine wpAny_pure ?_
 rw[ev]
 refine q seq ns s' hi hp hm.gens hm.os fun b o e=>?_
 have bl:b<s.heap.objs.size:=Heap.lt_size e
 refine hm.heap b o ?_ (oth b o (Nat.ne_of_lt bl) (hk b o (Heap.get?_push_of_some _ e)))
 have it1:s.heap.objs.size+1<=it:=by
  have z:(s.heap.push (seqObj "list" #[] 0)).objs.size<=it:=hit
  rw[Heap.size_push] at z
  exact z
 simp only [mem_cons,not_mem_nil,or_false,not_or]
 exact And.intro (Nat.ne_of_lt bl) (Nat.ne_of_lt (Nat.lt_trans bl it1))
theorem Z7k {a:Addr}{vs:List Value}{ns:List Str}{n:Nat}{Pq:Fin->Shared->Prop}(ho:s.heap.get? a=some (seqObj "list" vs.toArray n))(hI:StrsAre vs ns)(h64:vs.length<64)
  (h : ∀ (out : Array Value) (ns' : List Str), StrsAre out.toList ns' -> ns'.Perm ns -> sortedS ns' = true -> Pq (.done (.ret .none)) { s with heap := sortedHeap s.heap a vs out }) : wpAny (model P w) A (Builtin.«list.sort» ⟨[.ref a], []⟩) Pq E s :=
 list_sort_treeK strKind_oneLt ho (StrsAre.keysOf hI) (fun v₁ v₂ rest e=>keyKind_strs (e▸hI)) h64 fun st' hp hs=>
  let ⟨ss',h1,h2,h3⟩:=sorted_out_str hI hp hs
  h _ ss' h1 h2 h3
theorem sorted_few {a:Addr}{l:List Str}{Q:Value->Shared->Prop}(hh:A.handled=none)(hS:IS P w s.heap a l)(h64:l.length<64)
  (h:∀(s1:Shared) (h':Heap) (out:List Value) (ns:List Str) (e:Nat),StrsAre out ns->ns.Perm l->sortedS ns=true->h'.get? s1.heap.objs.size=some (seqObj "list" out.toArray e)->s1.gens=s.gens->s1.os=s.os →
   (∀b o,s.heap.get? b=some o->s1.heap.get? b=some o)->(∀b o,s1.heap.get? b=some o->h'.get? b=some o)->Q (.ref s1.heap.objs.size) { s1 with heap:=h' }):wpAny (model P w) A (call (.builtin "sorted") [.ref a]) Q E s:=by
 refine Calls.call_function_entry kind_sorted plain_sorted entry_sorted (args_sorted1 _) ?_
 unfold Builtin.«sorted»
 refine wpAny_bind (m:=checkCount "sorted" 1 1 _) (wpAny_pure ?_)
 refine wpAny_bind (Zbn hh hS fun vs ns s1 hi hp hg ho hk=>?_)
 have lv:vs.length=l.length:=by rw[strs_len hi,hp.length_eq]
 have lz:vs.length<=sizeLine:=by
  rw[sizeLine_eq]
  omega
 refine wpAny_bind (wpAny_newList ?_)
 have g0:(s1.heap.push (seqObj "list" vs.toArray 0)).get? s1.heap.objs.size=some (seqObj "list" vs.toArray 0):=Heap.get?_push_size _ rfl
 show wpAny _ _ _ _ _ { s1 with heap:=s1.heap.push (seqObj "list" vs.toArray 0) }
 refine wpAny_bind (wpAny_holding (wpAny_call_entry slot_list_sort ⟨_,g0,rfl⟩ entry_list_sort (Z7k (s:={ s1 with heap:=s1.heap.push (seqObj "list" vs.toArray 0) }) g0 hi (by omega) fun out ns' a1 a2 a3=>⟨_,rfl,?_⟩) (args_list_sort _)))
 obtain⟨e,he⟩:=sortedHeap_at (out:=out) g0
 refine wpAny_pure ⟨_,rfl,h s1 _ out.toList ns' e a1 (a2.trans hp) a3 he hg ho hk fun b o z=>?_⟩
 have z1:(s1.heap.push (seqObj "list" vs.toArray 0)).get? b=some o:=Heap.get?_push_of_some _ z
 rw[sortedHeap_old (Nat.ne_of_lt (Heap.lt_size z)) (Heap.lt_size z1)]
 exact z1
end
end Stx
namespace L2
open PySem PySem.Spec PyProof.Rows
def Zgz (P:Program)(w:World)(a:Addr)(l:List Str):HO:=.ext fun h=>Stx.IS P w h a l
section
variable {X:Cx}{pins:List (Addr×Obj)}{σ:St}{H:Hp}{s:Shared}
theorem Inv.tset {a:Addr}{l:List Str}(I:Inv X pins σ H s)(h:H a=some (Zgz X.prog X.w a l)):Stx.IS X.prog X.w s.heap a l:=(I.hok a _ h).1
theorem Zh0 {P:Program}{w:World}{H:Hp}{h:Heap}{a:Addr}{l:List Str}(x:Stx.IS P w h a l):ObjOk P w H h a (Zgz P w a l):=by
 refine⟨x,?_,fun h1 h2 y k=>y.keep k⟩
 obtain⟨o,es,ep,t,ho,_⟩:=x
 exact⟨o,ho⟩
theorem Z88 (hc:X.calm=true):Z4t X (.type "set") (fun xs H Q=>∃(p:Addr) (ns:List Str),xs = [.ref p]/\SqL X.K H p (ns.map V.str)/\(Stx.ofL ns).length<=1000/\∀a,H a=none->Q (.ref a) (upd H a (Zgz X.prog X.w a (Stx.ofL ns)))):=by
 intro pins s σ H xs us Q I r h
 obtain⟨p,ns,rfl,hq,hz,q⟩:=h
 obtain⟨u,rfl,rx⟩:=Z7f r
 cases rx
 obtain⟨its,r',pl,_⟩:=I.list hq
 have hI:=strs_of r'
 have hlen:its.length=ns.length:=Stx.strs_len hI
 refine Stx.set1 (I.ok.hd hc) pl.isList hI (by show(Stx.ofL ns).length+1<4096;omega) fun h' tk is k=>?_
 exact⟨.ref s.heap.objs.size,_,I.laid (t':=tk) (fun b o e=>k b o (Heap.lt_size e) e) (Nat.le_refl _) (Zh0 is),rfl,q _ (I.hok.fresh (Nat.le_refl _))⟩
theorem Z2p (hc:X.calm=true):Z4t X (.builtin "sorted") (fun xs H Q=>∃(p:Addr) (l:List Str),xs = [.ref p]/\H p=some (Zgz X.prog X.w p l)/\l.length<64 ∧
  ∀(ns:List Str) a,ns.Perm l->sortedS ns=true->H a=none->Q (.ref a) (upd H a (.lst (ns.map V.str)))):=by
 intro pins s σ H xs us Q I r h
 obtain⟨p,l,rfl,hp,hz,q⟩:=h
 obtain⟨u,rfl,rx⟩:=Z7f r
 cases rx
 refine Stx.sorted_few (I.ok.hd hc) (I.tset hp) hz fun s1 h' out ns e hi pm srt g hg ho k1 k2=>?_
 have I1:Inv X pins σ H s1:=I.call' (ch:=[]) ho (Un.kept k1) (I.hok.kept k1) (by rw[hg];exact I.bare) fun b z=>absurd z (by simp)
 have ln:(ns.map V.str).length<=sizeLine:=by
  rw[length_map,pm.length_eq,sizeLine_eq]
  omega
 exact⟨.ref s1.heap.objs.size,_,I1.laid (t':=s1.toks) k2 (Nat.le_refl _) (show ObjOk X.prog X.w _ h' _ (.lst (ns.map V.str)) from⟨ln,out,e,Zfj hi,g⟩),rfl,q ns _ pm srt (I1.hok.fresh (Nat.le_refl _))⟩
end
end L2
namespace L2
open PySem PySem.Spec PyProof.Rows
open Srt (Zdv)
section
variable {X:Cx}{elt tg iter:Expr}{ifs:List Expr}{scope:Scope}{pos:Pos}{N':List Str}{src:List (Option Nat)}{wi:TI}{g:TG}{tt:TT}{te:TE}
theorem Zbo {cl:List (Str×Addr)}{C D:Addr}{fp:List Addr}{pins pinsY:List (Addr×Obj)}{σ σc:St}{H H':Hp}{s3 s4:Shared}{h':Heap}{kvs:List Str}(I3:Inv X pins σ H s3)(hC:C=s3.heap.objs.size)
  (hf:∀b∈D::fp,Z4m X pins H b) (hlt:∀b∈D::fp,b<s3.heap.objs.size) (IY:Inv (Z1g X N' scope cl C (D::fp) s3 H) pinsY σc H' s4) (hD:H' D=none) (dd:Stx.IS X.prog X.w s4.heap D kvs)
  (hs:Heap.SameBut C s4.heap h'):Inv X pins σ (upd H' D (Zgz X.prog X.w D kvs)) { s4 with heap:=h' }:=by
 have J:Inv X pins σ H' s4:=I3.call' IY.os IY.base IY.hok IY.bare (ch:=D::fp) fun b hb=>⟨(hf b hb).2.2.2.1,(hf b hb).2.1,(hf b hb).2.2.2.2.1,(hf b hb).2.2.2.2.2⟩
 have fC:Z4m X pins H' C:=I3.fpOk (Nat.le_of_eq hC.symm) IY.free
 have J2:Inv X pins σ H' { s4 with heap:=h' }:=J.turned (t':=s4.toks) (fun b o hb e=>(hs.2 b hb).trans e) fC.1 fC.2.1 fC.2.2.2.1 fC.2.2.2.2.1 fC.2.2.2.2.2
 have hDC:D≠C:=by rw[hC];exact Nat.ne_of_lt (hlt D mem_cons_self)
 have fD:=hf D mem_cons_self
 exact J2.track ⟨hD,fD.2⟩ (Zh0 (dd.keep fun o e=>(hs.2 D hDC).trans e))
end
abbrev sc2 (elt tg iter tg2 iter2:Expr)(scope:Scope)(pos:Pos):Expr:=.SetComp elt [⟨tg,iter,[],0⟩,⟨tg2,iter2,[],0⟩] scope pos
theorem Zjd (elt tg iter tg2 iter2:Expr)(scope:Scope)(pos:Pos)(it:Value)(D:Addr)(env:Env):
  compTurn (sc2 elt tg iter tg2 iter2 scope pos) 0 it (.ref D) env=(do
   standAt iter.pos
   match ← pyNext it with
   |none=>pure (.done .next)
   |some v=>
    letOwnedTupleGo tg it v
    assign tg env v
    let x ← eval iter2 env
    standAt iter2.pos
    let x ← foldedSetIterable iter2 env x
    let it2 ← holding [x] (pyIter x)
    let _ ← runOwn (.compStart (sc2 elt tg iter tg2 iter2 scope pos) 1 it2 (.ref D) env) env
    again (.compLoop (sc2 elt tg iter tg2 iter2 scope pos) 0 it (.ref D) env)):=by rfl
theorem Zlu (elt tg iter tg2 iter2:Expr)(scope:Scope)(pos:Pos)(it:Value)(D:Addr)(env:Env):
  compTurn (sc2 elt tg iter tg2 iter2 scope pos) 1 it (.ref D) env=(do
   standAt iter2.pos
   match ← pyNext it with
   |none=>pure (.done .next)
   |some v=>
    letOwnedTupleGo tg2 it v
    assign tg2 env v
    (do
      let v ← eval elt env
      standAt elt.pos
      let _ ← call (.builtin "set.add") [.ref D,v])
    again (.compLoop (sc2 elt tg iter tg2 iter2 scope pos) 1 it (.ref D) env)):=by rfl
section
variable {prog:Program}{w:World}{A:Around}{E:Value->Shared->Prop}{R:Result->Shared->Prop}{s:Shared}{elt tg iter tg2 iter2:Expr}{scope:Scope}{pos:Pos}{it acc:Value}{D:Addr}{env:Env}
theorem Zje (h0:codeAny (model prog w) A (.compLoop (sc2 elt tg iter tg2 iter2 scope pos) 1 it acc env) R s)
  (h:wpAny (model prog w) A (pyIter it) (fun it' s'=>codeAny (model prog w) A (.compLoop (sc2 elt tg iter tg2 iter2 scope pos) 1 it' acc env) R s')
   (notedBy (model prog w) A env fun x s'=>R (.error x) s') s):
  codeAny (model prog w) A (.compStart (sc2 elt tg iter tg2 iter2 scope pos) 1 it acc env) R s:=by
 refine codeAny_of_tree ?_
 show wpAny _ A ((compStart (sc2 elt tg iter tg2 iter2 scope pos) 1 it acc env).onRaise (fun x=>do noteFrame x env;standAt theWindowsPlace)) _ _ s
 refine wpAny_notedAt ?_
 unfold compStart
 show wpAny _ A (ask >>= _) _ _ s
 refine wpAny_bind (wpAny_askSetting (wpAny_ite ?_))
 split
 ·first
   |exact wpAny_bind (wpAny_pure (wpAny_pure (And.intro rfl h0)))
   |exact wpAny_pure (And.intro rfl h0)
 ·first
   |exact wpAny_bind (wpAny_rule (wpAny_bind (wpAny_standAt (wpAny_bind (wpAny_mono h (fun it' s' h'=>wpAny_pure (And.intro rfl h')) fun _ _ x=>x)))))
   | (refine wpAny_bind (wpAny_rule ?_);show wpAny _ _ (standAt iter2.pos >>= _) _ _ s;exact wpAny_bind (wpAny_standAt (wpAny_bind (wpAny_mono h (fun it' s' h'=>wpAny_pure (And.intro rfl h')) fun _ _ x=>x))))
theorem Zh1 (h0:codeAny (model prog w) A (.compLoop (sc2 elt tg iter tg2 iter2 scope pos) 0 it acc env) R s)
  (h:wpAny (model prog w) A (pyIter it) (fun it' s'=>codeAny (model prog w) A (.compLoop (sc2 elt tg iter tg2 iter2 scope pos) 0 it' acc env) R s')
   (notedBy (model prog w) A env fun x s'=>R (.error x) s') s):
  codeAny (model prog w) A (.compStart (sc2 elt tg iter tg2 iter2 scope pos) 0 it acc env) R s:=Z4e h0 h
theorem Zlv (I:Nat->Shared->Prop)
  (turn:∀n s,I n s->wpAny (model prog w) A (pyNext it) (fun r s1=>match r with
   |none=>R (.ok .next) s1
   |some v=>wpAny (model prog w) A (letOwnedTupleGo tg2 it v) (fun _ s1'=>wpAny (model prog w) A (assign tg2 env v) (fun _ s2=>
     wpAny (model prog w) A (eval elt env) (fun vv s5=>
       wpAny (model prog w) A (call (.builtin "set.add") [.ref D,vv]) (fun _ s6=>∃m,m<n/\I m s6) (fun _ _=>False) s5) (fun _ _=>False) s2) (fun _ _=>False) s1') (fun _ _=>False) s1) (fun _ _=>False) s)
  (n:Nat) (h:I n s):
  codeAny (model prog w) A (.compLoop (sc2 elt tg iter tg2 iter2 scope pos) 1 it (.ref D) env) R s:=by
 refine codeAny_loop rfl I (fun n s hI=>?_) n h
 show wpAny _ A ((compTurn (sc2 elt tg iter tg2 iter2 scope pos) 1 it (.ref D) env).onRaise (fun x=>do noteFrame x env;theTreesLotGoes x)) _ _ s
 refine wpAny_noted ?_
 rw[Zlu]
 refine wpAny_bind (wpAny_standAt (wpAny_bind (wpAny_mono (turn n s hI) (fun r s₁ h₁=>?_) fun _ _ h'=>h'.elim)))
 cases r with
 |none=>exact wpAny_pure h₁
 |some v=>
  refine wpAny_bind (wpAny_mono h₁ (fun _ s1' h1'=>?_) fun _ _ h'=>h'.elim)
  refine wpAny_bind (wpAny_mono h1' (fun _ s₂ h₂=>?_) fun _ _ h'=>h'.elim)
  exact wpAny_bind (wpAny_bind (wpAny_mono h₂ (fun vv s₅ h₅=>wpAny_bind (wpAny_standAt (wpAny_bind (wpAny_mono h₅ (fun _ s₆ h₆=>wpAny_pure (wpAny_pure ⟨rfl,h₆⟩)) fun _ _ h'=>h'.elim)))) fun _ _ h'=>h'.elim))
theorem Zjf (I:Nat->Shared->Prop)(hs:∀x,foldedSetIterable iter2 env x=pure x)
  (turn:∀n s,I n s->wpAny (model prog w) A (pyNext it) (fun r s1=>match r with
   |none=>R (.ok .next) s1
   |some v=>wpAny (model prog w) A (letOwnedTupleGo tg it v) (fun _ s1'=>wpAny (model prog w) A (assign tg env v) (fun _ s2=>
     wpAny (model prog w) A (eval iter2 env) (fun x s3=>wpAny (model prog w) A (pyIter x) (fun it2 s4=>
       codeAny (model prog w) A (.compStart (sc2 elt tg iter tg2 iter2 scope pos) 1 it2 (.ref D) env) (fun r s5=>r = .ok .next/\∃m,m<n/\I m s5) s4) (fun _ _=>False) s3) (fun _ _=>False) s2) (fun _ _=>False) s1') (fun _ _=>False) s1) (fun _ _=>False) s)
  (n:Nat) (h:I n s):
  codeAny (model prog w) A (.compLoop (sc2 elt tg iter tg2 iter2 scope pos) 0 it (.ref D) env) R s:=by
 refine codeAny_loop rfl I (fun n s hI=>?_) n h
 show wpAny _ A ((compTurn (sc2 elt tg iter tg2 iter2 scope pos) 0 it (.ref D) env).onRaise (fun x=>do noteFrame x env;theTreesLotGoes x)) _ _ s
 refine wpAny_noted ?_
 rw[Zjd]
 refine wpAny_bind (wpAny_standAt (wpAny_bind (wpAny_mono (turn n s hI) (fun r s₁ h₁=>?_) fun _ _ h'=>h'.elim)))
 cases r with
 |none=>exact wpAny_pure h₁
 |some v=>
  refine wpAny_bind (wpAny_mono h₁ (fun _ s1' h1'=>?_) fun _ _ h'=>h'.elim)
  refine wpAny_bind (wpAny_mono h1' (fun _ s₂ h₂=>?_) fun _ _ h'=>h'.elim)
  refine wpAny_bind (wpAny_mono h₂ (fun x s₃ h₃=>?_) fun _ _ h'=>h'.elim)
  refine wpAny_bind (wpAny_standAt ?_)
  rw[hs]
  refine wpAny_bind (wpAny_pure ?_)
  refine wpAny_bind (wpAny_holding (wpAny_mono h₃ (fun it2 s₄ h₄=>?_) fun _ _ h'=>h'.elim))
  refine wpAny_bind (wpAny_runOwn (codeAny_mono h₄ fun r s₅ h₅=>?_))
  obtain⟨rfl,h₆⟩:=h₅
  exact wpAny_pure ⟨rfl,h₆⟩
end
theorem Zo5 {Y:Cx}{elt tg iter tg2 iter2:Expr}{scope:Scope}{pos:Pos}{D it:Addr}{fp:List Addr}{tn:Nat->Heap->Prop}{J:It}{pb:List (Addr×Obj)}{σ0:St}{H0:Hp}{s0:Shared}{R:Result->Shared->Prop}{W:Nat->Nat->List Str->St->Hp->Prop}{m0:Nat}{ys0:List Str}{Q:List Str->St->Hp->Prop}{g:TG}{te:TE}
  (hc:Y.calm=true) (e6:Y.xe=fun _ _=>False) (T:Turn Y.prog Y.w Y.K tg2 J fp it tn)
  (hfp:∀(pins:List (Addr×Obj)) (H':Hp),(∀p∈pins,p.1=D)->∀b∈fp,H' b=none->Z4m Y (pb++pins) H' b)
  (hDo:∀H':Hp,H' D=none->Z4m Y pb H' D) (hDf:D∉fp)
  (hg:PG Y tg2 g) (he:PE Y elt te) (I0:Inv Y pb σ0 H0 s0) (st:tn 0 s0.heap) (fr:∀b∈fp,H0 b=none) (hD0:H0 D=none) (dd0:Stx.IS Y.prog Y.w s0.heap D ys0) (w0:W 0 m0 ys0 σ0 H0)
  (turn:∀i m ys σc H,W i m ys σc H->(J.stop i H/\Q ys σc H)∨(J.go i H/\ys.length<1000/\∀x H',J.yld i H x H'->g x σc H' fun σ2 H2=>
   te σ2 H2 fun vv H5=>∃y:Str,vv = .str y/\∃m',m'<m/\W (i+1) m' (Stx.addL ys y) σ2 H5))
  (fin:∀s5 σc H' ys,Inv Y pb σc H' s5->H' D=none->Stx.IS Y.prog Y.w s5.heap D ys->Q ys σc H'->R (.ok .next) s5):
  codeAny (model Y.prog Y.w) Y.A (.compLoop (sc2 elt tg iter tg2 iter2 scope pos) 1 (.ref it) (.ref D) Y.env) R s0:=by
 refine Zlv (fun n s'=>∃i ys σc H',Inv Y pb σc H' s'/\tn i s'.heap/\(∀b∈fp,H' b=none)/\H' D=none/\Stx.IS Y.prog Y.w s'.heap D ys/\W i n ys σc H') ?_ m0
  ⟨0,ys0,σ0,H0,I0,st,fr,hD0,dd0,w0⟩
 rintro n s5 ⟨i,ys,σc,H5,I5,st5,fr5,hD5,dd5,w5⟩
 obtain⟨ob,hob,hnc⟩:∃ob,s5.heap.get? D=some ob/\∀v,ob.data ≠ .cell v:=by
  obtain⟨o,es,ep,t,h1,_,h3,_⟩:=dd5
  exact⟨o,h1,fun v z=>by rw[h3] at z;cases z⟩
 have hdo:∀{h':Heap},h'.get? D=some ob->Stx.IS Y.prog Y.w h' D ys:=fun {h'} e=>dd5.keep fun o z=>by rw[hob] at z;cases z;exact e
 have fD5:=hDo H5 hD5
 have I5':Inv Y (pb ++ [(D,ob)]) σc H5 s5:=I5.pins_of fun p hp=>(mem_append.mp hp).elim (fun z=>I5.pin p (mem_append_right _ z)) fun z=>by
  rw[mem_singleton] at z
  subst z
  exact⟨hob,hD5,fD5.2.1,fD5.2.2.1,fun v z=>hnc v z⟩
 have one:∀p ∈ [(D,ob)],p.1=D:=fun p hp=>by rw[mem_singleton] at hp;rw[hp]
 have f5:∀b∈fp,Z4m Y (pb ++ [(D,ob)]) H5 b:=fun b hb=>hfp _ _ one b hb (fr5 b hb)
 rcases turn i n ys σc H5 w5 with ⟨stop,q⟩|⟨go,hz,step⟩
 ·refine thn (T.done Y rfl rfl rfl hc i _ s5 σc H5 (fun _ _=>False) I5' f5 st5 stop) fun r s6 ⟨hr,I6⟩=>?_
  subst hr
  exact fin s6 σc H5 ys (I6.pins_of fun p hp=>I6.pin p (mem_append_right _ (mem_append_left _ hp))) hD5 (hdo (I6.pin (D,_) (mem_append_right _ (mem_append_right _ mem_cons_self))).1) q
 ·refine thn (T.item Y rfl rfl rfl hc i _ s5 σc H5 (fun _ _=>False) I5' f5 st5 go) fun r s6 ⟨u,hr,h6⟩=>?_
  subst hr
  refine thn h6 fun _ s7 ⟨x,H7,I7,r7,y7,st7,fr7⟩=>?_
  have f7:∀b∈fp,Z4m Y (pb ++ [(D,ob)]) H7 b:=fun b hb=>hfp _ _ one b hb (fr7 b hb)
  have I7':=I7.pinned f7 (T.obj _ _ st7)
  have hx:=hg _ s7 σc H7 x u _ I7' r7 (step x H7 y7)
  rw[e6] at hx
  refine thn hx fun _ s8 ⟨σ8,H8,I8,q8⟩=>?_
  have keepT:∀{σ9:St} {H9:Hp} {s9:Shared},Inv Y ((pb ++ [(D,ob)])++Z4p fp s7.heap) σ9 H9 s9->tn (i+1) s9.heap/\(∀b∈fp,H9 b=none)/\H9 D=none/\s9.heap.get? D=some ob:=fun {σ9 H9 s9} I9=>by
   have pD:=I9.pin (D,_) (mem_append_right _ (mem_append_left _ (mem_append_right _ mem_cons_self)))
   refine⟨T.keep _ _ _ st7 fun b hb o e=>(I9.pin (b,o) (mem_append_right _ (mem_append_right _ (Z23 hb e)))).1,fun b hb=>?_,pD.2.1,pD.1⟩
   obtain⟨o,e,d⟩:=T.obj _ _ st7 b hb
   exact(I9.pin (b,o) (mem_append_right _ (mem_append_right _ (Z23 hb e)))).2.1
  have hx4:=he _ s8 σ8 H8 _ I8 q8
  rw[e6] at hx4
  refine thn hx4 fun vv s11 ⟨vy,H11,I11,rvv,y,ey,m',hm,w11⟩=>?_
  subst ey
  obtain⟨tk,rfl⟩:=rvv
  obtain⟨k1,k2,k3,k4⟩:=keepT I11
  refine Stx.call_add (hdo k4) (by show ys.length+1<4096;omega) fun h' sb is'=>?_
  have fD:=hDo H11 k3
  have I12:Inv Y pb σ8 H11 { s11 with heap:=h',toks:=s11.toks+1 }:=(I11.pins_of (pins':=pb) fun p hp=>I11.pin p (mem_append_right _ (mem_append_left _ (mem_append_left _ hp)))).turned (t':=s11.toks+1) (fun b o hb e=>(sb.2 b hb).trans e) fD.1 fD.2.1 fD.2.2.2.1 fD.2.2.2.2.1 fD.2.2.2.2.2
  refine⟨m',hm,i+1,Stx.addL ys y,σ8,H11,I12,T.keep _ _ _ k1 (fun b hb o e=>(sb.2 b ?_).trans e),k2,k3,is',w11⟩
  intro z;rw[z] at hb;exact hDf hb
def Zlw (P:Program)(w:World)(src:List (Option Nat))(wi:TI)(g:TG)(wi2:TI)(g2:TG)(te:TE):TE:=fun σ H Q=>wi σ H fun J H1=>∃W:Nat->Nat->List Str->St->Hp->Prop,(∃m,W 0 m [] (Zfg src σ) H1)/\∀i m ys σc H,W i m ys σc H →
 (J.stop i H/\∀l,H l=none->Q (.ref l) (upd H l (Zgz P w l ys))) ∨
 (J.go i H/\∀x H',J.yld i H x H'->g x σc H' fun σ2 H2=>wi2 σ2 H2 fun J2 H3=>∃W2:Nat->Nat->List Str->St->Hp->Prop,(∃m2,W2 0 m2 ys σ2 H3)/\∀i2 m2 ys2 σ3 H4,W2 i2 m2 ys2 σ3 H4 →
  (J2.stop i2 H4/\∃m',m'<m/\W (i+1) m' ys2 σ3 H4) ∨
  (J2.go i2 H4/\ys2.length<1000/\∀x2 H5,J2.yld i2 H4 x2 H5->g2 x2 σ3 H5 fun σ4 H6=>te σ4 H6 fun vv H7=>∃y:Str,vv = .str y/\∃m',m'<m2/\W2 (i2+1) m' (Stx.addL ys2 y) σ4 H7))
section
variable {X:Cx}{elt tg iter tg2 iter2:Expr}{scope:Scope}{pos:Pos}{N':List Str}{src:List (Option Nat)}{wi wi2:TI}{g g2:TG}{te:TE}
theorem Zlx {cl:List (Str×Addr)}{C D it:Addr}{fp:List Addr}{tn:Nat->Heap->Prop}{J:It}{pins:List (Addr×Obj)}{σ σ0:St}{H:Hp}{s3 s4:Shared}{R:Result->Shared->Prop}{W:Nat->Nat->List Str->St->Hp->Prop}{m0:Nat}{Q:List Str->Hp->Prop}
  (hc:X.calm=true) (T:Turn X.prog X.w X.K tg J fp it tn) (I3:Inv X pins σ H s3) (hC:C=s3.heap.objs.size)
  (hf:∀b∈D::fp,Z4m X pins H b) (hlt:∀b∈D::fp,b<s3.heap.objs.size) (hDf:D∉fp) (IY:Inv (Z1g X N' scope cl C (D::fp) s3 H) [] σ0 H s4) (st:tn 0 s4.heap) (dd0:Stx.IS X.prog X.w s4.heap D [])
  (hs:∀x,foldedSetIterable iter2 (compEnvC scope cl C X.env) x=pure x)
  (hg:PG (Z1g X N' scope cl C (D::fp) s3 H) tg g) (hi2:PI (Z1g X N' scope cl C (D::fp) s3 H) tg2 iter2 wi2) (hg2:PG (Z1g X N' scope cl C (D::fp) s3 H) tg2 g2) (he:PE (Z1g X N' scope cl C (D::fp) s3 H) elt te) (w0:W 0 m0 [] σ0 H)
  (turn:∀i m ys σc H,W i m ys σc H->(J.stop i H/\Q ys H)∨(J.go i H/\∀x H',J.yld i H x H'->g x σc H' fun σ2 H2=>wi2 σ2 H2 fun J2 H3=>∃W2:Nat->Nat->List Str->St->Hp->Prop,(∃m2,W2 0 m2 ys σ2 H3)/\∀i2 m2 ys2 σ3 H4,W2 i2 m2 ys2 σ3 H4 →
   (J2.stop i2 H4/\∃m',m'<m/\W (i+1) m' ys2 σ3 H4) ∨
   (J2.go i2 H4/\ys2.length<1000/\∀x2 H5,J2.yld i2 H4 x2 H5->g2 x2 σ3 H5 fun σ4 H6=>te σ4 H6 fun vv H7=>∃y:Str,vv = .str y/\∃m',m'<m2/\W2 (i2+1) m' (Stx.addL ys2 y) σ4 H7)))
  (fin:∀s5 σc H' ys pinsY,Inv (Z1g X N' scope cl C (D::fp) s3 H) pinsY σc H' s5->H' D=none->Stx.IS X.prog X.w s5.heap D ys->Q ys H'->R (.ok .next) s5):
  codeAny (model X.prog X.w) X.A (.compLoop (sc2 elt tg iter tg2 iter2 scope pos) 0 (.ref it) (.ref D) (compEnvC scope cl C X.env)) R s4:=by
 have eY:(Z1g X N' scope cl C (D::fp) s3 H).env=compEnvC scope cl C X.env:=rfl
 generalize hY:Z1g X N' scope cl C (D::fp) s3 H=Y at *
 have e1:Y.prog=X.prog:=by rw[<- hY];rfl
 have e2:Y.w=X.w:=by rw[<- hY];rfl
 have e3:Y.K=X.K:=by rw[<- hY];rfl
 have e4:Y.A=X.A:=by rw[<- hY];rfl
 have e5:Y.calm=true:=by rw[<- hY];exact hc
 have e6:Y.xe=fun _ _=>False:=by rw[<- hY];rfl
 have e7:Y.env.locals=C:=by rw[eY];rfl
 have e8:Y.ex=D::fp:=by rw[<- hY];rfl
 have e9:Y.pn = []:=by rw[<- hY];rfl
 have e11:∀x c,Y.env.cells.lookup x=some c->∀b∈D::fp,c≠b:=fun x c e b hb=>(IY.ok.exf b (by rw[e8];exact hb)).2 x c e
 have nst:∀b∈D::fp,b∉Y.fs:=fun b hb=>IY.ok.exfs b (by rw[e8];exact hb)
 have fpY:∀(pinsY:List (Addr×Obj)) (H':Hp),(∀p∈pinsY,p.1=D)->∀b∈fp,H' b=none->Z4m Y pinsY H' b:=fun pinsY H' hp b hb hn=>
  ⟨hn,by rw[e7,hC];exact Nat.ne_of_lt (hlt b (mem_cons_of_mem _ hb)),nst b (mem_cons_of_mem _ hb),.inl (by rw[e8];exact mem_cons_of_mem _ hb),fun x c e=>e11 x c e b (mem_cons_of_mem _ hb),fun p hp' z=>by
   rw[e9,nil_append] at hp'
   have q:=hp p hp'
   rw[z] at q
   rw[q] at hb
   exact hDf hb⟩
 have fpD:∀(pinsY:List (Addr×Obj)) (H':Hp),(∀p∈pinsY,p.1≠D)->H' D=none->Z4m Y pinsY H' D:=fun pinsY H' hp hn=>
  ⟨hn,by rw[e7,hC];exact Nat.ne_of_lt (hlt D mem_cons_self),nst D mem_cons_self,.inl (by rw[e8];exact mem_cons_self),fun x c e=>e11 x c e D mem_cons_self,fun p hp'=>by
   rw[e9,nil_append] at hp'
   exact hp p hp'⟩
 have T':Turn Y.prog Y.w Y.K tg J fp it tn:=by rw[e1,e2,e3];exact T
 rw[<- e1,<- e2] at dd0
 rw[<- eY,<- e1,<- e2,<- e4]
 rw[<- eY] at hs
 refine Zjf (fun n s'=>∃i ys σc H',Inv Y [] σc H' s'/\tn i s'.heap/\(∀b∈fp,H' b=none)/\H' D=none/\Stx.IS Y.prog Y.w s'.heap D ys/\W i n ys σc H') hs ?_ m0
  ⟨0,[],σ0,H,IY,st,fun b hb=>(hf b (mem_cons_of_mem _ hb)).1,(hf D mem_cons_self).1,dd0,w0⟩
 rintro n s5 ⟨i,ys,σc,H5,I5,st5,fr5,hD5,dd5,w5⟩
 obtain⟨ob,hob,hnc⟩:∃ob,s5.heap.get? D=some ob/\∀v,ob.data ≠ .cell v:=by
  obtain⟨o,es,ep,t,h1,_,h3,_⟩:=dd5
  exact⟨o,h1,fun v z=>by rw[h3] at z;cases z⟩
 have hdo:∀{h':Heap},h'.get? D=some ob->Stx.IS Y.prog Y.w h' D ys:=fun {h'} e=>dd5.keep fun o z=>by rw[hob] at z;cases z;exact e
 have I5':Inv Y [(D,ob)] σc H5 s5:=I5.pins_of fun p hp=>by
  rw[mem_singleton] at hp
  subst hp
  exact⟨hob,hD5,by rw[e7,hC];exact Nat.ne_of_lt (hlt D mem_cons_self),nst D mem_cons_self,fun v z=>hnc v z⟩
 have f5:∀b∈fp,Z4m Y [(D,ob)] H5 b:=fun b hb=>fpY _ _ (fun p hp=>by rw[mem_singleton] at hp;rw[hp]) b hb (fr5 b hb)
 rcases turn i n ys σc H5 w5 with ⟨stop,q⟩|⟨go,step⟩
 ·refine thn (T'.done Y rfl rfl rfl e5 i _ s5 σc H5 (fun _ _=>False) I5' f5 st5 stop) fun r s6 ⟨hr,I6⟩=>?_
  subst hr
  have dd6:=hdo (I6.pin (D,_) (mem_append_right _ mem_cons_self)).1
  rw[e1,e2] at dd6
  exact fin s6 σc H5 ys _ I6 hD5 dd6 q
 ·refine thn (T'.item Y rfl rfl rfl e5 i _ s5 σc H5 (fun _ _=>False) I5' f5 st5 go) fun r s6 ⟨u,hr,h6⟩=>?_
  subst hr
  refine thn h6 fun _ s7 ⟨x,H7,I7,r7,y7,st7,fr7⟩=>?_
  have f7:∀b∈fp,Z4m Y [(D,ob)] H7 b:=fun b hb=>fpY _ _ (fun p hp=>by rw[mem_singleton] at hp;rw[hp]) b hb (fr7 b hb)
  have I7':=I7.pinned f7 (T.obj _ _ st7)
  have hx:=hg _ s7 σc H7 x u _ I7' r7 (step x H7 y7)
  rw[e6] at hx
  refine thn hx fun _ s8 ⟨σ8,H8,I8,q8⟩=>?_
  have hx2:=hi2 _ s8 σ8 H8 _ I8 q8
  rw[e6] at hx2
  refine thn hx2 fun v9 s9 h9=>thn h9 fun itv s10 h10=>?_
  obtain⟨it2,fp2,tn2,J2,H10,rfl,I10,T2,st10,f10,W2,⟨m2,w2⟩,turn2⟩:=h10
  have pin10:∀p ∈ [(D,ob)]++Z4p fp s7.heap,s10.heap.get? p.1=some p.2/\H10 p.1=none:=fun p hp=>let q:=I10.pin p (mem_append_right _ hp);⟨q.1,q.2.1⟩
  have hD10:=pin10 (D,ob) (mem_append_left _ mem_cons_self)
  have pbD:∀p∈Z4p fp s7.heap,p.1≠D:=fun p hp z=>hDf (z▸(Z9n hp).1)
  have I10':Inv Y (Z4p fp s7.heap) σ8 H10 s10:=I10.pins_of fun p hp=>I10.pin p (mem_append_right _ (mem_append_right _ hp))
  have hD2:D∉fp2:=fun z=>(f10 D z).2.2.2.2.2 (D,ob) (mem_append_right _ (mem_append_left _ mem_cons_self)) rfl
  have lp:=Zo5 (Y:=Y) (elt:=elt) (tg:=tg) (iter:=iter) (tg2:=tg2) (iter2:=iter2) (scope:=scope) (pos:=pos) (pb:=Z4p fp s7.heap) (R:=fun r s5=>r = .ok .next/\∃m,m<n/\∃i ys σc H',Inv Y [] σc H' s5/\tn i s5.heap/\(∀b∈fp,H' b=none)/\H' D=none/\Stx.IS Y.prog Y.w s5.heap D ys/\W i m ys σc H') (Q:=fun ys2 σ3 H4=>∃m',m'<n/\W (i+1) m' ys2 σ3 H4)
   e5 e6 T2 (fun pins' H' hp b hb hn=>?_) (fun H' hn=>fpD _ _ pbD hn) hD2 hg2 he I10' st10 (fun b hb=>(f10 b hb).1) hD10.2 (hdo hD10.1) w2 turn2 (fun s11 σ11 H11 ys11 I11 hD11 dd11 q11=>?_)
  ·exact Zje lp (T2.self _ 0 _ _ _ st10 lp)
  ·obtain⟨_,a2,a3,a4,a5,a6⟩:=f10 b hb
   refine⟨hn,a2,a3,a4,a5,fun p hp'=>?_⟩
   rcases mem_append.mp hp' with z|z
   ·exact a6 p (mem_append_left _ z)
   ·rcases mem_append.mp z with z|z
    ·exact a6 p (mem_append_right _ (mem_append_right _ z))
    ·rw[hp p z]
     exact fun z=>hD2 (z▸hb)
  ·obtain⟨m',hm,w11⟩:=q11
   refine⟨rfl,m',hm,i+1,ys11,σ11,H11,I11.pins_of (fun p hp=>nomatch hp),T.keep _ _ _ st7 fun b hb o e=>(I11.pin (b,o) (mem_append_right _ (Z23 hb e))).1,fun b hb=>?_,hD11,dd11,w11⟩
   obtain⟨o,e,d⟩:=T.obj _ _ st7 b hb
   exact(I11.pin (b,o) (mem_append_right _ (Z23 hb e))).2.1
theorem Zh2 (hc:X.calm=true)(S:CompScope X scope N' src)(hi:PI X tg iter wi)
  (hb:∀cl C ex s0 H0,PG (Z1g X N' scope cl C ex s0 H0) tg g/\PI (Z1g X N' scope cl C ex s0 H0) tg2 iter2 wi2/\PG (Z1g X N' scope cl C ex s0 H0) tg2 g2/\PE (Z1g X N' scope cl C ex s0 H0) elt te)
  (hs:∀x,foldedSetIterable iter X.env x=pure x:=by intro _;rfl) (hs2:∀env x,foldedSetIterable iter2 env x=pure x:=by intro _ _;rfl):PE X (.SetComp elt [⟨tg,iter,[],0⟩,⟨tg2,iter2,[],0⟩] scope pos) (Zlw X.prog X.w src wi g wi2 g2 te):=by
 intro pins s σ H Q I h
 obtain⟨cl,hclos,hcl1,hcl2⟩:=Z5m (scope:=scope) (env:=X.env) fun n hn=>I.ok.has n (S.fr n hn)
 rw[arm_eval_SetComp]
 show wpAny _ _ (comprehension (sc2 elt tg iter tg2 iter2 scope pos) scope X.env _ (newSet (.type "set")) false (eval iter X.env)) _ _ s
 refine wpAny_comprehension_free (use:=none) rfl hs hclos S.kind S.names ?_
 refine thn (hi pins s σ H _ I h) fun v s1 h1=>thn h1 fun itv s2 h2=>?_
 obtain⟨it,fp,tn,J,H2,e,I2,T,st2,f2,W,⟨m0,w0⟩,turn⟩:=h2
 subst e
 refine Zlt (wpAny_newFunctionEnv S.cell (by intro y hy;simp at hy) (fun h₁ hns₁ hsb₁=>?_) S.kind)
 dsimp only at hns₁ hsb₁ ⊢
 generalize hH3:s2.heap.push (Zdv X.w)=H3 at hns₁ hsb₁ ⊢
 have hsz:H3.objs.size=s2.heap.objs.size+1:=by rw[<- hH3,Heap.size_push]
 have I3:Inv X pins σ H2 { s2 with heap:=H3 }:=I2.kept (t':=s2.toks) fun b o e=>by rw[<- hH3];exact Heap.get?_push_of_some _ e
 have fD:Z4m X pins H2 s2.heap.objs.size:=I2.fpOk (Nat.le_refl _) (I2.hok.fresh (Nat.le_refl _))
 have hDf:s2.heap.objs.size∉fp:=fun hm=>by
  obtain⟨o,e,_⟩:=T.obj 0 _ st2 _ hm
  exact Nat.lt_irrefl _ (Heap.lt_size e)
 have hf:∀b∈s2.heap.objs.size::fp,Z4m X pins H2 b:=fun b hb=>by
  rcases mem_cons.mp hb with z|z
  ·rw[z];exact fD
  ·exact f2 b z
 have hlt:∀b∈s2.heap.objs.size::fp,b<H3.objs.size:=fun b hb=>by
  rcases mem_cons.mp hb with z|z
  ·rw[z,hsz];exact Nat.lt_succ_self _
  ·obtain⟨o,e,_⟩:=T.obj 0 _ st2 b z
   rw[hsz];exact Nat.lt_succ_of_lt (Heap.lt_size e)
 have kp:∀b o,H3.get? b=some o->h₁.get? b=some o:=fun b o e=>hsb₁.extBut b o (Nat.ne_of_lt (Heap.lt_size e)) (Heap.get?_push_of_some _ e)
 have kp0:∀b o,s2.heap.get? b=some o->h₁.get? b=some o:=fun b o e=>kp b o (by rw[<- hH3];exact Heap.get?_push_of_some _ e)
 have hacc:Stx.IS X.prog X.w h₁ s2.heap.objs.size []:=by
  have h0:Stx.IS X.prog X.w H3 s2.heap.objs.size []:=by rw[<- hH3];exact Stx.IS.new (Heap.get?_push_size _ rfl)
  exact h0.keep fun o e=>kp _ o e
 have st1:tn 0 h₁:=T.keep _ _ _ st2 fun b _ o e=>kp0 b o e
 have IY:=Z5n (N':=N') (src:=src) (scope:=scope) (cl:=cl) (C:=H3.objs.size) (D:=s2.heap.objs.size) (fp:=fp) (s3:={ s2 with heap:=H3 }) (h1:=h₁) (tk:=s2.toks) S I3 hcl1 hcl2 rfl hf hlt hns₁ kp
 obtain⟨hg,hi2,hg2,he⟩:=hb cl H3.objs.size (s2.heap.objs.size::fp) { s2 with heap:=H3 } H2
 have loop:=Zlx (R:=compPost (model X.prog X.w) X.A X.xe none (EP X pins σ Q) (.ref s2.heap.objs.size) H3.objs.size) (elt:=elt) (iter:=iter) (tg2:=tg2) (iter2:=iter2) (pos:=pos) (Q:=fun kvs H=>∀l,H l=none->Q (.ref l) (upd H l (Zgz X.prog X.w l kvs)))
  hc T I3 rfl hf hlt hDf IY st1 hacc (hs2 _) hg hi2 hg2 he w0 turn (fun s5 σc H' kvs pinsY IY5 hD dd q=>by
   obtain⟨m,hn,_⟩:=IY5.loc
   refine⟨m,hn,fun h' hs'=>⟨.ref s2.heap.objs.size,upd H' s2.heap.objs.size (Zgz X.prog X.w s2.heap.objs.size kvs),?_,rfl,q _ hD⟩⟩
   exact Zbo I3 rfl hf hlt IY5 hD dd hs')
 exact Zh1 loop (T.self _ 0 _ _ _ st1 loop)
end
end L2
namespace L2
open PySem PySem.Spec PyProof.Rows
theorem Zly {X:Cx}{K:W.Frag}(h:X.K=K){tg l:Expr}{tl:TE}(hl:PE X l tl):PI X tg l (Zow K tl):=by subst h;exact Z61 hl
theorem Zh3 (a b:List Str):Stx.ofL (a++b)=b.foldl Stx.addL (Stx.ofL a):=by
 unfold Stx.ofL
 rw[foldl_append]
theorem Zbp {K:W.Frag}{a:Addr}{xs:List V}{tss:List (List Str)}{H:Hp}{Q:List Str->Hp->Prop}(hx:SqL K H a xs)(hlen:xs.length=tss.length)
  (hr:∀(i:Nat) (x:V) (ts:List Str),xs[i]? = some x->tss[i]? = some ts->∃p,x = .ref p/\SqT K H p (ts.map V.str)) (hz:(Stx.ofL tss.flatten).length<1000) (k:Q (Stx.ofL tss.flatten) H):
  ∃W:Nat->Nat->List Str->St->Hp->Prop,(∃m,W 0 m [] [none,none] H)/\∀i m ys σc H,W i m ys σc H →
   ((Itl K a).stop i H/\Q ys H) ∨
   ((Itl K a).go i H/\∀x H',(Itl K a).yld i H x H'->Z9l 0 x σc H' fun σ2 H2=>Zow K (tVar 0) σ2 H2 fun J2 H3=>∃W2:Nat->Nat->List Str->St->Hp->Prop,(∃m2,W2 0 m2 ys σ2 H3)/\∀i2 m2 ys2 σ3 H4,W2 i2 m2 ys2 σ3 H4 →
    (J2.stop i2 H4/\∃m',m'<m/\W (i+1) m' ys2 σ3 H4) ∨
    (J2.go i2 H4/\ys2.length<1000/\∀x2 H5,J2.yld i2 H4 x2 H5->Z9l 1 x2 σ3 H5 fun σ4 H6=>tVar 1 σ4 H6 fun vv H7=>∃y:Str,vv = .str y/\∃m',m'<m2/\W2 (i2+1) m' (Stx.addL ys2 y) σ4 H7)):=by
 refine⟨fun i m ys σc H'=>m=xs.length-i/\i<=xs.length/\H'=H/\(∃o o',σc = [o,o'])/\ys=Stx.ofL (tss.take i).flatten,⟨_,rfl,Nat.zero_le _,rfl,⟨none,none,rfl⟩,by rw[take_zero];rfl⟩,?_⟩
 rintro i m ys σc H' ⟨rfl,hi,rfl,⟨o,o',rfl⟩,rfl⟩
 by_cases hlt:i<xs.length
 ·have hxi:xs[i]? = some xs[i]:=List.getElem?_eq_getElem hlt
  obtain⟨ts,hts⟩:∃ts,tss[i]? = some ts:=⟨_,List.getElem?_eq_getElem (by omega)⟩
  obtain⟨p,hp,hsq⟩:=hr i _ ts hxi hts
  have hfl:(tss.take (i+1)).flatten=(tss.take i).flatten++ts:=by
   rw[take_add_one,hts,List.flatten_append]
   simp
  refine .inr ⟨⟨xs,xs[i],hx,hxi⟩,fun x H2 y=>?_⟩
  obtain⟨rfl,y⟩:=y
  have hxe:=y xs hx
  rw[hxi] at hxe
  cases hxe
  rw[hp]
  refine⟨_,rfl,p,rfl,⟨_,hsq⟩,fun i2 m2 ys2 σ3 H4=>m2=ts.length-i2/\i2<=ts.length/\H4=H2/\(∃o',σ3 = [some (.ref p),o'])/\ys2=(ts.take i2).foldl Stx.addL (Stx.ofL (tss.take i).flatten),⟨_,rfl,Nat.zero_le _,rfl,⟨o',rfl⟩,by rw[take_zero];rfl⟩,?_⟩
  rintro i2 m2 ys2 σ3 H4 ⟨rfl,hi2,rfl,⟨o2,rfl⟩,rfl⟩
  by_cases hl2:i2<ts.length
  ·have ht2:ts[i2]? = some ts[i2]:=List.getElem?_eq_getElem hl2
   refine .inr ⟨⟨_,.str ts[i2],hsq,by rw[List.getElem?_map,ht2];rfl⟩,?_,fun x2 H5 y2=>?_⟩
   ·have hp:tss.flatten=(tss.take i).flatten++ts.take i2++(ts.drop i2++(tss.drop (i+1)).flatten):=by
     have e:=congrArg List.flatten (take_append_drop (i+1) tss)
     rw[List.flatten_append,hfl] at e
     rw[<- e,append_assoc,append_assoc,<- append_assoc (ts.take i2),take_append_drop]
    have h1:=Stx.ofL_take tss.flatten ((tss.take i).flatten++ts.take i2).length
    rw[hp,take_left,<- hp,Zh3] at h1
    omega
   ·obtain⟨rfl,y2⟩:=y2
    have e2:=y2 _ hsq
    rw[List.getElem?_map,ht2] at e2
    cases e2
    refine⟨_,rfl,_,rfl,_,?_,rfl,hl2,rfl,⟨_,rfl⟩,?_⟩
    ·show ts.length-(i2+1)<ts.length-i2
     omega
    ·rw[take_add_one,ht2,foldl_append]
     rfl
  ·have e:i2=ts.length:=by omega
   subst e
   refine .inl ⟨⟨_,hsq,by rw[length_map];exact Nat.le_refl _⟩,_,?_,rfl,hlt,rfl,⟨_,_,rfl⟩,?_⟩
   ·show xs.length-(i+1)<xs.length-i
    omega
   ·rw[take_of_length_le (Nat.le_refl _),hfl,Zh3]
 ·have e:i=xs.length:=by omega
  subst e
  refine .inl ⟨⟨xs,hx,Nat.le_refl _⟩,?_⟩
  rw[take_of_length_le (by omega)]
  exact k
theorem Zo6:∀{x y:List Nat},Spec.ltCps x y=false->Spec.ltCps y x=false->x=y:=by
 intro x
 induction x with
 |nil=>
  intro y h _
  cases y with
  |nil=>rfl
  |cons b y=>simp [Spec.ltCps] at h
 |cons a x ih=>
  intro y h g
  cases y with
  |nil=>simp [Spec.ltCps] at g
  |cons b y=>
   rw[Spec.ltCps] at h g
   simp only [Bool.or_eq_false_iff,decide_eq_false_iff_not,Bool.and_eq_false_iff,beq_eq_false_iff_ne] at h g
   have e:a=b:=by omega
   subst e
   rw[ih (h.2.resolve_left fun z=>z rfl) (g.2.resolve_left fun z=>z rfl)]
theorem Zh4:∀{x y z:List Nat},Spec.ltCps y x=false->Spec.ltCps z y=false->Spec.ltCps z x=false:=by
 intro x
 induction x with
 |nil=>
  intro y z _ _
  cases z <;> simp [Spec.ltCps]
 |cons a x ih=>
  intro y z h g
  cases y with
  |nil=>simp [Spec.ltCps] at h
  |cons b y=>
   cases z with
   |nil=>simp [Spec.ltCps] at g
   |cons c z=>
    rw[Spec.ltCps] at h g ⊢
    simp only [Bool.or_eq_false_iff,decide_eq_false_iff_not,Bool.and_eq_false_iff,beq_eq_false_iff_ne] at h g ⊢
    refine⟨by omega,?_⟩
    by_cases e:c=a
    ·have e1:b=a:=by omega
     have e2:c=b:=by omega
     exact .inr (ih (h.2.resolve_left fun z=>z e1) (g.2.resolve_left fun z=>z e2))
    ·exact .inl e
def leS (a b:Str):Prop:=Spec.ltCps b.cps.toList a.cps.toList=false
theorem Zh5:∀(l:List Str) (x:Str),risingS x l=true->(x::l).Pairwise leS:=by
 intro l
 induction l with
 |nil=>intro x _;simp
 |cons y l ih=>
  intro x h
  rw[risingS,Bool.and_eq_true] at h
  have hp:=ih y h.2
  have hxy:leS x y:=by
   show Spec.ltCps y.cps.toList x.cps.toList=false
   simpa using h.1
  refine pairwise_cons.mpr ⟨fun z hz=>?_,hp⟩
  rcases mem_cons.mp hz with q|q
  ·rw[q];exact hxy
  ·exact Zh4 hxy ((pairwise_cons.mp hp).1 z q)
theorem Zas {l:List Str}(h:sortedS l=true):l.Pairwise leS:=by
 cases l with
 |nil=>exact .nil
 |cons x l=>exact Zh5 l x h
theorem Zo7 {a b:Str}(h:leS a b)(g:leS b a):a=b:=by
 have e:=Zo6 g h
 cases a
 cases b
 exact congrArg Str.mk (Array.toList_inj.mp e)
theorem Zeh:∀{a b:List Str},sortedS a=true->sortedS b=true->a.Perm b->a=b:=by
 have go:∀(a b:List Str),a.Pairwise leS->b.Pairwise leS->a.Perm b->a=b:=by
  intro a
  induction a with
  |nil=>intro b _ _ p;exact p.nil_eq
  |cons x a ih=>
   intro b ha hb p
   cases b with
   |nil=>exact absurd p.length_eq (by simp)
   |cons y b=>
    have hle:∀{u v:Str} {l:List Str},(u::l).Pairwise leS->v∈u::l->v=u∨leS u v:=fun {u v l} h m=>(mem_cons.mp m).elim .inl fun q=>.inr ((pairwise_cons.mp h).1 v q)
    have h1:=hle hb (p.mem_iff.mp (mem_cons_self ..))
    have h2:=hle ha (p.mem_iff.mpr (mem_cons_self ..))
    have e:x=y:=by
     rcases h1 with z|z
     ·exact z
     ·rcases h2 with q|q
      ·exact q.symm
      ·exact Zo7 q z
    subst e
    rw[ih b (pairwise_cons.mp ha).2 (pairwise_cons.mp hb).2 (List.Perm.cons_inv p)]
 intro a b ha hb p
 exact go a b (Zas ha) (Zas hb) p
theorem Zat (l:List Str):(Stx.ofL l).Nodup:=by
 have go:∀(b a:List Str),a.Nodup->(b.foldl Stx.addL a).Nodup:=by
  intro b
  induction b with
  |nil=>intro a h;exact h
  |cons y b ih=>intro a h;exact ih _ (Stx.addL_nd h)
 exact go l [] nodup_nil
end L2
namespace K36
open PySem L2 PyProof.Rows
inductive spNamesTog_ (K:W.Frag)(vs:List V)(H:Hp)(Q:VK):Prop
 |mk (ra:Addr) (xs:List V) (tss:List (List Str)) (_:vs = [.ref ra]) (_:SqL K H ra xs) (_:xs.length=tss.length) (_:(∀(i:Nat) (x:V) (ts:List Str),xs[i]? = some x->tss[i]? = some ts->∃p,x = .ref p/\SqT K H p (ts.map V.str))) (_:(Stx.ofL tss.flatten).length<64) (_:∀(p:Addr) (u:List Str) H',Same H H'->H' p=some (.tup (u.map V.str))->sortedS u=true->u.Perm (Stx.ofL tss.flatten)->Q (.ref p) H'):spNamesTog_ K vs H Q
def Z89 (K:W.Frag):Sp:=fun vs H Q _=>spNamesTog_ K vs H Q
theorem Zo8:(["row","name"]:List Str).Nodup:=by decide+kernel
section
variable {P:Program}{w:World}{K:W.Frag}{mg:Str->Option Value}{base:Heap}
theorem Zei:FnScope ["rows"] ["rows"] (Z04 Z2z):=.q
theorem Zbq {f:Addr}{fd:FuncData}(F:Fun K "names_together" "names_together" Z2z f fd)(T:TxtT mg)(hsorted:mg "sorted"=none):FnOk P w K mg base CX0 1 f fd ["rows"] (Z89 K):=by
 refine F.ok Zei (fun vs H Q E h=>?_) (fun cdv A outer s H vs Q E hr h=>?_)
 ·obtain⟨ra,xs,tss,rfl,_⟩:=h
  rfl
 ·obtain⟨ra,xs,tss,rfl,hra,hlen,hrw,h64,k⟩:=h
  have hsz:=sizeLine_eq
  refine'⟨?tt,?body,?fin⟩
  case body=>
   refine' Z07 (Z0h (Z15 Z0w (by rfl) T.tup (by decide+kernel) (Z2h (Z0r (id:="sorted") (Z2p rfl) (by rfl) hsorted (by decide+kernel) (Z0b ?c Z02)) Z02)))
   case c=>
    refine' Zh2 (N':=["row","name"]) (src:=[none,none]) rfl ?k5 ?k6 ?k7
    case k5=>exact Z0d (Z04 Z2z) rfl ["rows"] rfl (by decide+kernel)
    case k6=>exact Z19 (pv 0)
    case k7=>exact fun cl C ex s0 H0=>⟨Z0l (i:=0) Zo8 rfl (Or.inl rfl),Zly (K:=K) rfl (pv 0),Z0l (i:=1) Zo8 rfl (Or.inl rfl),pv 1⟩
  case fin=>
   refine⟨_,rfl,ra,rfl,⟨_,hra⟩,Zbp hra hlen hrw (by omega) fun p hp=>?_⟩
   refine⟨p,_,rfl,Z00,h64,fun u q pu su hq=>?_⟩
   have sp:=Z01 (o:=Zgz P w p (Stx.ofL tss.flatten)) hp
   have sq:=Z01 (o:=.lst (u.map V.str)) hq
   refine⟨q,_,rfl,.inl ⟨SqL.of Z00,fun q2 hq2=>?_⟩⟩
   have sr:=Z01 (o:=.tup (u.map V.str)) hq2
   exact k q2 u _ ((sp.trans sq).trans sr) Z00 su pu
end
end K36
namespace K36
open PySem L2
theorem FnOk.ex {P:Program}{w:World}{K:W.Frag}{mg:Str->Option Value}{base:Heap}{CX:CXT}{k:Nat}{f:Addr}{fd:FuncData}{ps:List Str}{ι : Type}{sp : ι -> Sp}(h:∀i,FnOk P w K mg base CX k f fd ps (sp i)):
  FnOk P w K mg base CX k f fd ps (fun vs H Q E=>∃i,sp i vs H Q E):=
 ⟨fun vs H Q E ⟨i,q⟩=>(h i).len vs H Q E q,fun A outer s H args us vs Q E hr he hb hv ⟨i,q⟩=>(h i).run A outer s H args us vs Q E hr he hb hv q⟩
structure Fd where
 x:Str
 ps:List Str
 t:Th
def Fd.th (f:Fd):Th:=.tup [.at (.str f.x),.tup (f.ps.map fun p=>Th.at (.str p)),f.t]
def nmL (fs:List Fd):List Str:=fs.map (·.x)
theorem Z6f (fs:List Fd)(f:Fd):nmL (fs ++ [f])=nmL fs ++ [f.x]:=by unfold nmL;rw[map_append];rfl
def nmS (U:List Str)(fs:List Fd):SS:=⟨nmL fs,U⟩
structure FdOk (S:SS)(f:Fd):Prop where
 b:PfT S 4 f.t
 n:Nm f.x
 d:f.x∉S.c
 l:f.ps.length<=6
 p:∀p∈f.ps,NmU S p
 c:cnt f.t<=29
def FOk (U:List Str)(fs:List Fd):Prop:=∀j f,fs[j]? = some f->FdOk (nmS U (fs.take j)) f
theorem FOk.nil {U:List Str}:FOk U []:=fun j f h=>by rw[List.getElem?_nil] at h;cases h
theorem FOk.snoc {U:List Str}{fs:List Fd}{f:Fd}(h:FOk U fs)(g:FdOk (nmS U fs) f):FOk U (fs ++ [f]):=by
 intro j u hu
 by_cases hj:j<fs.length
 ·rw[List.getElem?_append_left hj] at hu
  rw[take_append_of_le_length (by omega)]
  exact h j u hu
 ·rw[List.getElem?_append_right (by omega)] at hu
  have h1:j=fs.length:=by
   rcases Nat.lt_or_ge (j-fs.length) 1 with y|y
   ·omega
   ·rw[List.getElem?_eq_none (by simpa using y)] at hu;cases hu
  subst h1
  rw[Nat.sub_self] at hu
  cases hu
  rw[take_append_of_le_length (Nat.le_refl _),take_length]
  exact g
def Z9i (fs:List Fd):Str->Int:=fs.foldl (fun ρ f=>fun y=>if y=f.x then wk ρ f.t else ρ y) (fun _=>0)
theorem Zh6 (fs:List Fd)(f:Fd):Z9i (fs ++ [f])=fun y=>if y=f.x then wk (Z9i fs) f.t else Z9i fs y:=by
 unfold Z9i
 rw[foldl_append]
 rfl
theorem Works.snoc {U:List Str}{fs:List Fd}{f:Fd}{kvs:List (Key×V)}(h:Works (nmS U fs) (Z9i fs) kvs):Works (nmS U (fs ++ [f])) (Z9i (fs ++ [f])) (Z3z kvs (Sum.inr f.x) (.int (wk (Z9i fs) f.t))):=by
 intro y hy
 rw[Zh6]
 replace hy:y∈nmL (fs ++ [f]):=hy
 rw[Z6f] at hy
 by_cases e:y=f.x
 ·subst e
  rw[Z20,if_pos rfl]
  simp
 ·rw[Z20,if_neg (by intro q;injection q with q;exact e q)]
  rcases mem_append.mp hy with z|z
  ·simp only [if_neg e]
   exact h y z
  ·rw[mem_singleton] at z
   exact absurd z e
theorem Z9c (kvs:List (Key×V))(k:Key)(v:V):(Z3z kvs k v).length<=kvs.length+1:=by
 unfold Z3z
 split
 ·rw[length_map];exact Nat.le_succ _
 ·rw[length_append];exact Nat.le_refl _
theorem Z7b {xs:List V}{z:Int}(h0:0<=z):Z7g xs none (some z)=xs.take z.toNat:=by
 by_cases h:z.toNat<=xs.length
 ·exact Zcg h0 h
 ·have e:HT.sIx xs.length xs.length (some z)=xs.length:=by
   show(if z<0 then (z+(xs.length:Int)).toNat else min z.toNat xs.length)=_
   rw[if_neg (by omega)]
   omega
  unfold Z7g
  rw[e]
  show(xs.drop 0).take (xs.length-0)=_
  rw[drop_zero,Nat.sub_zero,take_length,take_of_length_le (by omega)]
theorem Fd.pl {S:SS}{f:Fd}(h:FdOk S f):plT f.th=true:=by
 unfold Fd.th
 rw[plT]
 refine Z21 fun y hy=>?_
 simp only [mem_cons,not_mem_nil,or_false] at hy
 rcases hy with rfl|rfl|rfl
 ·rfl
 ·rw[plT]
  refine Z21 fun y hy=>?_
  obtain⟨q,_,rfl⟩:=mem_map.mp hy
  rfl
 ·exact h.b.pl
structure Lp (H H':Hp)(d l nm lt fa ka wo:Addr)(ns:List Int)(n:Nat)(T1 T2:List Str)(fv kv:List V)(kvs:List (Key×V))(fA fB fC:List Fd):Prop where
 F:Feed H' d l ns n
 pB:But d H H'
 pNm:H' nm=some (.lst (T1.map V.str))
 pLt:H' lt=some (.lst (T2.map V.str))
 pFa:H' fa=some (.lst fv)
 ft:IsThs H' fv (fA.map Fd.th)
 fo:FOk (T1++T2) fA
 pKa:H' ka=some (.lst kv)
 kl:kv.length=fB.length
 ke:∀v∈kv,∃(c:Addr) (x:Str) (m:Int),v = .ref c/\H' c=some (.tup [.str x,.int m])/\x∈nmL fB/\Nm x/\0<=m/\m<=6
 pWo:H' wo=some (.dK kvs)
 wk:Works (nmS (T1++T2) fC) (Z9i fC) kvs
 wl:kvs.length<=fC.length
 o1:wo≠d
 fk:fa≠ka
section
variable {H H1 H2:Hp}{d l nm lt fa ka wo:Addr}{ns:List Int}{n n2:Nat}{T1 T2:List Str}{fv kv:List V}{kvs:List (Key×V)}{fA fB fC:List Fd}
theorem Lp.go (C:Lp H H1 d l nm lt fa ka wo ns n T1 T2 fv kv kvs fA fB fC)(b:But d H1 H2)(F2:Feed H2 d l ns n2):Lp H H2 d l nm lt fa ka wo ns n2 T1 T2 fv kv kvs fA fB fC:=
 have k:=b.kp C.F
 ⟨F2,C.pB.trans b,k _ _ C.pNm (fun _ z=>by cases z),k _ _ C.pLt (fun _ z=>by cases z),k _ _ C.pFa (fun _ z=>by cases z),IsThs.kp k C.ft,C.fo,k _ _ C.pKa (fun _ z=>by cases z),C.kl,fun v hv=>let ⟨c,x,m,h1,h2,h3⟩:=C.ke v hv;⟨c,x,m,h1,k _ _ h2 (fun _ z=>by cases z),h3⟩,b _ _ C.pWo C.o1,C.wk,C.wl,C.o1,C.fk⟩
theorem Lp.same (C:Lp H H1 d l nm lt fa ka wo ns n T1 T2 fv kv kvs fA fB fC)(s:Same H1 H2):Lp H H2 d l nm lt fa ka wo ns n T1 T2 fv kv kvs fA fB fC:=C.go (But.of s) (C.F.same s)
theorem Lp.app (C:Lp H H1 d l nm lt fa ka wo ns n T1 T2 fv kv kvs fA fB fC){v:V}{f:Fd}(hv:IsTh H1 v f.th)(g:FdOk (nmS (T1++T2) fA) f)(h0:H fa=none)(hl:fa≠l)(hn:fa≠nm)(ht:fa≠lt):
  Lp H (upd H1 fa (.lst (fv ++ [v]))) d l nm lt fa ka wo ns n T1 T2 (fv ++ [v]) kv kvs (fA ++ [f]) fB fC:=by
 obtain⟨⟨y,hd⟩,hls,hs⟩:=C.F
 have hfd:fa≠d:=Z3c C.pFa hd (by intro z;cases z)
 refine⟨⟨⟨y,by rw[Z0c hfd.symm];exact hd⟩,by rw[Z0c hl.symm];exact hls,hs⟩,fun b o e hb=>?_,by rw[Z0c hn.symm];exact C.pNm,by rw[Z0c ht.symm];exact C.pLt,Z00,?_,C.fo.snoc g,by rw[Z0c C.fk.symm];exact C.pKa,C.kl,fun v hv=>?_,?_,C.wk,C.wl,C.o1,C.fk⟩
 ·rw[Z0c (Z0j e h0)]
  exact C.pB b o e hb
 ·rw[map_append]
  refine IsThs.app _ (Z90 C.pFa But.upd C.ft (Z21 fun y hy=>?_)) (.cons (Z80 C.pFa But.upd hv (Fd.pl g)) .nil)
  obtain⟨u,hu,rfl⟩:=mem_map.mp hy
  obtain⟨j,hj⟩:=List.getElem?_of_mem hu
  exact Fd.pl (C.fo j u hj)
 ·obtain⟨c,x,m,h1,h2,h3⟩:=C.ke v hv
  exact⟨c,x,m,h1,by rw[Z0c (Z3c h2 C.pFa (by intro z;cases z))];exact h2,h3⟩
 ·rw[Z0c (Z3c C.pWo C.pFa (by intro z;cases z))]
  exact C.pWo
end
theorem Zh7 {H:Hp}{v:V}{f:Fd}(h:IsTh H v f.th):∃c vs,v = .ref c/\H c=some (.tup (.str f.x::vs)):=by
 unfold Fd.th at h
 obtain⟨a,vs,rfl,ha,hvs⟩:=Z13 h
 cases hvs with
 |cons d1 d2=>
  obtain⟨rfl,_⟩:=Z1i d1
  exact⟨a,_,rfl,ha⟩
theorem Zcz {fs:List Fd}{i:Nat}{f:Fd}(h:fs[i]? = some f):(nmL (fs.take i)).map V.str ++ [.str f.x]=(nmL (fs.take (i+1))).map V.str:=by
 unfold nmL
 rw[take_add_one,h]
 simp
theorem FOk.nm {U:List Str}{fs:List Fd}(h:FOk U fs):∀t∈nmL fs,Nm t:=by
 intro t ht
 obtain⟨f,hf,rfl⟩:=mem_map.mp ht
 obtain⟨j,hj⟩:=List.getElem?_of_mem hf
 exact(h j f hj).n
theorem Zd0 {H:Hp}:∀{ps:List Str},(∀p∈ps,Nm p)->IsThs H (ps.map V.str) (ps.map fun p=>Th.at (.str p))
 |[],_=>.nil
 |p::ps,h=>.cons (.at (smN (h p (mem_cons_self ..)))) (Zd0 fun q hq=>h q (mem_cons_of_mem _ hq))
def prT (fs:List Fd)(m:Th):Th:=.tup [.tup (fs.map Fd.th),m]
structure Set' (H:Hp)(d l q tp wd:Addr)(a:WA)(T1 T2:List Str)(kv:List V)(kvs:List (Key×V))(fs:List Fd)(ns:List Int)(n:Nat)(r:Int):Prop where
 F:Feed H d l ns n
 pQ:H q=some (.tup [.ref tp,.ref wd])
 pF:IsTh H (.ref tp) (.tup (fs.map Fd.th))
 fo:FOk (T1++T2) fs
 fl:fs.length<=3
 W:H wd=some (.dK (Z0p a r 500))
 N:Wf (nmS (T1++T2) fs) 0 H d wd a ⟨T1,T2,kv,[],[],Z9i fs,kvs⟩
 t1:2<=T1.length
 t5:T1.length<=5
 t2:T2.length=2
inductive spSetting_ (vs:List V)(H:Hp)(Q:VK):Prop
 |mk (d l:Addr) (ns:List Int) (n:Nat) (r:Int) (_:vs = [.ref d,.int r]) (_:Feed H d l ns n) (_:n<=400000000000) (_:0<=r) (_:r<=1000) (_:∀(q tp wd:Addr) (a:WA) (T1 T2:List Str) (kv:List V) (kvs:List (Key×V)) (fs:List Fd) (n':Nat) H',Set' H' d l q tp wd a T1 T2 kv kvs fs ns n' r->n'<=n+50000->But d H H'->Q (.ref q) H'):spSetting_ vs H Q
def spSetting:Sp:=fun vs H Q _=>spSetting_ vs H Q
def Zh8 (M N:Nat):Sp:=fun vs H Q E=>∃S,Zal S M N vs H Q E
def Zlz (N:Nat):Sp:=fun vs H Q E=>∃S,Z5e S N vs H Q E
theorem Zka:(["_law_one"]:List Str).Nodup:=by decide+kernel
structure PrF where
 x:ExpF
 fM:Addr
 fA:Addr
 fO:Addr
 dM:FuncData
 dA:FuncData
 dO:FuncData
structure Pr (K:W.Frag)(mg:Str->Option Value)(p:PrF):Prop where
 E:Exp K mg p.x
 M:Fn K mg "_law_names" Zag ["_law_feed_here","_law_many"] p.fM p.dM
 A:Fn K mg "_law_name" Z36 ["_law_feed_here","_law_taken"] p.fA p.dA
 O:Fn K mg "_law_world" Zah ["_law_names_here","_law_lets","_law_functions","_law_works","_law_room","_law_toil"] p.fO p.dO
section
variable {P:Program}{w:World}{K:W.Frag}{mg:Str->Option Value}{base:Heap}{p:PrF}
theorem scSetting:FnScope ["_law_feed_here","_law_room","_law_names_here","_law_lets","_law_functions","_law_known","_law_works","_law_k","_law_name_here","_law_pool","_law_at","_law_params","_law_world_here","_law_body"] ["_law_feed_here","_law_room"] (Z04 Z3u):=.q
theorem Zej {f:Addr}{fd:FuncData}(F:Fun K "_law_setting" "_law_setting" Z3u f fd)(G:Pr K mg p):
  FnOk P w K mg base CX0 13 f fd ["_law_feed_here","_law_room"] spSetting:=by
 have GD:FnOk P w K mg base CX0 1 p.x.g.fD p.x.g.dD ["_law_feed_here","_law_many"] spDraw:=G.E.G.gD
 have GM:FnOk P w K mg base CX0 3 p.fM p.dM ["_law_feed_here","_law_many"] spNames:=Zik G.M.F G.E.G.U G.A.F G.A.b G.A.m
 have GA:FnOk P w K mg base CX0 2 p.fA p.dA ["_law_feed_here","_law_taken"] spLawName:=Z7z G.A.F G.E.G.U
 have GO:FnOk P w K mg base CX0 1 p.fO p.dO ["_law_names_here","_law_lets","_law_functions","_law_works","_law_room","_law_toil"] spWorld:=Zis G.O.F
 have GE4:FnOk P w K mg base CX0 12 p.x.fE p.x.dE ["_law_feed_here","_law_world_here","_law_bound_here","_law_below","_law_times"] (Zh8 0 4):=FnOk.ex fun S=>G.E.gE (M:=0) 4
 have GK:FnOk P w K mg base CX0 6 p.x.g.fK p.x.g.dK ["_law_e","_law_works"] (Zlz 4):=FnOk.ex fun S=>G.E.G.gK 4
 refine F.ok scSetting (fun vs H Q E h=>?_) (fun cdv A outer s H vs Q E hr h=>?_)
 ·obtain⟨d,l,ns,n,r,rfl,_⟩:=h
  rfl
 ·obtain⟨d,l,ns,n,r,rfl,F0,hn,hr0,hr1000,k⟩:=h
  have hsz:=sizeLine_eq
  have hu:(_:Around).units+1<cLine:=Nat.lt_of_le_of_lt (Nat.add_le_add_left (by decide) _) hr.units
  have hu0:=hr.units0
  have hr1:Room 1 _:=hr.mono (by decide)
  have hr2:Room 2 _:=hr.mono (by decide)
  have hr3:Room 3 _:=hr.mono (by decide)
  have hr6:Room 6 _:=hr.mono (by decide)
  have hr12:Room 12 _:=hr.mono (by decide)
  have T:=G.E.G.U.T
  have XT:=G.E.G.X.T
  refine'⟨?tt,?body,?fin⟩
  case body=>
   refine' Z0g ?s1 ?r1
   case s1=>exact Z0a (i:=2) scSetting.nd rfl (Or.inl rfl) (Z06 GM hr3 (by rfl) G.M.m G.M.F.kp G.M.b .nil Z0f (Z0e (pv 0) (Z0b (Z0m Z1w Z03 (Z06 GD hr1 (by rfl) G.E.G.U.mD G.E.G.U.D.kp G.E.G.U.bD .nil Z0f (Z0e (pv 0) (Z18 Z03 Z02)))) Z02)))
   case r1=>
    refine' Z0g ?s2 ?r2
    case s2=>exact Z0a (i:=3) scSetting.nd rfl (Or.inl rfl) (Z14 (Z2h (Z06 GA hr2 (by rfl) G.A.m G.A.F.kp G.A.b .nil Z0f (Z0e (pv 0) (Z0e (pv 2) Z02))) (Z0b (Z0q Z16 (pv 2) Z03 (fun _ _=>rfl)) Z02)))
    case r2=>
     refine' Z05 ?s3 ?r3
     case s3=>exact Z0a (i:=4) scSetting.nd rfl (Or.inl rfl) (Z14 Z02)
     case r3=>
      refine' Z05 ?s4 ?r4
      case s4=>exact Z0a (i:=5) scSetting.nd rfl (Or.inl rfl) (Z14 Z02)
      case r4=>
       refine' Z05 ?s5 ?r5
       case s5=>exact Z0a (i:=6) scSetting.nd rfl (Or.inl rfl) Z6b
       case r5=>
        refine' Z05 ?s6 ?r6
        case s6=>
         refine' Z43 PassesOwn.never rfl (Z2i (by rfl) T.range (Z0b (Z0q Z16 (Z14 (Z18 Z03 (Z18 Z03 (Z18 Z03 (Z18 Z03 Z02))))) (Z06 GD hr1 (by rfl) G.E.G.U.mD G.E.G.U.D.kp G.E.G.U.bD .nil Z0f (Z0e (pv 0) (Z18 Z03 Z02))) (fun _ _=>rfl)) Z02)) (Z0l (i:=7) scSetting.nd rfl (Or.inl rfl)) ?b
         case b=>
          refine' Z0g ?b1 ?c1
          case b1=>
           refine' Z0a (i:=8) scSetting.nd rfl (Or.inl rfl) (Z06 GA hr2 (by rfl) G.A.m G.A.F.kp G.A.b .nil Z0f (Z0e (pv 0) (Z0b (Z1h (N':=["_law_one"]) (src:=[none]) ?k1 ?k5 ?k6 ?k7) Z02)))
           case k1=>rfl
           case k5=>exact Z0d (Z04 Z3u) rfl ["_law_feed_here","_law_room","_law_names_here","_law_lets","_law_functions","_law_known","_law_works","_law_k","_law_name_here","_law_pool","_law_at","_law_params","_law_world_here","_law_body"] rfl (by decide+kernel)
           case k6=>exact Z19 (pv 4)
           case k7=>exact fun cl C ex s0 H0=>⟨Z0l (i:=0) Zka rfl (Or.inl rfl),Z1q,Z0q (Z1u (K:=K) rfl) (pv 0) Z03 (fun _ _=>rfl)⟩
          case c1=>
           refine' Z0g ?b2 ?c2
           case b2=>exact Z0a (i:=9) scSetting.nd rfl (Or.inl rfl) (Z0m Z2d (pv 2) (Z1d Z2l (pv 3) Z1p (Z1m Z03)))
           case c2=>
            refine' Z0g ?b3 ?c3
            case b3=>
             refine' Z11 (Z41 ?c (Z2v (Z09 Z46 (Z0q Z16 (pv 9) (pv 7) (fun _ _=>rfl)) (Z1h (N':=["_law_one"]) (src:=[none]) ?k1 ?k5 ?k6 ?k7) (by with_unfolding_all rfl)))).pt (Z07 ?e) Z0k
             case c=>exact Z09 Z1f (Z06 GD hr1 (by rfl) G.E.G.U.mD G.E.G.U.D.kp G.E.G.U.bD .nil Z0f (Z0e (pv 0) (Z18 Z03 Z02))) Z03 (Z0i _)
             case k1=>rfl
             case k5=>exact Z0d (Z04 Z3u) rfl ["_law_feed_here","_law_room","_law_names_here","_law_lets","_law_functions","_law_known","_law_works","_law_k","_law_name_here","_law_pool","_law_at","_law_params","_law_world_here","_law_body"] rfl (by decide+kernel)
             case k6=>exact Z19 (pv 4)
             case k7=>exact fun cl C ex s0 H0=>⟨Z0l (i:=0) Zka rfl (Or.inl rfl),Z1q,Z0q (Z1u (K:=K) rfl) (pv 0) Z03 (fun _ _=>rfl)⟩
             case e=>exact Z0a (i:=8) scSetting.nd rfl (Or.inl rfl) (Z0q Z16 (pv 9) (pv 7) (fun _ _=>rfl))
            case c3=>
             refine' Z05 ?b4 ?c4
             case b4=>exact Z0a (i:=10) scSetting.nd rfl (Or.inl rfl) (Z06 GD hr1 (by rfl) G.E.G.U.mD G.E.G.U.D.kp G.E.G.U.bD .nil Z0f (Z0e (pv 0) (Z2h (Z0r Z0u (by rfl) T.len PySem.boot_len (Z0e (pv 9) Z02)) Z02)))
             case c4=>
              refine' Z0g ?b5 ?c5
              case b5=>exact Z0a (i:=11) scSetting.nd rfl (Or.inl rfl) (Z1d Z2l (Z0m Z2d (Z1d Z2l (pv 9) (Z1m (pv 10)) Z1p) (Z1d Z2l (pv 9) Z1p (Z1m (pv 10)))) Z1p (Z1m (Z0q Z16 (Z14 (Z18 Z03 (Z18 Z03 (Z18 Z03 (Z18 Z03 (Z18 Z03 (Z18 Z03 (Z18 Z03 (Z18 Z03 Z02))))))))) (Z06 GD hr1 (by rfl) G.E.G.U.mD G.E.G.U.D.kp G.E.G.U.bD .nil Z0f (Z0e (pv 0) (Z18 Z03 Z02))) (fun _ _=>rfl))))
              case c5=>
               refine' Z05 ?b6 ?c6
               case b6=>exact Z0a (i:=12) scSetting.nd rfl (Or.inl rfl) (Z06 GO hr1 (by rfl) G.O.m G.O.F.kp G.O.b .nil Z0f (Z0e (pv 2) (Z0e (pv 3) (Z0e (pv 5) (Z0e (pv 6) (Z18 Z03 (Z18 Z03 Z02)))))))
               case c6=>
                refine' Z0g ?b7 ?c7
                case b7=>exact Z0a (i:=13) scSetting.nd rfl (Or.inl rfl) (Z06 GE4 hr12 (by rfl) G.E.E.m G.E.E.F.kp G.E.E.b .nil Z0f (Z0e (pv 0) (Z0e (pv 12) (Z0e (pv 11) (Z18 Z03 (Z18 Z03 Z02))))))
                case c7=>
                 refine' Z0g ?b8 ?c8
                 case b8=>exact Z42 (Z8h PySem.F.plainAttrs_list PySem.F.slot_list_append PySem.F.type_list_append Z3g (pv 4) (Z0b (Z0v (Z0e (pv 8) (Z2h (Z15 Z0w (by rfl) XT.tup (by decide+kernel) (Z0e (pv 11) Z02)) (Z0e (pv 13) Z02)))) Z02))
                 case c8=>
                  refine' Z0g ?b9 ?c9
                  case b9=>exact Z0a (i:=5) scSetting.nd rfl (Or.inl rfl) (Z0m Z2d (pv 5) (Z14 (Z0b (Z0v (Z0e (pv 8) (Z2h (Z0r Z0u (by rfl) T.len PySem.boot_len (Z0e (pv 11) Z02)) Z02))) Z02)))
                  case c9=>
                   refine' Z05 ?b10 (Z07 ?b11)
                   case b10=>exact Z0a (i:=6) scSetting.nd rfl (Or.inl rfl) (Z15 Zao (by rfl) G.E.dict (by decide+kernel) (Z0e (pv 6) Z02))
                   case b11=>exact Z2n hu (pv 6) (pv 8) (Z06 GK hr6 (by rfl) G.E.G.Y.m G.E.G.Y.F.kp G.E.G.Y.b .nil Z0f (Z0e (pv 13) (Z0e (pv 6) Z02))) (by rfl)
        case r6=>
         refine' Z07 (Z0h (Z0v (Z2h (Z15 Z0w (by rfl) XT.tup (by decide+kernel) (Z0e (pv 4) Z02)) (Z2h ?s7 Z02))))
         case s7=>exact Z06 GO hr1 (by rfl) G.O.m G.O.F.kp G.O.b .nil Z0f (Z0e (pv 2) (Z0e (pv 3) (Z0e (pv 5) (Z0e (pv 6) (Z0e (pv 1) (Z18 Z03 Z02))))))
  case fin=>
   refine⟨fun σ' H'=>∃(nm:Addr) (T1:List Str) (n':Nat),σ' = [some (.ref d),some (.int r),some (.ref nm),none,none,none,none,none,none,none,none,none,none,none]/\H' nm=some (.lst (T1.map V.str))/\2<=T1.length/\T1.length<=5/\(∀t∈T1,Nm t)/\n'<=n+41/\Feed H' d l ns n'/\But d H H',?_,?_⟩
   ·refine⟨_,rfl,_,rfl,d,l,ns,n,_,rfl,F0,by omega,by decide,by decide,fun q n1 H1 q0 q1 hn1 F1 b1=>?_⟩
    refine⟨_,_,rfl,rfl,d,l,ns,n1,_,rfl,F1,by omega,by omega,by omega,fun nm ts n2 H2 hnm0 hnm hl ha _ hn2 F2 b2=>?_⟩
    exact⟨nm,ts,n2,rfl,hnm,by omega,by omega,ha,by omega,F2,b1.trans b2⟩
   rintro σ1 H1 ⟨nm,T1,n1,rfl,hnm1,hT2,hT5,hTn,hn1,F1,B1⟩
   refine⟨fun σ' H'=>∃(lt:Addr) (T2:List Str) (n':Nat),σ' = [some (.ref d),some (.int r),some (.ref nm),some (.ref lt),none,none,none,none,none,none,none,none,none,none]/\H' lt=some (.lst (T2.map V.str))/\T2.length=2/\(∀t∈T2,Nm t)/\H' nm=some (.lst (T1.map V.str))/\n'<=n+49/\Feed H' d l ns n'/\But d H H',?_,?_⟩
   ·refine⟨_,rfl,_,rfl,d,l,nm,ns,n1,T1,rfl,F1,by omega,hnm1,by omega,hTn,fun y n2 H2 hy _ _ hn2 F2 b2=>?_⟩
    have hnm2:=F1.lst b2 hnm1
    obtain⟨x0,hx0⟩:∃x,T1[0]? = some x:=⟨_,List.getElem?_eq_getElem (by omega)⟩
    refine⟨_,rfl,nm,_,_,.str x0,rfl,rfl,SqL.of hnm2,Z26 (j:=0) (by rw[List.getElem?_map,hx0];rfl),(by show 2<=sizeLine;decide),fun lt hlt=>?_⟩
    have sl:=Z01 (o:=.lst [.str y,.str x0]) hlt
    refine⟨lt,[y,x0],n2,rfl,Z00,rfl,Z3a hy (hTn x0 (mem_of_getElem? hx0)),sl _ _ hnm2,by omega,F2.same sl,(B1.trans b2).trans (But.of sl)⟩
   clear hnm1 F1 B1 hn1
   rintro σ2 H2 ⟨lt,T2,n2,rfl,hlt2,hTl,hT2n,hnm2,hn2,F2,B2⟩
   have hU1:∀t∈T1,Nm t/\t∈T1++T2:=fun t ht=>⟨hTn t ht,mem_append_left _ ht⟩
   have hU2:∀t∈T2,Nm t/\t∈T1++T2:=fun t ht=>⟨hT2n t ht,mem_append_right _ ht⟩
   refine⟨Nat.zero_le _,fun fa hfa=>?_⟩
   have sf:=Z01 (o:=.lst []) hfa
   have nof:∀{b:Addr} {o:HO},H2 b=some o->fa≠b:=fun {b o} e q=>by rw[<- q,hfa] at e;cases e
   have hfn:=nof hnm2
   have hft:=nof hlt2
   have hfL:=nof F2.ls
   have hf0:H fa=none:=by
    cases e:H fa with
    |none=>rfl
    |some o=>
     exfalso
     have hfd:fa≠d:=nof F2.dc.choose_spec
     rw[B2 fa o e hfd] at hfa
     cases hfa
   refine⟨Nat.zero_le _,fun ka hka=>?_⟩
   have sk:=Z01 (o:=.lst []) hka
   have hfk:fa≠ka:=fun q=>by rw[<- q,Z00] at hka;cases hka
   intro wo hwo
   have sw:=Z01 (o:=.dK []) hwo
   have s5:=(sf.trans sk).trans sw
   have hwd:wo≠d:=fun q=>by rw[q,(sf.trans sk) _ _ F2.dc.choose_spec] at hwo;cases hwo
   have C5:Lp H (upd (upd (upd H2 fa (.lst [])) ka (.lst [])) wo (.dK [])) d l nm lt fa ka wo ns n2 T1 T2 [] [] [] [] [] []:=
    ⟨F2.same s5,B2.trans (But.of s5),s5 _ _ hnm2,s5 _ _ hlt2,(sk.trans sw) _ _ Z00,.nil,FOk.nil,sw _ _ Z00,rfl,(fun v hv=>by cases hv),Z00,(fun y hy=>by cases hy),Nat.le_refl _,hwd,hfk⟩
   generalize upd (upd (upd H2 fa (.lst [])) ka (.lst [])) wo (.dK [])=H5 at C5
   refine⟨(by show 4<=sizeLine;decide),fun c hc=>?_⟩
   have sc:=Z01 (o:=.lst [.int 1,.int 2,.int 0,.int 3]) hc
   have C6:=C5.same sc
   refine⟨_,rfl,d,l,ns,n2,_,rfl,C6.F,by omega,by decide,by decide,fun q n7 H7 q0 q1 hn7 F7 b7=>?_⟩
   have C7:=C6.go b7 F7
   obtain⟨v,hv,hat⟩:=Z4n (xs:=[V.int 1,.int 2,.int 0,.int 3]) (i:=q) q0 (Int.lt_of_lt_of_le q1 (by decide))
   obtain⟨mn,rfl,hm0,hm3⟩:∃mn:Int,v = .int mn/\0<=mn/\mn<=3:=by
    simp only [mem_cons,not_mem_nil,or_false] at hv
    rcases hv with rfl|rfl|rfl|rfl <;> exact⟨_,rfl,by decide,by decide⟩
   refine⟨c,_,q,.int mn,rfl,rfl,SqL.of (C6.F.lst b7 Z00),hat,mn,rfl,by omega,by omega,Z3d (n:=mn.toNat) (fun j σ H'=>∃(fs:List Fd) (fv kv:List V) (ka wo:Addr) (kvs:List (Key×V)) (n':Nat) (o7 o8 o9 o10 o11 o12 o13:Option V),σ = [some (.ref d),some (.int r),some (.ref nm),some (.ref lt),some (.ref fa),some (.ref ka),some (.ref wo),o7,o8,o9,o10,o11,o12,o13]/\fs.length=j/\n'<=n+50+10400*j/\Lp H H' d l nm lt fa ka wo ns n' T1 T2 fv kv kvs fs fs fs)
    ⟨[],[],[],ka,wo,[],n7,none,none,none,none,none,none,none,rfl,rfl,by omega,C7⟩ ?_ ?_⟩
   ·rintro j σ H1 hj ⟨fs,fv,kv,ka,wo,kvs,n1,o7,o8,o9,o10,o11,o12,o13,rfl,hfl,hn1,C1⟩
    have hvl:=IsThs.len _ C1.ft
    rw[length_map] at hvl
    have comp0:∀{H':Hp},Lp H H' d l nm lt fa ka wo ns n1 T1 T2 fv kv kvs fs fs fs->True:=fun _=>trivial
    refine⟨fun σ' H'=>∃(x:Str) (n':Nat),σ' = [some (.ref d),some (.int r),some (.ref nm),some (.ref lt),some (.ref fa),some (.ref ka),some (.ref wo),some (.int (0+(j:Int))),some (.str x),o9,o10,o11,o12,o13]/\Nm x/\x∉nmL fs/\n'<=n1+8/\Lp H H' d l nm lt fa ka wo ns n' T1 T2 fv kv kvs fs fs fs,?_,?_⟩
    ·refine⟨_,rfl,_,rfl,fa,rfl,⟨_,SqL.of C1.pFa⟩,Z0y (K:=K) (a:=fa) (xs:=fv) (fun i ys σc H'=>∃(o:Option V),σc = [o]/\H'=H1/\ys=(nmL (fs.take i)).map V.str)
      ⟨none,rfl,rfl,rfl⟩ (fun i ys σc H' ⟨_,_,e,_⟩=>by rw[e];exact SqL.of C1.pFa) ?_ ?_⟩
     ·rintro i y ys σc H' hy hi ⟨o,rfl,rfl,rfl⟩
      obtain⟨t,ht,hyt⟩:=Z1c _ C1.ft hy
      rw[List.getElem?_map] at ht
      obtain⟨f,hf,rfl⟩:=Option.map_eq_some_iff.mp ht
      obtain⟨cf,vs,rfl,hcf⟩:=Zh7 hyt
      refine⟨by rw[length_map];unfold nmL;rw[length_map,length_take];omega,?_⟩
      exact⟨_,rfl,cf,_,_,_,rfl,rfl,SqT.of hcf,Z1b _ _,nx hi ⟨_,rfl,rfl,Zcz hf⟩⟩
     ·rintro ys σc H' ⟨o,rfl,rfl,rfl⟩ q hq
      rw[take_of_length_le (Nat.le_of_eq hvl.symm)]
      have sq:=Z01 (o:=.lst ((nmL fs).map V.str)) hq
      have C2:=C1.same sq
      refine⟨d,l,q,ns,n1,nmL fs,rfl,C2.F,by omega,Z00,by unfold nmL;rw[length_map];omega,C1.fo.nm,fun x n2 H2 hx hnx _ hn2 F2 b2=>?_⟩
      exact⟨x,n2,rfl,hx,hnx,hn2,C2.go b2 F2⟩
    clear C1
    rintro σ2 H2 ⟨x,n2,rfl,hx,hxn,hn2,C2⟩
    refine⟨fun σ' H'=>∃(pl:Addr) (Tp:List Str),σ' = [some (.ref d),some (.int r),some (.ref nm),some (.ref lt),some (.ref fa),some (.ref ka),some (.ref wo),some (.int (0+(j:Int))),some (.str x),some (.ref pl),o10,o11,o12,o13]/\H' pl=some (.lst (Tp.map V.str))/\3<=Tp.length/\Tp.length<=6/\(∀t∈Tp,Nm t/\t∈T1++T2)/\Lp H H' d l nm lt fa ka wo ns n2 T1 T2 fv kv kvs fs fs fs,?_,?_⟩
    ·refine⟨_,rfl,_,rfl,1,rfl,lt,_,rfl,SqL.of C2.pLt,fun p1 hp1=>?_⟩
     rw[Z7b (by decide)]
     have s1:=Z01 (o:=.lst ((T2.map V.str).take (Int.toNat 1))) hp1
     have C3:=C2.same s1
     refine⟨nm,p1,_,_,rfl,rfl,C3.pNm,Z00,by rw[length_take,length_map,length_map];omega,fun p2 hp2=>?_⟩
     have s2:=Z01 (o:=.lst (T1.map V.str++(T2.map V.str).take (Int.toNat 1))) hp2
     refine⟨p2,T1++T2.take 1,rfl,?_,?_,?_,?_,C3.same s2⟩
     ·rw[Z00,map_append,map_take];rfl
     ·rw[length_append,length_take];omega
     ·rw[length_append,length_take];omega
     ·intro t ht
      rcases mem_append.mp ht with y|y
      ·exact hU1 t y
      ·exact hU2 t (mem_of_mem_take y)
    clear C2
    rintro σ3 H3 ⟨pl,Tp,rfl,hpl,hp3,hp6,hpn,C3⟩
    refine⟨fun σ' H'=>∃(x:Str) (n':Nat),σ' = [some (.ref d),some (.int r),some (.ref nm),some (.ref lt),some (.ref fa),some (.ref ka),some (.ref wo),some (.int (0+(j:Int))),some (.str x),some (.ref pl),o10,o11,o12,o13]/\Nm x/\x∉nmL fs/\n'<=n1+9/\H' pl=some (.lst (Tp.map V.str))/\Lp H H' d l nm lt fa ka wo ns n' T1 T2 fv kv kvs fs fs fs,?_,?_⟩
    ·refine⟨_,rfl,d,l,ns,n2,_,rfl,C3.F,by omega,by decide,by decide,fun q n4 H4 q0 q1 hn4 F4 b4=>?_⟩
     have C4:=C3.go b4 F4
     have hpl4:=C3.F.lst b4 hpl
     obtain⟨y,hy⟩:∃y,Tp[j]? = some y:=⟨_,List.getElem?_eq_getElem (by omega)⟩
     refine⟨rfl,_,rfl,Z1e (fun g=>?_) (fun g=>Za2 ⟨x,n4,rfl,hx,hxn,by omega,hpl4,C4⟩)⟩
     refine⟨_,rfl,_,rfl,pl,_,_,.str y,rfl,rfl,SqL.of hpl4,Z5d (by rw[List.getElem?_map,hy];rfl),?_⟩
     refine⟨_,rfl,fa,rfl,⟨_,SqL.of C4.pFa⟩,Z0y (K:=K) (a:=fa) (xs:=fv) (fun i ys σc H'=>∃(o:Option V),σc = [o]/\H'=H4/\ys=(nmL (fs.take i)).map V.str)
      ⟨none,rfl,rfl,rfl⟩ (fun i ys σc H' ⟨_,_,e,_⟩=>by rw[e];exact SqL.of C4.pFa) ?_ ?_⟩
     ·rintro i y ys σc H' hy hi ⟨o,rfl,rfl,rfl⟩
      obtain⟨t,ht,hyt⟩:=Z1c _ C4.ft hy
      rw[List.getElem?_map] at ht
      obtain⟨f,hf,rfl⟩:=Option.map_eq_some_iff.mp ht
      obtain⟨cf,vs,rfl,hcf⟩:=Zh7 hyt
      refine⟨by rw[length_map];unfold nmL;rw[length_map,length_take];omega,?_⟩
      exact⟨_,rfl,cf,_,_,_,rfl,rfl,SqT.of hcf,Z1b _ _,nx hi ⟨_,rfl,rfl,Zcz hf⟩⟩
     ·rintro ys σc H' ⟨o,rfl,rfl,rfl⟩ q hq
      rw[take_of_length_le (Nat.le_of_eq hvl.symm)]
      have sq:=Z01 (o:=.lst ((nmL fs).map V.str)) hq
      have C5:=C4.same sq
      have hpl5:=sq _ _ hpl4
      refine⟨q,_,rfl,.inl (SqL.of Z00),rfl,Z2b _,_,rfl,Z1e (fun g2=>?_) (fun g2=>⟨x,n4,rfl,hx,hxn,by omega,hpl5,C5⟩)⟩
      refine⟨_,rfl,_,rfl,pl,_,_,.str y,rfl,rfl,SqL.of hpl5,Z5d (by rw[List.getElem?_map,hy];rfl),y,n4,rfl,(hpn y (mem_of_getElem? hy)).1,fun hm=>?_,by omega,hpl5,C5⟩
      rw[(Z1n y (nmL fs)).mpr hm] at g2
      exact absurd g2 (by decide)
    clear C3 hpl hx hxn
    rintro σ4 H4 ⟨x,n4,rfl,hx,hxn,hn4,hpl4,C4⟩
    have hl1:((Tp.map V.str).length:Int)=(Tp.length:Int):=by rw[length_map]
    refine⟨_,rfl,_,rfl,pl,_,rfl,.inl (SqL.of hpl4),d,l,ns,n4,_,rfl,C4.F,by omega,by omega,by omega,fun at5 n5 H5 a0 a1 hn5 F5 b5=>?_⟩
    have C5:=C4.go b5 F5
    have hpl5:=C4.F.lst b5 hpl4
    refine⟨fun σ' H'=>∃(pa:Addr) (ps:List Str) (n':Nat),σ' = [some (.ref d),some (.int r),some (.ref nm),some (.ref lt),some (.ref fa),some (.ref ka),some (.ref wo),some (.int (0+(j:Int))),some (.str x),some (.ref pl),some (.int at5),some (.ref pa),o12,o13]/\H' pa=some (.lst (ps.map V.str))/\ps.length<=6/\(∀t∈ps,Nm t/\t∈T1++T2)/\pa≠fa/\n'<=n1+11/\Lp H H' d l nm lt fa ka wo ns n' T1 T2 fv kv kvs fs fs fs,?_,?_⟩
    ·refine⟨_,rfl,_,rfl,at5,rfl,pl,_,rfl,SqL.of hpl5,fun p1 hp1=>?_⟩
     rw[Z3k a0 (by omega)]
     have s1:=Z01 (o:=.lst ((Tp.map V.str).drop at5.toNat)) hp1
     refine⟨_,rfl,_,rfl,at5,rfl,pl,_,rfl,SqL.of (s1 _ _ hpl5),fun p2 hp2=>?_⟩
     rw[Zcg a0 (by omega)]
     have s2:=Z01 (o:=.lst ((Tp.map V.str).take at5.toNat)) hp2
     refine⟨p1,p2,_,_,rfl,rfl,s2 _ _ Z00,Z00,by rw[length_drop,length_take,length_map];omega,fun p3 hp3=>?_⟩
     have s3:=Z01 (o:=.lst ((Tp.map V.str).drop at5.toNat++(Tp.map V.str).take at5.toNat)) hp3
     have s13:=(s1.trans s2).trans s3
     refine⟨(by show 8<=sizeLine;decide),fun c8 hc8=>?_⟩
     have s4:=Z01 (o:=.lst [.int 1,.int 2,.int 0,.int 3,.int 1,.int 2,.int 2,.int 6]) hc8
     have C6:=(C5.same s13).same s4
     refine⟨_,rfl,d,l,ns,n5,_,rfl,C6.F,by omega,by decide,by decide,fun q n7 H7 q0 q1 hn7 F7 b7=>?_⟩
     have C7:=C6.go b7 F7
     obtain⟨v,hv,hat⟩:=Z4n (xs:=[V.int 1,.int 2,.int 0,.int 3,.int 1,.int 2,.int 2,.int 6]) (i:=q) q0 (Int.lt_of_lt_of_le q1 (by decide))
     obtain⟨mm,rfl,hm0,hm6⟩:∃mm:Int,v = .int mm/\0<=mm/\mm<=6:=by
      simp only [mem_cons,not_mem_nil,or_false] at hv
      rcases hv with rfl|rfl|rfl|rfl|rfl|rfl|rfl|rfl <;> exact⟨_,rfl,by decide,by decide⟩
     refine⟨c8,_,q,.int mm,rfl,rfl,SqL.of (C6.F.lst b7 Z00),hat,mm,rfl,p3,_,rfl,SqL.of (C6.F.lst b7 (s4 _ _ Z00)),fun pa hpa=>?_⟩
     rw[Z7b hm0]
     have s8:=Z01 (o:=.lst (((Tp.map V.str).drop at5.toNat++(Tp.map V.str).take at5.toNat).take mm.toNat)) hpa
     refine⟨pa,(Tp.drop at5.toNat++Tp.take at5.toNat).take mm.toNat,n7,rfl,?_,?_,?_,?_,by omega,C7.same s8⟩
     ·rw[Z00,map_take,map_append,map_drop,map_take]
     ·rw[length_take];omega
     ·intro t ht
      rcases mem_append.mp (mem_of_mem_take ht) with y|y
      ·exact hpn t (mem_of_mem_drop y)
      ·exact hpn t (mem_of_mem_take y)
     ·intro e
      rw[e,C7.pFa] at hpa
      cases hpa
    clear C4 C5 hpl4 hpl5 F5 b5
    rintro σ5 H5 ⟨pa,ps,n5',rfl,hpa,hpl6,hpsn,hpf,hn5',C5⟩
    refine⟨_,rfl,_,rfl,_,rfl,_,rfl,nm,lt,ka,wo,9,120,rfl,fun wd sd H6 s6 hwd hsd W6 Q6=>?_⟩
    have C6:=C5.same s6
    have now:∀{b:Addr} {o:HO},H5 b=some o->b≠wd:=fun {b o} e q=>by rw[q,hwd] at e;cases e
    refine⟨fun σ' H'=>∃(v:V) (t:Th) (n':Nat),σ' = [some (.ref d),some (.int r),some (.ref nm),some (.ref lt),some (.ref fa),some (.ref ka),some (.ref wo),some (.int (0+(j:Int))),some (.str x),some (.ref pl),some (.int at5),some (.ref pa),some (.ref wd),some v]/\H' pa=some (.lst (ps.map V.str))/\IsTh H' v t/\PfT (nmS (T1++T2) fs) 4 t/\cnt t<=29/\n'<=n1+10371/\Lp H H' d l nm lt fa ka wo ns n' T1 T2 fv kv kvs fs fs fs,?_,?_⟩
    ·have N6:Wf (nmS (T1++T2) fs) 0 H6 d wd ⟨nm,lt,ka,wo,sd⟩ ⟨T1,T2,kv,[],[],Z9i fs,kvs⟩:=⟨C6.pNm,C6.pLt,C6.pKa,C6.ke,C6.pWo,C6.wk,C6.o1,now C5.pWo,Q6,.nil,(fun t ht=>by cases ht),by show 1<=T1.length;omega,by show T1.length<=10;omega,by show T2.length<=10;omega,by show kv.length<=10;rw[C6.kl];omega,Nat.zero_le _,hU1,hU2⟩
     have X6:Ctx (nmS (T1++T2) fs) 0 H6 H6 d l wd ⟨nm,lt,ka,wo,sd⟩ ⟨T1,T2,kv,[],[],Z9i fs,kvs⟩ pa ps ns n5' 9 120:=⟨C6.F,W6,N6,s6 _ _ hpa,by omega,hpsn,But2.refl _ _ _⟩
     have e4:=cD4
     refine⟨_,rfl,_,rfl,_,rfl,nmS (T1++T2) fs,d,l,wd,_,_,pa,ps,ns,n5',9,120,4,1,rfl,by decide,by decide,by decide,by decide,by decide,?_,by omega,by omega,X6,fun v t n7 r7 z7 H7 h7 p7 c7 y1 y2 hn7 C7=>?_⟩
     ·have:=Z94 (N:=4) (by decide)
      have:=Zcn (4+1)
      omega
     have b57:But d H5 H7:=fun b o e hb=>C7.b2 b o (s6 _ _ e) hb (now e)
     exact⟨v,t,n7,rfl,b57 _ _ hpa (Z3c hpa C5.F.dc.choose_spec (by intro z;cases z)),h7,p7,by omega,by omega,C5.go b57 C7.F⟩
    clear C5 C6 s6 W6 Q6 hpa
    rintro σ7 H7 ⟨v,t,n7,rfl,hpa,hv,pf,hcnt,hn7,C7⟩
    have g:FdOk (nmS (T1++T2) fs) ⟨x,ps,t⟩:=⟨pf,hx,hxn,hpl6,hpsn,hcnt⟩
    refine⟨fun σ' H'=>∃(cv:V),σ' = [some (.ref d),some (.int r),some (.ref nm),some (.ref lt),some (.ref fa),some (.ref ka),some (.ref wo),some (.int (0+(j:Int))),some (.str x),some (.ref pl),some (.int at5),some (.ref pa),some (.ref wd),some v]/\H' pa=some (.lst (ps.map V.str))/\IsTh H' v t/\Lp H H' d l nm lt fa ka wo ns n7 T1 T2 (fv ++ [cv]) kv kvs (fs ++ [⟨x,ps,t⟩]) fs fs,?_,?_⟩
    ·refine⟨_,rfl,.inl ⟨rfl,_,SqL.of C7.pFa⟩,_,rfl,_,rfl,pa,_,rfl,.inl ⟨SqL.of hpa,fun tp htp=>?_⟩⟩
     have s1:=Z01 (o:=.tup (ps.map V.str)) htp
     refine⟨_,rfl,(by show 3<=sizeLine;decide),fun c hc=>?_⟩
     have s2:=Z01 (o:=.tup [.str x,.ref tp,v]) hc
     have s12:=s1.trans s2
     have C8:=C7.same s12
     have hth:IsTh (upd (upd H7 tp (.tup (ps.map V.str))) c (.tup [.str x,.ref tp,v])) (.ref c) (Fd.th ⟨x,ps,t⟩):=
      .tup Z00 (.cons (.at (smN hx)) (.cons (.tup (s2 _ _ Z00) (Zd0 fun p hp=>(hpsn p hp).1)) (.cons (IsTh.kp (Kp.of s12) hv) .nil)))
     refine⟨fa,fv,.ref c,rfl,rfl,C8.pFa,by omega,.ref c,rfl,?_,?_,C8.app hth g hf0 hfL hfn hft⟩
     ·rw[Z0c hpf]
      exact s12 _ _ hpa
     ·exact Z80 C8.pFa But.upd (IsTh.kp (Kp.of s12) hv) pf.pl
    clear C7 hpa hv
    rintro σ8 H8 ⟨cv,rfl,hpa,hv,C8⟩
    refine⟨fun σ' H'=>∃(ka:Addr) (kv:List V),σ' = [some (.ref d),some (.int r),some (.ref nm),some (.ref lt),some (.ref fa),some (.ref ka),some (.ref wo),some (.int (0+(j:Int))),some (.str x),some (.ref pl),some (.int at5),some (.ref pa),some (.ref wd),some v]/\IsTh H' v t/\Lp H H' d l nm lt fa ka wo ns n7 T1 T2 (fv ++ [cv]) kv kvs (fs ++ [⟨x,ps,t⟩]) (fs ++ [⟨x,ps,t⟩]) fs,?_,?_⟩
    ·refine⟨_,rfl,_,rfl,_,rfl,pa,_,rfl,.inl (SqL.of hpa),(by show 2<=sizeLine;decide),fun c1 hc1=>?_⟩
     have hpl:((ps.map V.str).length:Int)=(ps.length:Int):=by rw[length_map]
     have s1:=Z01 (o:=.tup [.str x,.int ((ps.map V.str).length:Nat)]) hc1
     refine⟨(by show 1<=sizeLine;decide),fun c2 hc2=>?_⟩
     have s2:=Z01 (o:=.lst [.ref c1]) hc2
     have C9:=(C8.same s1).same s2
     have hkl:=C8.kl
     refine⟨ka,c2,kv,[.ref c1],rfl,rfl,C9.pKa,Z00,by rw[length_singleton];omega,fun c3 hc3=>?_⟩
     have s3:=Z01 (o:=.lst (kv ++ [.ref c1])) hc3
     have C10:=C9.same s3
     refine⟨c3,kv ++ [.ref c1],rfl,IsTh.kp (Kp.of ((s1.trans s2).trans s3)) hv,C10.F,C10.pB,C10.pNm,C10.pLt,C10.pFa,C10.ft,C10.fo,Z00,by rw[length_append,length_append,hkl];rfl,fun u hu=>?_,C10.pWo,C10.wk,C10.wl,C10.o1,fun e=>by rw[<- e,C9.pFa] at hc3;cases hc3⟩
     rcases mem_append.mp hu with y|y
     ·obtain⟨c,x',m,h1,h2,h3,h4⟩:=C10.ke u y
      exact⟨c,x',m,h1,h2,by rw[Z6f];exact mem_append_left _ h3,h4⟩
     ·rw[mem_singleton] at y
      exact⟨c1,x,_,y,s3 _ _ (s2 _ _ Z00),by rw[Z6f];exact mem_append_right _ (mem_singleton.mpr rfl),hx,by omega,by omega⟩
    clear C8 hpa hv
    rintro σ9 H9 ⟨ka9,kv9,rfl,hv,C9⟩
    have hwl:=C9.wl
    refine⟨_,rfl,wo,kvs,rfl,C9.pWo,fun w2 hw2=>?_⟩
    have s1:=Z01 (o:=.dK kvs) hw2
    have C10:=C9.same s1
    have hW10:upd H9 w2 (.dK kvs) w2=some (.dK kvs):=Z00
    have hv10:=IsTh.kp (Kp.of s1) hv
    refine⟨_,rfl,_,rfl,nmS (T1++T2) fs,v,w2,t,Z9i fs,kvs,rfl,hv10,pf,hW10,C10.wk,fun H11 s11=>?_⟩
    have C11:=C10.same s11
    have hW11:=s11 _ _ hW10
    refine⟨_,rfl,_,rfl,w2,_,rfl,DPut.k (k:=Sum.inr x) hW11 (by omega),?_⟩
    have hw2d:w2≠d:=fun e=>by rw[e,C9.F.dc.choose_spec] at hw2;cases hw2
    have hw2H:H w2=none:=by
     cases e:H w2 with
     |none=>rfl
     |some o=>rw[C9.pB w2 o e hw2d] at hw2;cases hw2
    have kp:Kp H11 (upd H11 w2 (.dK (Z3z kvs (Sum.inr x) (.int (K36.wk (Z9i fs) t))))):=fun b o e hk=>by
     rw[Z0c (fun q=>by rw[q,hW11] at e;cases e;exact hk _ rfl)]
     exact e
    refine⟨fs ++ [⟨x,ps,t⟩],fv ++ [cv],kv9,ka9,w2,Z3z kvs (Sum.inr x) (.int (K36.wk (Z9i fs) t)),n7,_,_,_,_,_,_,_,rfl,by rw[length_append,hfl];rfl,by omega,?_,?_,kp _ _ C11.pNm (fun _ z=>by cases z),kp _ _ C11.pLt (fun _ z=>by cases z),kp _ _ C11.pFa (fun _ z=>by cases z),IsThs.kp kp C11.ft,C11.fo,kp _ _ C11.pKa (fun _ z=>by cases z),C11.kl,fun u hu=>?_,Z00,?_,?_,hw2d,C11.fk⟩
    ·obtain⟨⟨y,hd⟩,hls,hs⟩:=C11.F
     exact⟨⟨y,by rw[Z0c hw2d.symm];exact hd⟩,kp _ _ hls (fun _ z=>by cases z),hs⟩
    ·intro b o e hb
     rw[Z0c (Z0j e hw2H)]
     exact C11.pB b o e hb
    ·obtain⟨c,x',m,h1,h2,h3⟩:=C11.ke u hu
     exact⟨c,x',m,h1,kp _ _ h2 (fun _ z=>by cases z),h3⟩
    ·exact Works.snoc (f:=⟨x,ps,t⟩) C11.wk
    ·have:=Z9c kvs (Sum.inr x) (.int (K36.wk (Z9i fs) t))
     rw[length_append,length_singleton]
     omega
   ·rintro σ1 H1 ⟨fs,fv,kv,ka,wo,kvs,n1,o7,o8,o9,o10,o11,o12,o13,rfl,hfl,hn1,C1⟩
    refine⟨_,rfl,fa,fv,rfl,.inl ⟨SqL.of C1.pFa,fun tp htp=>?_⟩⟩
    have s6:=Z01 (o:=.tup fv) htp
    have C6:=C1.same s6
    have htp6:upd H1 tp (.tup fv) tp=some (.tup fv):=Z00
    generalize upd H1 tp (.tup fv)=H6 at s6 C6 htp6
    refine⟨_,rfl,_,rfl,_,rfl,_,rfl,_,rfl,nm,lt,ka,wo,r,500,rfl,fun wd sd H2 s2 hwd hsd W2 Q2=>⟨(by show 2<=sizeLine;decide),fun q hq=>?_⟩⟩
    have C2:=C6.same s2
    have now:∀{b:Addr} {o:HO},H6 b=some o->b≠wd:=fun {b o} e q=>by rw[q,hwd] at e;cases e
    have N2:Wf (nmS (T1++T2) fs) 0 H2 d wd ⟨nm,lt,ka,wo,sd⟩ ⟨T1,T2,kv,[],[],Z9i fs,kvs⟩:=⟨C2.pNm,C2.pLt,C2.pKa,C2.ke,C2.pWo,C2.wk,C2.o1,now C6.pWo,Q2,.nil,(fun t ht=>by cases ht),by show 1<=T1.length;omega,by show T1.length<=10;omega,by show T2.length<=10;omega,by show kv.length<=10;rw[C2.kl];omega,Nat.zero_le _,hU1,hU2⟩
    have s9:=Z01 (o:=.tup [.ref tp,.ref wd]) hq
    have C9:=C2.same s9
    exact k q tp wd _ T1 T2 kv kvs fs n1 _ ⟨C9.F,Z00,.tup (s9 _ _ (s2 _ _ htp6)) C9.ft,C9.fo,by omega,s9 _ _ W2,N2.go (Kp.of s9) (But2.same s9),hT2,hT5,hTl⟩ (by omega) C9.pB
end
abbrev Sn:=List (Th×List Str)
mutual
def ndsT:Th->List Th
 | .tup xs=>.tup xs::Z3b xs
 | .at _=>[]
 | .lst _=>[]
def Z3b:List Th->List Th
 |[]=>[]
 |x::xs=>ndsT x++Z3b xs
end
def Z5h (p:Str×Th):Bool:=decide (p.1="node")
theorem Zpv:decide (("opened":Str)="node")=false:=by decide+kernel
theorem Zpw:decide (("closed":Str)="node")=false:=by decide+kernel
theorem Zm0 (l:Bool)(me:Th):∀i,(Z38 l me i).filter Z5h = []
 | 0=>by
  cases l
  ·rfl
  ·show List.filter Z5h [("opened",me)] = []
   rw[filter_cons,if_neg (by show ¬decide _=true;rw[Zpv];decide)]
   rfl
 | 1=>by
  cases l
  ·rfl
  ·show List.filter Z5h [("closed",me)] = []
   rw[filter_cons,if_neg (by show ¬decide _=true;rw[Zpw];decide)]
   rfl
 |_+2=>rfl
theorem Zo9 {x:Th}(h:¬isTup x=true):ndsT x = []:=by
 cases x with
 |tup xs=>exact absurd rfl h
 | «at» v => rw [ndsT]
 |lst xs=>rw[ndsT]
mutual
theorem Z7c:∀t:Th,((Z0s t).filter Z5h).map (·.2)=ndsT t
 | .tup xs=>by
  rw[Z0s,ndsT,filter_cons,if_pos (by show decide _=true;exact decide_eq_true rfl),map_cons,Z7d]
 | .at _=>by simp [Z0s,ndsT]
 | .lst _=>by simp [Z0s,ndsT]
theorem Z7d (l:Bool)(me:Th):∀(xs:List Th) (i:Nat),((Z2y l me i xs).filter Z5h).map (·.2)=Z3b xs
 |[],i=>by simp [Z2y,Z3b]
 |x::xs,i=>by
  rw[Z2y,Z3b]
  split
  ·rw[filter_append,filter_append,Zm0,nil_append,map_append,Z7c x,Z7d l me xs]
  ·next h=>rw[Z7d l me xs,Zo9 h,nil_append]
end
theorem Zm1:∀hd:List V,Z3b (hd.map Th.at) = []:=by
 intro hd
 induction hd with
 |nil=>rw[map_nil,Z3b]
 |cons v hd ih=>rw[map_cons,Z3b,ndsT,ih];rfl
theorem Zm2:∀a b:List Th,Z3b (a++b)=Z3b a++Z3b b:=by
 intro a b
 induction a with
 |nil=>rw[Z3b];rfl
 |cons x a ih=>rw[cons_append,Z3b,Z3b,ih,append_assoc]
theorem Zjg:∀ks:List Th,Z3b ks=ks.flatMap ndsT:=by
 intro ks
 induction ks with
 |nil=>rw[Z3b];rfl
 |cons k ks ih=>rw[Z3b,ih,flatMap_cons]
theorem Zkb (w:Str)(hd:List V)(ks:List Th):ndsT (nd w hd ks)=nd w hd ks::ks.flatMap ndsT:=by
 unfold nd
 rw[ndsT,Z3b,ndsT,Zm2,Zm1,Zjg]
 rfl
mutual
theorem Zh9:∀t:Th,(ndsT t).length=cnt t
 | .tup xs=>by rw[ndsT,cnt,length_cons,Zd1 xs];omega
 | .at _=>by simp [ndsT,cnt]
 | .lst _=>by simp [ndsT,cnt]
theorem Zd1:∀ts:List Th,(Z3b ts).length=Z3j ts
 |[]=>by simp [Z3b,Z3j]
 |t::ts=>by rw[Z3b,Z3j,length_append,Zh9 t,Zd1 ts]
end
def Z32 (ρ : Str->Sn)(h:List Str)(n:Th):Sn:=(n,h)::if wd n="call" then ρ (nm n) else []
def Z33 (ρ : Str->Sn)(h:List Str)(t:Th):Sn:=(ndsT t).flatMap (Z32 ρ h)
theorem Zm3 (ρ : Str->Sn)(h:List Str)(w:Str)(hd:List V)(ks:List Th):Z33 ρ h (nd w hd ks)=Z32 ρ h (nd w hd ks)++ks.flatMap (Z33 ρ h):=by
 unfold Z33
 rw[Zkb,flatMap_cons,List.flatMap_assoc]
theorem Z8a {α β : Type}{f : α -> List β}{m:Nat}:∀{l:List α},(∀x∈l,(f x).length<=m)->(l.flatMap f).length<=l.length*m:=by
 intro l
 induction l with
 |nil=>intro _;exact Nat.zero_le _
 |cons x l ih=>
  intro h
  rw[flatMap_cons,length_append,length_cons,Nat.succ_mul]
  have h1:=h x (mem_cons_self ..)
  have h2:=ih fun y hy=>h y (mem_cons_of_mem _ hy)
  omega
inductive Bh (S:SS):Str->List V->Nat->Prop where
 |num {i:Int}:Bh S "num" [.int i] 0
 |name {x:Str}:NmU S x->Bh S "name" [.str x] 0
 |take:Bh S "take" [] 0
 |op {x:Str}:x.length<=1->Bh S "op" [.str x] 2
 |pick:Bh S "pick" [] 3
 |lt:Bh S "let" [] 2
 |set {x:Str}:NmU S x->Bh S "set" [.str x] 1
 |say:Bh S "say" [] 1
 |seq {n:Nat}:n<=6->Bh S "do" [] n
 |again {i:Int}:Bh S "again" [.int i] 1
 |call {x:Str} {n:Nat}:x∈S.c->Nm x->n<=6->Bh S "call" [.str x] n
 |own {i:Int}:Bh S "own" [.int i] 0
 |hole {i:Int}:Bh S "hole" [.int i] 0
def BfT (S:SS):Nat->Th->Prop
 | 0,_=>False
 |n+1,t=>∃(w:Str) (hd:List V) (ks:List Th),t=nd w hd ks/\hd.length<=1/\(∀v∈hd,plT (.at v)=true)/\(w="let"->True/\ks.length=2)/\Bh S w hd ks.length/\ks.length<=6/\∀k∈ks,BfT S n k
section
variable {S:SS}
theorem BfT.up:∀(n:Nat) {t:Th},(BfT S) n t->(BfT S) (n+1) t:=by
 intro n
 induction n with
 |zero=>intro t h;exact h.elim
 |succ n ih=>
  intro t h
  obtain⟨w,hd,ks,e,h1,h2,h3,h4,h5,h6⟩:=h
  exact⟨w,hd,ks,e,h1,h2,h3,h4,h5,fun k hk=>ih (h6 k hk)⟩
theorem BfT.le {n m:Nat}{t:Th}(h:(BfT S) n t)(hm:n<=m):(BfT S) m t:=by
 induction hm with
 |refl=>exact h
 |step _ ih=>exact BfT.up _ ih
theorem BfT.isTup {n:Nat}{t:Th}(h:(BfT S) n t):isTup t=true:=by
 cases n with
 |zero=>exact h.elim
 |succ n=>obtain⟨w,hd,ks,rfl,_⟩:=h;rfl
theorem BfT.ok:∀(n:Nat) {t:Th},(BfT S) n t->OkT n t:=by
 intro n
 induction n with
 |zero=>intro t h;exact h.elim
 |succ n ih=>
  intro t h
  obtain⟨w,hd,ks,rfl,h1,h2,h3,h4,h5,h6⟩:=h
  refine⟨w,hd.map Th.at++ks,rfl,fun e=>?_,fun x hx ht=>?_⟩
  ·obtain⟨_,h⟩:=h3 e
   show((hd.map Th.at++ks).filter L2.isTup).length=2
   rw[filter_append,Z8w,nil_append,Z8x fun k hk=>(h6 k hk).isTup]
   exact h
  ·rcases mem_append.mp hx with z|z
   ·obtain⟨v,_,rfl⟩:=mem_map.mp z
    cases ht
   ·exact ih (h6 x z)
theorem BfT.pl:∀(n:Nat) {t:Th},(BfT S) n t->plT t=true:=by
 intro n
 induction n with
 |zero=>intro t h;exact h.elim
 |succ n ih=>
  intro t h
  obtain⟨w,hd,ks,rfl,h1,h2,h3,h4,h5,h6⟩:=h
  unfold nd
  rw[plT,Z4q,Zck,Z21 (a:=hd.map Th.at) fun x hx=>?_,Z21 (a:=ks) fun x hx=>ih (h6 x hx),plT]
  ·rfl
  ·obtain⟨v,hv,rfl⟩:=mem_map.mp hx
   exact h2 v hv
theorem Zoa {n:Nat}{t:Th}(h:(BfT S) n t):1<=cnt t:=by
 cases n with
 |zero=>exact h.elim
 |succ n=>
  obtain⟨w,hd,ks,rfl,_⟩:=h
  unfold nd
  rw[cnt]
  omega
theorem Zd2:∀(n:Nat) {t:Th},BfT S n t->∀x∈ndsT t,BfT S n x:=by
 intro n
 induction n with
 |zero=>intro t h;exact h.elim
 |succ n ih=>
  intro t h x hx
  have me:=h
  obtain⟨w,hd,ks,rfl,h1,h2,h3,h4,h5,h6⟩:=h
  rw[Zkb] at hx
  rcases mem_cons.mp hx with z|z
  ·rw[z];exact me
  ·obtain⟨k,hk,hz⟩:=mem_flatMap.mp z
   exact(ih (h6 k hk) x hz).up
theorem Zob {l:List V}(h:l.length<=1):szs (l.map Th.at)<=1/\dps (l.map Th.at)=0:=by
 cases l with
 |nil=>exact⟨by simp [szs],by simp [dps]⟩
 |cons v l=>
  cases l with
  |nil=>exact⟨by simp [szs,Th.sz],by simp [dps,L2.dp]⟩
  |cons u l=>exact absurd (Nat.le_of_succ_le_succ h) (Nat.not_succ_le_zero _)
theorem Zbr:Nds (BfT S):=
 ⟨fun _ h=>h,fun n t ⟨w,hd,ks,e,h1,h2,h3,h4,h5,h6⟩=>⟨w,hd,ks,e,h1,h5,h6,fun m us hl hu=>⟨w,hd,us,rfl,h1,h2,fun z=>⟨trivial,by rw[hl];exact(h3 z).2⟩,by rw[hl];exact h4,by omega,hu⟩⟩,fun _ _ h=>h.isTup,fun _ _ h=>h.pl,fun _ _ _ h hm=>h.le hm⟩
theorem Zqg {Qf:Nat->Th->Prop}(D:Nds Qf):∀(n:Nat) {t:Th},Qf n t->Th.sz t<=3*cnt t:=by
 intro n
 induction n with
 |zero=>intro t h;exact absurd h (D.z _)
 |succ n ih=>
  intro t h
  obtain⟨w,hd,ks,rfl,h1,h5,h6,_⟩:=D.s _ _ h
  have h7:∀ks:List Th,(∀k∈ks,Qf n k)->szs ks<=3*Z3j ks:=by
   intro ks
   induction ks with
   |nil=>intro _;rw[szs,Z3j];exact Nat.le_refl _
   |cons k ks ih2=>
    intro hk
    have e1:=ih (hk k (mem_cons_self ..))
    have e2:=ih2 fun u hu=>hk u (mem_cons_of_mem _ hu)
    rw[szs,Z3j]
    omega
  have h8:=(Zob h1).1
  have h9:=h7 ks h6
  rw[Zio,Z2c fun k hk=>D.tu _ _ (h6 k hk)]
  omega
theorem Zoc (n:Nat){t:Th}(h:BfT S n t):Th.sz t<=3*cnt t:=Zqg Zbr n h
theorem Zpx (n:Nat){t:Th}(h:PfT S n t):Th.sz t<=3*cnt t:=Zqg Zg7 n h
end
mutual
theorem Zkc:∀t:Th,cnt t<=Th.sz t
 | .at _=>by simp [cnt]
 | .lst _=>by simp [cnt]
 | .tup xs=>by
  have:=Zha xs
  simp only [cnt,Th.sz]
  omega
theorem Zha:∀ts:List Th,Z3j ts<=szs ts
 |[]=>Nat.le_refl _
 |t::ts=>by
  have:=Zkc t
  have:=Zha ts
  rw[Z3j,szs]
  omega
end
theorem Zhb {w:Str}{hd:List V}{ks:List Th}{B:List Str}(nk:∀k∈ks,L2.isTup k=true)(hw:w≠"let")(h:¬ (w="name"/\nm (nd w hd ks)∈B)):shT (nd w hd ks) B=nd w hd (ks.map fun k=>shT k B):=by
 rw[Zlp nk hw]
 unfold shH
 have e:Z9h (nd w hd ks) B = -1:=Zj7 h
 have e2:Zgq (nd w hd ks) = .at (.str w)::hd.map Th.at:=Z8y nk
 rw[Z98,e,if_neg hw,if_neg (by decide),e2]
 rfl
theorem Zkd {x:Str}{B:List Str}(h:x∈B):shT (nd "name" [.str x] []) B=nd "own" [.int ((B.length:Int)-1-(lix B x:Int))] []:=by
 rw[Zlp (fun k hk=>by cases hk) (by decide+kernel),map_nil,append_nil]
 unfold shH
 obtain⟨e1,e2⟩:=Zef (n:=nd "name" [.str x] []) (B:=B) rfl h
 rw[Z98,if_neg (by decide+kernel),if_pos e2,e1]
 rfl
theorem Sh.leaf0 {S:SS}{hd:List V}{n:Nat}(h:Sh S "name" hd n):n=0:=by
 cases h;rfl
theorem Sh.bh {S:SS}{w:Str}{hd:List V}{n:Nat}(h:Sh S w hd n)(hw:w≠"let"):Bh S w hd n:=by
 cases h with
 |num a b=>exact .num
 |name a=>exact .name a
 |take=>exact .take
 |op a=>exact .op (Nat.le_refl _)
 |pick=>exact .pick
 |lt a=>exact absurd rfl hw
 |set a=>exact .set a
 |say=>exact .say
 |seq a b=>exact .seq b
 |again a b=>exact .again
 |call a b c=>exact .call a b c
theorem Z5w {S:SS}:∀(n:Nat) {t:Th},PfT S n t->∀B:List Str,BfT S n (shT t B)/\cnt (shT t B)=cnt t:=by
 intro n
 induction n with
 |zero=>intro t h;exact h.elim
 |succ n ih=>
  intro t h B
  have hc:=h.cases
  obtain⟨w,hd,ks,rfl,h1,h2,h3,h4,h5,h6⟩:=h
  have sh:=h4.sh
  by_cases hw:w="let"
  ·rcases hc with ⟨x,a,b,e0,_,ha,hb⟩|⟨w',hd',ks',e0,hw',_⟩
   ·rw[e0]
    obtain⟨a1,a2⟩:=ih ha B
    obtain⟨b1,b2⟩:=ih hb (B ++ [x])
    have e:shT (nd "let" [.str x] [a,b]) B=nd "let" [] [shT a B,shT b (B ++ [x])]:=Zgu ha.isTup hb.isTup
    rw[e]
    refine⟨⟨"let",[],_,rfl,Nat.zero_le _,(fun v hv=>by cases hv),fun _=>⟨trivial,rfl⟩,.lt,by show 2<=6;decide,Z3a a1 b1⟩,?_⟩
    rw[Z2c (Z3a a1.isTup b1.isTup),Z2c (Z3a ha.isTup hb.isTup)]
    simp [Z3j,a2,b2]
   ·have e1:=congrArg wd e0
    rw[Z98,Z98] at e1
    exact absurd (e1▸hw) hw'
  ·have nk:∀k∈ks,L2.isTup k=true:=fun k hk=>(h6 k hk).isTup
   by_cases c:w="name"/\nm (nd w hd ks)∈B
   ·obtain⟨rfl,c2⟩:=c
    have hk0:ks = []:=eq_nil_of_length_eq_zero sh.leaf0
    subst hk0
    obtain⟨x,rfl⟩:∃x,hd = [.str x]:=by
     generalize ([]:List Th).length=m at sh
     cases sh with
     |name a=>exact⟨_,rfl⟩
    rw[Zps] at c2
    rw[Zkd c2]
    refine⟨⟨"own",_,[],rfl,Nat.le_refl _,Z1o rfl,fun z=>absurd z (by decide+kernel),.own,Nat.zero_le _,fun k hk=>by cases hk⟩,?_⟩
    rw[Z2c (fun k hk=>by cases hk),Z2c (fun k hk=>by cases hk)]
   ·rw[Zhb nk hw c]
    have hk:∀k∈ks.map (fun k=>shT k B),BfT S n k:=fun k hk=>by
     obtain⟨u,hu,rfl⟩:=mem_map.mp hk
     exact(ih (h6 u hu) B).1
    refine⟨⟨w,hd,_,rfl,h1,h2,fun z=>absurd z hw,by rw[length_map];exact sh.bh hw,by rw[length_map];exact h5,hk⟩,?_⟩
    ·rw[Z2c nk,Z2c fun k q=>(hk k q).isTup]
     congr 1
     clear hk sh h5 c nk h3 h4 hc
     induction ks with
     |nil=>rfl
     |cons k ks ihk=>
      rw[map_cons,Z3j,Z3j,(ih (h6 k (mem_cons_self ..)) B).2,ihk]
      exact fun u hu=>h6 u (mem_cons_of_mem _ hu)
end K36
namespace K36
open PySem L2 PyProof.Rows
structure Tr where
 r:List Str
 c:List Str
 s:Bool
 t:Bool
 f:Bool
def Zm4 (l:List Str):Th:=.tup (l.map fun x=>Th.at (.str x))
def trT (T:Tr):Th:=.tup [Zm4 T.r,Zm4 T.c,.at (.bl T.s),.at (.bl T.t),.at (.bl T.f)]
def IsTr (K:W.Frag)(H:Hp)(v:V)(T:Tr):Prop:=∃p a b:Addr,v = .ref p/\SqT K H p [.ref a,.ref b,.bl T.s,.bl T.t,.bl T.f]/\SqT K H a (T.r.map V.str)/\SqT K H b (T.c.map V.str)
theorem Z5i {K:W.Frag}{H H':Hp}{a:Addr}{xs:List V}(s:Same H H')(h:SqT K H a xs):SqT K H' a xs:=h.elim (fun r=>.inl (r.elim (fun q=>.inl (s _ _ q)) fun⟨o,q⟩=>.inr ⟨o,s _ _ q⟩)) .inr
theorem IsTr.same {K:W.Frag}{H H':Hp}{v:V}{T:Tr}(h:IsTr K H v T)(s:Same H H'):IsTr K H' v T:=
 let ⟨p,a,b,e,h1,h2,h3⟩:=h
 ⟨p,a,b,e,Z5i s h1,Z5i s h2,Z5i s h3⟩
theorem Zek {H:Hp}:∀(l:List Str) {vs:List V},IsThs H vs (l.map fun x=>Th.at (.str x))->vs=l.map V.str:=by
 intro l
 induction l with
 |nil=>intro vs h;cases h;rfl
 |cons x l ih=>
  intro vs h
  rw[map_cons] at h
  cases h with
  |cons c1 c2=>
   obtain⟨rfl,_⟩:=Z1i c1
   rw[map_cons,ih c2]
theorem Z9d {H:Hp}{v:V}{l:List Str}(h:IsTh H v (Zm4 l)):∃a,v = .ref a/\H a=some (.tup (l.map V.str)):=by
 unfold Zm4 at h
 obtain⟨a,vs,rfl,ha,hvs⟩:=Z13 h
 exact⟨a,rfl,by rw[ha,Zek l hvs]⟩
theorem IsTr.of {K:W.Frag}{H:Hp}{v:V}{T:Tr}(h:IsTh H v (trT T)):IsTr K H v T:=by
 unfold trT at h
 obtain⟨p,vs,rfl,hp,hvs⟩:=Z13 h
 cases hvs with
 |cons c1 d1=>
  cases d1 with
  |cons c2 d2=>
   cases d2 with
   |cons c3 d3=>
    cases d3 with
    |cons c4 d4=>
     cases d4 with
     |cons c5 d5=>
      cases d5
      obtain⟨rfl,_⟩:=Z1i c3
      obtain⟨rfl,_⟩:=Z1i c4
      obtain⟨rfl,_⟩:=Z1i c5
      obtain⟨a,rfl,ha⟩:=Z9d c1
      obtain⟨b,rfl,hb⟩:=Z9d c2
      exact⟨p,a,b,rfl,SqT.of hp,SqT.of ha,SqT.of hb⟩
def rdN (q:Th×List Str):List Str:=if wd q.1="name"/\nm q.1∉q.2 then [nm q.1] else []
def chN (q:Th×List Str):List Str:=if wd q.1="set" then [nm q.1] else []
def iv:Th->Int
 | .tup (_ :: .at (.int i)::_)=>i
 |_=>1
def Zod:Th->Th
 | .tup (_::_::_::d::_)=>d
 |x=>x
def Z4o (t:Th):Bool:=decide (wd t≠"num"∨iv t=0)
def Zhn (n:Th):Bool:=decide (wd n="op"/\nm n="/")
def dvN (n:Th):Bool:=Zhn n&&Z4o (Zod n)
structure TrOf (L:Sn)(T:Tr):Prop where
 r:sortedS T.r=true
 rn:T.r.Nodup
 rm:∀x,x∈T.r↔∃q∈L,x∈rdN q
 c:sortedS T.c=true
 cn:T.c.Nodup
 cm:∀x,x∈T.c↔∃q∈L,x∈chN q
 s:T.s=true↔∃q∈L,wd q.1="say"
 t:T.t=true↔∃q∈L,wd q.1="take"
 f:T.f=true↔∃q∈L,wd q.1="take"∨dvN q.1=true
theorem Z9e {a b:Bool}{p:Prop}(h:a=true↔p)(g:b=true↔p):a=b:=by
 cases a <;> cases b <;> simp_all
theorem Zd3 {a b:List Str}{p:Str->Prop}(ha:sortedS a=true)(hb:sortedS b=true)(na:a.Nodup)(nb:b.Nodup)(h:∀x,x∈a↔p x)(g:∀x,x∈b↔p x):a=b:=
 Zeh ha hb ((List.perm_ext_iff_of_nodup na nb).mpr fun x=>(h x).trans (g x).symm)
theorem TrOf.uniq {L:Sn}{T T':Tr}(h:TrOf L T)(g:TrOf L T'):T=T':=by
 cases T
 cases T'
 simp only [Tr.mk.injEq]
 exact⟨Zd3 h.r g.r h.rn g.rn h.rm g.rm,Zd3 h.c g.c h.cn g.cn h.cm g.cm,Z9e h.s g.s,Z9e h.t g.t,Z9e h.f g.f⟩
def SnU (U:List Str)(L:Sn):Prop:=∀q∈L,(∀x∈rdN q,x∈U)/\∀x∈chN q,x∈U
theorem TrOf.inR {U:List Str}{L:Sn}{T:Tr}(h:TrOf L T)(u:SnU U L):∀x∈T.r,x∈U:=fun x hx=>by
 obtain⟨q,hq,hm⟩:=(h.rm x).mp hx
 exact(u q hq).1 x hm
theorem TrOf.inC {U:List Str}{L:Sn}{T:Tr}(h:TrOf L T)(u:SnU U L):∀x∈T.c,x∈U:=fun x hx=>by
 obtain⟨q,hq,hm⟩:=(h.cm x).mp hx
 exact(u q hq).2 x hm
structure Tog (Ts:List Tr)(T:Tr):Prop where
 r:sortedS T.r=true
 rn:T.r.Nodup
 rm:∀x,x∈T.r↔∃q∈Ts,x∈q.r
 c:sortedS T.c=true
 cn:T.c.Nodup
 cm:∀x,x∈T.c↔∃q∈Ts,x∈q.c
 s:T.s=true↔∃q∈Ts,q.s=true
 t:T.t=true↔∃q∈Ts,q.t=true
 f:T.f=true↔∃q∈Ts,q.f=true
inductive Each:List Sn->List Tr->Prop where
 |nil:Each [] []
 |cons {L:Sn} {T:Tr} {Ls:List Sn} {Ts:List Tr}:TrOf L T->Each Ls Ts->Each (L::Ls) (T::Ts)
theorem Each.ex {p:Tr->Prop}{q:Th×List Str->Prop}(hp:∀L T,TrOf L T->(p T↔∃x∈L,q x)):∀{Ls:List Sn} {Ts:List Tr},Each Ls Ts->((∃T∈Ts,p T)↔∃x∈Ls.flatten,q x)
 |_,_,.nil=>by simp
 |_,_,.cons (L:=L) (T:=T) (Ls:=Ls) (Ts:=Ts) h r=>by
  have ih:=Each.ex hp r
  have h1:=hp _ _ h
  constructor
  ·rintro⟨T',hT,hpT⟩
   rcases mem_cons.mp hT with z|z
   ·subst z
    obtain⟨x,hx,hq⟩:=h1.mp hpT
    exact⟨x,by rw[flatten_cons];exact mem_append_left _ hx,hq⟩
   ·obtain⟨x,hx,hq⟩:=ih.mp ⟨T',z,hpT⟩
    exact⟨x,by rw[flatten_cons];exact mem_append_right _ hx,hq⟩
  ·rintro⟨x,hx,hq⟩
   rw[flatten_cons] at hx
   rcases mem_append.mp hx with z|z
   ·exact⟨T,mem_cons_self ..,h1.mpr ⟨x,z,hq⟩⟩
   ·obtain⟨T',hT,hpT⟩:=ih.mpr ⟨x,z,hq⟩
    exact⟨T',mem_cons_of_mem _ hT,hpT⟩
theorem Each.snoc {L:Sn}{T:Tr}(h:TrOf L T):∀{Ls:List Sn} {Ts:List Tr},Each Ls Ts->Each (Ls ++ [L]) (Ts ++ [T])
 |_,_,.nil=>.cons h .nil
 |_,_,.cons g r=>.cons g (Each.snoc h r)
theorem Each.of {Ls:List Sn}{Ts:List Tr}(e:Each Ls Ts){T:Tr}(h:Tog Ts T):TrOf Ls.flatten T:=
 ⟨h.r,h.rn,fun x=>(h.rm x).trans (Each.ex (fun _ _ g=>g.rm x) e),h.c,h.cn,fun x=>(h.cm x).trans (Each.ex (fun _ _ g=>g.cm x) e),h.s.trans (Each.ex (fun _ _ g=>g.s) e),h.t.trans (Each.ex (fun _ _ g=>g.t) e),h.f.trans (Each.ex (fun _ _ g=>g.f) e)⟩
theorem Each.inU {U:List Str}:∀{Ls:List Sn} {Ts:List Tr},Each Ls Ts->(∀L∈Ls,SnU U L)->∀T∈Ts,(∀x∈T.r,x∈U)/\∀x∈T.c,x∈U
 |_,_,.nil,_,T,hT=>by cases hT
 |_,_,.cons h r,u,T,hT=>by
  rcases mem_cons.mp hT with z|z
  ·subst z
   exact⟨h.inR (u _ (mem_cons_self ..)),h.inC (u _ (mem_cons_self ..))⟩
  ·exact Each.inU r (fun L hL=>u L (mem_cons_of_mem _ hL)) T z
theorem Zjh:∀{l U:List Str},l.Nodup->(∀x∈l,x∈U)->l.length<=U.length:=by
 intro l
 induction l with
 |nil=>intro U _ _;exact Nat.zero_le _
 |cons x l ih=>
  intro U hn hs
  rw[nodup_cons] at hn
  have hx:=hs x (mem_cons_self ..)
  have h1:=ih (U:=U.erase x) hn.2 fun y hy=>(List.mem_erase_of_ne (fun e=>hn.1 (by rw[<- e];exact hy))).mpr (hs y (mem_cons_of_mem _ hy))
  rw[List.length_erase_of_mem hx] at h1
  have:=List.length_pos_of_mem hx
  rw[length_cons];omega
theorem Zbs {l U:List Str}(h:∀x∈l,x∈U):(Stx.ofL l).length<=U.length:=Zjh (Zat l) fun x hx=>h x ((Stx.ofL_mem l x).mp hx)
theorem Zke {S:SS}{n:Nat}{t:Th}{h:List Str}(b:BfT S n t):(∀x∈rdN (t,h),x∈S.u)/\∀x∈chN (t,h),x∈S.u:=by
 cases n with
 |zero=>exact b.elim
 |succ n=>
  obtain⟨w,hd,ks,rfl,h1,h2,h3,h4,h5,h6⟩:=b
  refine⟨fun x hx=>?_,fun x hx=>?_⟩
  ·unfold rdN at hx
   split at hx
   ·next c=>
    rw[mem_singleton] at hx
    subst hx
    have hw:w="name":=c.1
    subst hw
    generalize ks.length=m at h4
    cases h4 with
    |name a=>exact a.2
   ·cases hx
  ·unfold chN at hx
   split at hx
   ·next c=>
    rw[mem_singleton] at hx
    subst hx
    have hw:w="set":=c
    subst hw
    generalize ks.length=m at h4
    cases h4 with
    |set a=>exact a.2
   ·cases hx
theorem Zd4 {S:SS}{n:Nat}{t:Th}{h:List Str}{ρ : Str->Sn}(b:BfT S n t)(hρ : ∀x∈S.c,SnU S.u (ρ x)):SnU S.u (Z32 ρ h t):=by
 intro q hq
 unfold Z32 at hq
 rcases mem_cons.mp hq with z|z
 ·subst z;exact Zke b
 ·split at z
  ·next c=>
   cases n with
   |zero=>exact b.elim
   |succ n=>
    obtain⟨w,hd,ks,rfl,h1,h2,h3,h4,h5,h6⟩:=b
    have hw:w="call":=c
    subst hw
    cases h4 with
    |call a _ _=>exact hρ _ a q z
  ·cases z
theorem Zji {S:SS}{n:Nat}{t:Th}{h:List Str}{ρ : Str->Sn}(b:BfT S n t)(hρ : ∀x∈S.c,SnU S.u (ρ x)):SnU S.u (Z33 ρ h t):=by
 intro q hq
 obtain⟨x,hx,hz⟩:=mem_flatMap.mp hq
 exact Zd4 (Zd2 n b x hx) hρ q hz
def Z4l (fs:List Fd):Str->Sn:=fs.foldl (fun ρ f=>fun y=>if y=f.x then Z33 ρ f.ps (shT f.t []) else ρ y) (fun _=>[])
theorem Z4f (fs:List Fd)(f:Fd):Z4l (fs ++ [f])=fun y=>if y=f.x then Z33 (Z4l fs) f.ps (shT f.t []) else Z4l fs y:=by
 unfold Z4l
 rw[foldl_append]
 rfl
theorem Zhc {U:List Str}:∀(k:Nat) (fs:List Fd),fs.length=k->FOk U fs->∀x,SnU U (Z4l fs x):=by
 intro k
 induction k with
 |zero=>
  intro fs hk _ x
  have:fs = []:=eq_nil_of_length_eq_zero hk
  subst this
  exact fun q hq=>by cases hq
 |succ k ih=>
  intro fs hk F x
  obtain⟨gs,f,rfl⟩:∃gs f,fs=gs ++ [f]:=⟨fs.dropLast,fs.getLast (by intro e;rw[e] at hk;cases hk),(dropLast_concat_getLast _).symm⟩
  have hg:gs.length=k:=by rw[length_append,length_singleton] at hk;omega
  have G:FOk U gs:=fun j u hu=>by
   have hj:j<gs.length:=(List.getElem?_eq_some_iff.mp hu).1
   have:=F j u (by rw[List.getElem?_append_left hj];exact hu)
   rwa [take_append_of_le_length (by omega)] at this
  have Ff:FdOk (nmS U gs) f:=by
   have:=F gs.length f (by rw[List.getElem?_append_right (Nat.le_refl _),Nat.sub_self];rfl)
   rwa [take_append_of_le_length (Nat.le_refl _),take_length] at this
  rw[Z4f]
  show SnU U (if x=f.x then _ else _)
  split
  ·exact Zji (S:=nmS U gs) (Z5w 4 Ff.b []).1 fun y _=>ih gs hg G y
  ·exact ih gs hg G x
def IsTrs (K:W.Frag)(H:Hp)(xs:List V)(Ts:List Tr):Prop:=xs.length=Ts.length/\∀(i:Nat) (x:V) (T:Tr),xs[i]? = some x->Ts[i]? = some T->IsTr K H x T
theorem IsTrs.same {K:W.Frag}{H H':Hp}{xs:List V}{Ts:List Tr}(h:IsTrs K H xs Ts)(s:Same H H'):IsTrs K H' xs Ts:=⟨h.1,fun i x T a b=>(h.2 i x T a b).same s⟩
theorem IsTrs.get {K:W.Frag}{H:Hp}{xs:List V}{Ts:List Tr}(h:IsTrs K H xs Ts){i:Nat}{x:V}(hx:xs[i]? = some x):∃T,Ts[i]? = some T/\IsTr K H x T:=by
 have hi:i<xs.length:=(List.getElem?_eq_some_iff.mp hx).1
 exact⟨Ts[i]'(by rw[<- h.1];exact hi),List.getElem?_eq_getElem _,h.2 i x _ hx (List.getElem?_eq_getElem _)⟩
theorem IsTrs.snoc {K:W.Frag}{H:Hp}{xs:List V}{Ts:List Tr}{x:V}{T:Tr}(h:IsTrs K H xs Ts)(g:IsTr K H x T):IsTrs K H (xs ++ [x]) (Ts ++ [T]):=by
 refine⟨by rw[length_append,length_append,h.1];rfl,fun i y U a b=>?_⟩
 by_cases hi:i<xs.length
 ·rw[List.getElem?_append_left hi] at a
  rw[List.getElem?_append_left (by rw[<- h.1];exact hi)] at b
  exact h.2 i y U a b
 ·rw[List.getElem?_append_right (by omega)] at a
  rw[List.getElem?_append_right (by rw[<- h.1];omega),<- h.1] at b
  cases hz:i-xs.length with
  |zero=>
   rw[hz] at a b
   cases a
   cases b
   exact g
  |succ m=>rw[hz] at a;simp at a
inductive spTogether_ (K:W.Frag)(vs:List V)(H:Hp)(Q:VK):Prop
 |mk (ra:Addr) (xs:List V) (Ts:List Tr) (U:List Str) (_:vs = [.ref ra]) (_:H ra=some (.lst xs)) (_:IsTrs K H xs Ts) (_:(∀T∈Ts,(∀x∈T.r,x∈U)/\∀x∈T.c,x∈U)) (_:U.length<64) (_:xs.length<=1000000) (_:(∀x∈U,Nm x)) (_:∀(p:Addr) (T:Tr) H',Same H H'->IsTh H' (.ref p) (trT T)->Tog Ts T->Q (.ref p) H'):spTogether_ K vs H Q
def Z8b (K:W.Frag):Sp:=fun vs H Q _=>spTogether_ K vs H Q
theorem fl_mem {α : Type}{f : α -> List Str}{l:List α}{x:Str}:x∈(l.map f).flatten↔∃q∈l,x∈f q:=by
 rw[List.mem_flatten]
 constructor
 ·rintro⟨m,hm,hx⟩
  obtain⟨q,hq,rfl⟩:=mem_map.mp hm
  exact⟨q,hq,hx⟩
 ·rintro⟨q,hq,hx⟩
  exact⟨_,mem_map.mpr ⟨q,hq,rfl⟩,hx⟩
theorem Zbt {α : Type}{f : α -> Bool}{l:List α}:(l.map f).any id=true↔∃q∈l,f q=true:=by
 rw[any_eq_true]
 constructor
 ·rintro⟨b,hb,h⟩
  obtain⟨q,hq,rfl⟩:=mem_map.mp hb
  exact⟨q,hq,h⟩
 ·rintro⟨q,hq,h⟩
  exact⟨_,mem_map.mpr ⟨q,hq,rfl⟩,h⟩
theorem Z5j {α β : Type}{f : α -> β}{l:List α}{i:Nat}{x : α}(h:l[i]? = some x):(l.take i).map f ++ [f x]=(l.take (i+1)).map f:=by
 rw[take_add_one,h,map_append]
 rfl
theorem Zd5 {K:W.Frag}{H:Hp}{Ts:List Tr}{ys:List V}{i:Nat}{T:Tr}{a:Addr}{f:Tr->List Str}(hyl:ys.length=i)(hys:∀(j:Nat) (y:V) (T:Tr),ys[j]? = some y->Ts[j]? = some T->∃p,y = .ref p/\SqT K H p ((f T).map V.str))(hT:Ts[i]? = some T)(h2:SqT K H a ((f T).map V.str)):∀(j:Nat) (y:V) (T:Tr),(ys ++ [.ref a])[j]? = some y->Ts[j]? = some T->∃p,y = .ref p/\SqT K H p ((f T).map V.str):=fun j y T' hy hT'=>by
 by_cases hj:j<ys.length
 ·rw[List.getElem?_append_left hj] at hy
  exact hys j y T' hy hT'
 ·rw[List.getElem?_append_right (by omega)] at hy
  cases hz:j-ys.length with
  |zero=>
   rw[hz] at hy
   cases hy
   have:j=i:=by omega
   subst this
   rw[hT] at hT'
   cases hT'
   exact⟨a,rfl,h2⟩
  |succ m=>rw[hz] at hy;simp at hy
abbrev Zmj:List Str:=["rows","reads","changes"]
theorem Z5x {H:Hp}:∀{l:List Str},(∀x∈l,Nm x)->IsThs H (l.map V.str) (l.map fun x=>Th.at (.str x))
 |[],_=>.nil
 |p::ps,h=>.cons (.at (smN (h p (mem_cons_self ..)))) (Z5x fun q hq=>h q (mem_cons_of_mem _ hq))
section
variable {P:Program}{w:World}{K:W.Frag}{mg:Str->Option Value}{base:Heap}
theorem scTogether:FnScope Zmj ["rows"] (Z04 Z1z):=.q
theorem Zbu {f fN:Addr}{fd dN:FuncData}(F:Fun K "together" "together" Z1z f fd)(T:TxtT mg)(hsorted:mg "sorted"=none)(hany:mg "any"=none)(FN:Fn K mg "names_together" Z2z ["rows"] fN dN):FnOk P w K mg base CX0 2 f fd ["rows"] (Z8b K):=by
 have GN:FnOk P w K mg base CX0 1 fN dN ["rows"] (Z89 K):=Zbq FN.F T hsorted
 refine F.ok scTogether (fun vs H Q E h=>?_) (fun cdv A outer s H vs Q E hr h=>?_)
 ·obtain⟨ra,xs,Ts,U,rfl,_⟩:=h
  rfl
 ·obtain⟨ra,xs,Ts,U,rfl,hra,hTs,hU,hU64,hxl,hUn,k⟩:=h
  have hsz:=sizeLine_eq
  refine'⟨?tt,?body,?fin⟩
  case body=>
   refine' Z0g ?s1 ?r1
   case s1=>
    refine' Z0a (i:=1) scTogether.nd rfl (Or.inl rfl) (Z06 GN hr (by rfl) FN.m FN.F.kp FN.b .nil Z0f (Z0b ?c Z02))
    case c=>
     refine' Z1h (N':=["one"]) (src:=[none]) rfl ?k5 ?k6 ?k7
     case k5=>exact Z0d (Z04 Z1z) rfl Zmj rfl (by decide+kernel)
     case k6=>exact Z19 (pv 0)
     case k7=>exact fun cl C ex s0 H0=>⟨Z0l (i:=0) (nd1 _) rfl (Or.inl rfl),Z1q,Z0q (Z1u (K:=K) rfl) (pv 0) Z03 (fun _ _=>rfl)⟩
   case r1=>
    refine' Z0g ?s2 ?r2
    case s2=>
     refine' Z0a (i:=2) scTogether.nd rfl (Or.inl rfl) (Z06 GN hr (by rfl) FN.m FN.F.kp FN.b .nil Z0f (Z0b ?c Z02))
     case c=>
      refine' Z1h (N':=["one"]) (src:=[none]) rfl ?k5 ?k6 ?k7
      case k5=>exact Z0d (Z04 Z1z) rfl Zmj rfl (by decide+kernel)
      case k6=>exact Z19 (pv 0)
      case k7=>exact fun cl C ex s0 H0=>⟨Z0l (i:=0) (nd1 _) rfl (Or.inl rfl),Z1q,Z0q (Z1u (K:=K) rfl) (pv 0) Z03 (fun _ _=>rfl)⟩
    case r2=>
     refine' Z07 ?s3
     case s3=>
      refine' Z0h (Z0v (Z0e (pv 1) (Z0e (pv 2) (Z2h (Z0r (id:="any") (Z4u rfl) (by rfl) hany (by decide+kernel) (Z0b ?c1 Z02)) (Z2h (Z0r (id:="any") (Z4u rfl) (by rfl) hany (by decide+kernel) (Z0b ?c2 Z02)) (Z2h (Z0r (id:="any") (Z4u rfl) (by rfl) hany (by decide+kernel) (Z0b ?c3 Z02)) Z02))))))
      case c1=>
       refine' Z1h (N':=["one"]) (src:=[none]) rfl ?k5 ?k6 ?k7
       case k5=>exact Z0d (Z04 Z1z) rfl Zmj rfl (by decide+kernel)
       case k6=>exact Z19 (pv 0)
       case k7=>exact fun cl C ex s0 H0=>⟨Z0l (i:=0) (nd1 _) rfl (Or.inl rfl),Z1q,Z0q (Z1u (K:=K) rfl) (pv 0) Z03 (fun _ _=>rfl)⟩
      case c2=>
       refine' Z1h (N':=["one"]) (src:=[none]) rfl ?k5 ?k6 ?k7
       case k5=>exact Z0d (Z04 Z1z) rfl Zmj rfl (by decide+kernel)
       case k6=>exact Z19 (pv 0)
       case k7=>exact fun cl C ex s0 H0=>⟨Z0l (i:=0) (nd1 _) rfl (Or.inl rfl),Z1q,Z0q (Z1u (K:=K) rfl) (pv 0) Z03 (fun _ _=>rfl)⟩
      case c3=>
       refine' Z1h (N':=["one"]) (src:=[none]) rfl ?k5 ?k6 ?k7
       case k5=>exact Z0d (Z04 Z1z) rfl Zmj rfl (by decide+kernel)
       case k6=>exact Z19 (pv 0)
       case k7=>exact fun cl C ex s0 H0=>⟨Z0l (i:=0) (nd1 _) rfl (Or.inl rfl),Z1q,Z0q (Z1u (K:=K) rfl) (pv 0) Z03 (fun _ _=>rfl)⟩
  case fin=>
   have few:∀f:Tr->List Str,(∀T∈Ts,∀x∈f T,x∈U)->(Stx.ofL (Ts.map f).flatten).length<64:=fun f hf=>Nat.lt_of_le_of_lt (Zbs fun x hx=>by
    obtain⟨q,hq,hm⟩:=fl_mem.mp hx
    exact hf q hq x hm) hU64
   refine⟨fun σ' H'=>∃(p:Addr) (u:List Str),σ' = [some (.ref ra),some (.ref p),none]/\Same H H'/\H' p=some (.tup (u.map V.str))/\sortedS u=true/\u.Perm (Stx.ofL (Ts.map Tr.r).flatten),?_,?_⟩
   ·refine⟨_,rfl,ra,rfl,⟨_,SqL.of hra⟩,Z0y (K:=K) (a:=ra) (xs:=xs) (fun i ys σc H'=>∃(o:Option V),σc = [o]/\H'=H/\ys.length=i/\∀(j:Nat) (y:V) (T:Tr),ys[j]? = some y->Ts[j]? = some T->∃p,y = .ref p/\SqT K H p (T.r.map V.str))
     ⟨none,rfl,rfl,rfl,fun j y T h=>by simp at h⟩ (fun i ys σc H' ⟨_,_,e,_⟩=>by rw[e];exact SqL.of hra) ?_ ?_⟩
    ·rintro i x ys σc H' hx hi ⟨o,rfl,rfl,hyl,hys⟩
     obtain⟨T,hT,p,a,b,rfl,h1,h2,h3⟩:=hTs.get hx
     refine⟨by omega,_,rfl,p,_,_,_,rfl,rfl,h1,Z1b _ _,nx hi ⟨_,rfl,rfl,by rw[length_append,hyl];rfl,Zd5 (f:=Tr.r) hyl hys hT h2⟩⟩
    ·rintro ys σc H' ⟨o,rfl,rfl,hyl,hys⟩ q hq
     have sq:=Z01 (o:=.lst ys) hq
     refine⟨q,ys,Ts.map Tr.r,rfl,SqL.of Z00,by rw[length_map,hyl,hTs.1],fun j y ts hy hts=>?_,few _ fun T hT=>(hU T hT).1,fun p u H2 s2 hp su pu=>⟨p,u,rfl,sq.trans s2,hp,su,pu⟩⟩
     rw[List.getElem?_map] at hts
     obtain⟨T,hT,rfl⟩:=Option.map_eq_some_iff.mp hts
     obtain⟨p,e,hp⟩:=hys j y T hy hT
     exact⟨p,e,Z5i sq hp⟩
   rintro σ1 H1 ⟨p1,u1,rfl,s1,hp1,su1,pu1⟩
   have hra1:=s1 _ _ hra
   have hTs1:=hTs.same s1
   refine⟨fun σ' H'=>∃(p:Addr) (u:List Str),σ' = [some (.ref ra),some (.ref p1),some (.ref p)]/\Same H1 H'/\H' p=some (.tup (u.map V.str))/\sortedS u=true/\u.Perm (Stx.ofL (Ts.map Tr.c).flatten),?_,?_⟩
   ·refine⟨_,rfl,ra,rfl,⟨_,SqL.of hra1⟩,Z0y (K:=K) (a:=ra) (xs:=xs) (fun i ys σc H'=>∃(o:Option V),σc = [o]/\H'=H1/\ys.length=i/\∀(j:Nat) (y:V) (T:Tr),ys[j]? = some y->Ts[j]? = some T->∃p,y = .ref p/\SqT K H1 p (T.c.map V.str))
     ⟨none,rfl,rfl,rfl,fun j y T h=>by simp at h⟩ (fun i ys σc H' ⟨_,_,e,_⟩=>by rw[e];exact SqL.of hra1) ?_ ?_⟩
    ·rintro i x ys σc H' hx hi ⟨o,rfl,rfl,hyl,hys⟩
     obtain⟨T,hT,p,a,b,rfl,h1,h2,h3⟩:=hTs1.get hx
     refine⟨by omega,_,rfl,p,_,_,_,rfl,rfl,h1,Z12 _ _ _,nx hi ⟨_,rfl,rfl,by rw[length_append,hyl];rfl,Zd5 (f:=Tr.c) hyl hys hT h3⟩⟩
    ·rintro ys σc H' ⟨o,rfl,rfl,hyl,hys⟩ q hq
     have sq:=Z01 (o:=.lst ys) hq
     refine⟨q,ys,Ts.map Tr.c,rfl,SqL.of Z00,by rw[length_map,hyl,hTs.1],fun j y ts hy hts=>?_,few _ fun T hT=>(hU T hT).2,fun p u H2 s2 hp su pu=>⟨p,u,rfl,sq.trans s2,hp,su,pu⟩⟩
     rw[List.getElem?_map] at hts
     obtain⟨T,hT,rfl⟩:=Option.map_eq_some_iff.mp hts
     obtain⟨p,e,hp⟩:=hys j y T hy hT
     exact⟨p,e,Z5i sq hp⟩
   rintro σ2 H2 ⟨p2,u2,rfl,s2,hp2,su2,pu2⟩
   have hra2:=s2 _ _ hra1
   have hTs2:=hTs1.same s2
   have full:∀{g:Tr->Bool},(Ts.take xs.length).map (fun T=>V.bl (g T))=(Ts.map g).map V.bl:=fun {g}=>by rw[take_of_length_le (by rw[hTs.1];exact Nat.le_refl _),map_map];rfl
   refine⟨_,rfl,_,rfl,_,rfl,ra,rfl,⟨_,SqL.of hra2⟩,Z0y (K:=K) (a:=ra) (xs:=xs) (fun i ys σc H'=>∃(o:Option V),σc = [o]/\H'=H2/\ys=(Ts.take i).map fun T=>V.bl T.s)
     ⟨none,rfl,rfl,rfl⟩ (fun i ys σc H' ⟨_,_,e,_⟩=>by rw[e];exact SqL.of hra2) ?_ ?_⟩
   ·rintro i x ys σc H' hx hi ⟨o,rfl,rfl,rfl⟩
    obtain⟨T,hT,p,a,b,rfl,h1,h2,h3⟩:=hTs2.get hx
    exact⟨by rw[length_map,length_take];omega,_,rfl,p,_,_,_,rfl,rfl,h1,Z26 (j:=2) rfl,nx hi ⟨_,rfl,rfl,Z5j hT⟩⟩
   rintro ys σc H' ⟨o,rfl,rfl,rfl⟩ q3 hq3
   rw[full]
   have s3:=Z01 (o:=.lst ((Ts.map Tr.s).map V.bl)) hq3
   refine⟨q3,_,rfl,SqL.of Z00,?_⟩
   generalize upd H' q3 (.lst ((Ts.map Tr.s).map V.bl))=H3 at s3
   have hra3:=s3 _ _ hra2
   have hTs3:=hTs2.same s3
   refine⟨_,rfl,ra,rfl,⟨_,SqL.of hra3⟩,Z0y (K:=K) (a:=ra) (xs:=xs) (fun i ys σc H'=>∃(o:Option V),σc = [o]/\H'=H3/\ys=(Ts.take i).map fun T=>V.bl T.t)
     ⟨none,rfl,rfl,rfl⟩ (fun i ys σc H' ⟨_,_,e,_⟩=>by rw[e];exact SqL.of hra3) ?_ ?_⟩
   ·rintro i x ys σc H' hx hi ⟨o,rfl,rfl,rfl⟩
    obtain⟨T,hT,p,a,b,rfl,h1,h2,h3⟩:=hTs3.get hx
    exact⟨by rw[length_map,length_take];omega,_,rfl,p,_,_,_,rfl,rfl,h1,Z26 (j:=3) rfl,nx hi ⟨_,rfl,rfl,Z5j hT⟩⟩
   rintro ys σc H4' ⟨o,rfl,rfl,rfl⟩ q4 hq4
   rw[full]
   have s4:=Z01 (o:=.lst ((Ts.map Tr.t).map V.bl)) hq4
   refine⟨q4,_,rfl,SqL.of Z00,?_⟩
   generalize upd H4' q4 (.lst ((Ts.map Tr.t).map V.bl))=H4 at s4
   have hra4:=s4 _ _ hra3
   have hTs4:=hTs3.same s4
   refine⟨_,rfl,ra,rfl,⟨_,SqL.of hra4⟩,Z0y (K:=K) (a:=ra) (xs:=xs) (fun i ys σc H'=>∃(o:Option V),σc = [o]/\H'=H4/\ys=(Ts.take i).map fun T=>V.bl T.f)
     ⟨none,rfl,rfl,rfl⟩ (fun i ys σc H' ⟨_,_,e,_⟩=>by rw[e];exact SqL.of hra4) ?_ ?_⟩
   ·rintro i x ys σc H' hx hi ⟨o,rfl,rfl,rfl⟩
    obtain⟨T,hT,p,a,b,rfl,h1,h2,h3⟩:=hTs4.get hx
    exact⟨by rw[length_map,length_take];omega,_,rfl,p,_,_,_,rfl,rfl,h1,Z26 (j:=4) rfl,nx hi ⟨_,rfl,rfl,Z5j hT⟩⟩
   rintro ys σc H5' ⟨o,rfl,rfl,rfl⟩ q5 hq5
   rw[full]
   have s5:=Z01 (o:=.lst ((Ts.map Tr.f).map V.bl)) hq5
   refine⟨q5,_,rfl,SqL.of Z00,(by show 5<=sizeLine;decide),fun p hp=>?_⟩
   generalize upd H5' q5 (.lst ((Ts.map Tr.f).map V.bl))=H5 at s5 hp
   have s6:=Z01 (o:=.tup [.ref p1,.ref p2,.bl ((Ts.map Tr.s).any id),.bl ((Ts.map Tr.t).any id),.bl ((Ts.map Tr.f).any id)]) hp
   have m1:∀x,x∈u1↔∃q∈Ts,x∈q.r:=fun x=>by rw[pu1.mem_iff,Stx.ofL_mem,fl_mem]
   have m2:∀x,x∈u2↔∃q∈Ts,x∈q.c:=fun x=>by rw[pu2.mem_iff,Stx.ofL_mem,fl_mem]
   have n1:∀x∈u1,Nm x:=fun x hx=>by
    obtain⟨q,hq,hm⟩:=(m1 x).mp hx
    exact hUn x ((hU q hq).1 x hm)
   have n2:∀x∈u2,Nm x:=fun x hx=>by
    obtain⟨q,hq,hm⟩:=(m2 x).mp hx
    exact hUn x ((hU q hq).2 x hm)
   have s26:=(s3.trans s4).trans (s5.trans s6)
   refine k p ⟨u1,u2,_,_,_⟩ _ ((s1.trans s2).trans s26) (.tup Z00 (.cons (.tup ((s2.trans s26) _ _ hp1) (Z5x n1)) (.cons (.tup (s26 _ _ hp2) (Z5x n2)) (.cons (.at rfl) (.cons (.at rfl) (.cons (.at rfl) .nil)))))) ⟨su1,pu1.nodup_iff.mpr (Zat _),m1,su2,pu2.nodup_iff.mpr (Zat _),m2,Zbt,Zbt,Zbt⟩
end
def Known (H:Hp)(S:SS)(ρ : Str->Sn)(kvs:List (Key×V)):Prop:=∀x∈S.c,∃(v:V) (T:Tr),Z2m kvs (Sum.inr x)=some v/\IsTh H v (trT T)/\TrOf (ρ x) T
def Zpy (K:W.Frag)(mg:Str->Option Value):Prop:=∃a:Addr,mg "NOTHING"=some (.ref a)/\∀H,IsTr K H (.ref a) ⟨[],[],false,false,false⟩
inductive spNodeTr_ (K:W.Frag)(S:SS)(N:Nat)(vs:List V)(H:Hp)(Q:VK):Prop
 |mk (ka ha:Addr) (v:V) (n:Th) (h:List Str) (ρ : Str->Sn) (kvs:List (Key×V)) (_:vs = [.ref ka,v,.ref ha]) (_:H ka=some (.dK kvs)) (_:Known H S ρ kvs) (_:IsTh H v n) (_:BfT S N n) (_:SqT K H ha (h.map V.str)) (_:∀(v':V) (T:Tr) H',Same H H'->IsTr K H' v' T->TrOf (Z32 ρ h n) T->Q v' H'):spNodeTr_ K S N vs H Q
def Zd6 (K:W.Frag)(S:SS)(N:Nat):Sp:=fun vs H Q _=>spNodeTr_ K S N vs H Q
theorem Zqh (x:Str):([x]:List Str).Nodup:=by simp
theorem Z5y:∀l:List Str,(l.map V.str).all Z45=true:=fun l=>by
 rw[all_eq_true]
 intro v hv
 obtain⟨x,_,rfl⟩:=mem_map.mp hv
 rfl
theorem Z8c {ρ : Str->Sn}{h:List Str}{n:Th}{T:Tr}(hc:wd n≠"call")(r:T.r=rdN (n,h))(c:T.c=chN (n,h))(s:T.s=true↔wd n="say")(t:T.t=true↔wd n="take")(f:T.f=true↔(wd n="take"∨dvN n=true)):TrOf (Z32 ρ h n) T:=by
 have e:Z32 ρ h n = [(n,h)]:=by unfold Z32;rw[if_neg hc]
 rw[e]
 have one:∀{p:Th×List Str->Prop},(∃q ∈ [(n,h)],p q)↔p (n,h):=fun {p}=>⟨fun⟨q,hq,g⟩=>by rw[mem_singleton] at hq;rw[<- hq];exact g,fun g=>⟨_,mem_singleton.mpr rfl,g⟩⟩
 have sr:sortedS (rdN (n,h))=true/\(rdN (n,h)).Nodup:=by
  unfold rdN
  split
  ·exact⟨rfl,Zqh _⟩
  ·exact⟨rfl,nodup_nil⟩
 have sc:sortedS (chN (n,h))=true/\(chN (n,h)).Nodup:=by
  unfold chN
  split
  ·exact⟨rfl,Zqh _⟩
  ·exact⟨rfl,nodup_nil⟩
 exact⟨by rw[r];exact sr.1,by rw[r];exact sr.2,fun x=>by rw[one,r],by rw[c];exact sc.1,by rw[c];exact sc.2,fun x=>by rw[one,c],by rw[one];exact s,by rw[one];exact t,by rw[one];exact f⟩
theorem Zm5 {ρ : Str->Sn}{h:List Str}{n:Th}{T:Tr}(hc:wd n="call")(g:TrOf (ρ (nm n)) T):TrOf (Z32 ρ h n) T:=by
 have e:Z32 ρ h n=(n,h) :: ρ (nm n):=by unfold Z32;rw[if_pos hc]
 rw[e]
 have one:∀{p:Th×List Str->Prop},¬p (n,h)->((∃q∈(n,h) :: ρ (nm n),p q)↔∃q ∈ ρ (nm n),p q):=fun {p} hn=>⟨fun⟨q,hq,g⟩=>by
  rcases mem_cons.mp hq with z|z
  ·exact absurd (z▸g) hn
  ·exact⟨q,z,g⟩,fun⟨q,hq,g⟩=>⟨q,mem_cons_of_mem _ hq,g⟩⟩
 have n1:wd n≠"name":=by rw[hc];decide+kernel
 have n2:wd n≠"set":=by rw[hc];decide+kernel
 have n3:wd n≠"say":=by rw[hc];decide+kernel
 have n4:wd n≠"take":=by rw[hc];decide+kernel
 have n5:wd n≠"op":=by rw[hc];decide+kernel
 have d:dvN n≠true:=by
  unfold dvN Zhn
  rw[decide_eq_false (fun q=>n5 q.1),Bool.false_and]
  decide
 refine⟨g.r,g.rn,fun x=>?_,g.c,g.cn,fun x=>?_,?_,?_,?_⟩
 ·rw[one]
  ·exact g.rm x
  ·unfold rdN;rw[if_neg (fun q=>n1 q.1)];exact not_mem_nil
 ·rw[one]
  ·exact g.cm x
  ·unfold chN;rw[if_neg n2];exact not_mem_nil
 ·rw[one n3];exact g.s
 ·rw[one n4];exact g.t
 ·rw[one]
  ·exact g.f
  ·rintro(q|q)
   ·exact n4 q
   ·exact d q
theorem Zoe {n:Th}(h:wd n≠"op"):dvN n=false:=by
 unfold dvN Zhn
 rw[decide_eq_false (fun q=>h q.1)]
 rfl
theorem Zeo {p:Prop}(h:¬p):(false=true)↔p:=⟨(fun z=>by cases z),fun z=>absurd z h⟩
theorem Zpz {n:Th}(h:wd n≠"take")(g:wd n≠"op"):(false=true)↔(wd n="take"∨dvN n=true):=Zeo fun z=>z.elim h fun q=>by rw[Zoe g] at q;cases q
theorem Zq0 {n:Th}{h:List Str}(c:¬ (wd n="name"/\nm n∉h)):rdN (n,h) = []:=if_neg c
theorem Zof {n:Th}{h:List Str}(c:wd n≠"set"):chN (n,h) = []:=if_neg c
theorem Z2g {a b:Str}(g:decide (V.str a=V.str b)=true):a=b:=by
 have g':=of_decide_eq_true g
 injection g'
theorem Z1t {a b:Str}(g:¬decide (V.str a=V.str b)=true):a≠b:=fun e=>g (by rw[e];exact decide_eq_true rfl)
abbrev Zr0:List Str:=["known","node","held","word","by"]
section
variable {S:SS}{P:Program}{w:World}{K:W.Frag}{mg:Str->Option Value}{base:Heap}
theorem scNodeTr:FnScope Zr0 ["known","node","held"] (Z04 Z30):=.q
theorem Zhd {f:Addr}{fd:FuncData}(F:Fun K "node_traits" "node_traits" Z30 f fd)(NT:Zpy K mg)(N:Nat):FnOk P w K mg base CX0 1 f fd ["known","node","held"] (Zd6 K S N):=by
 obtain⟨aN,mN,hN⟩:=NT
 refine F.ok scNodeTr (fun vs H Q E h=>?_) (fun cdv A outer s H vs Q E hr h=>?_)
 ·obtain⟨ka,ha,v,n,h,ρ,kvs,rfl,_⟩:=h
  rfl
 ·obtain⟨ka,ha,v,n,h,ρ,kvs,rfl,hka,KN,hv,bf,hha,k⟩:=h
  have hsz:=sizeLine_eq
  have hu:=Zb3 hr
  refine'⟨?tt,?body,?fin⟩
  case body=>
   refine' Z05 ?s1 ?r1
   case s1=>exact Z0a (i:=3) scNodeTr.nd rfl (Or.inl rfl) (Z0q Z0x (pv 1) Z03 (fun _ _=>rfl))
   case r1=>
    refine' Z0g ?s2 ?r2
    case s2=>
     refine' Z11 ?c (Z07 (Z0h ?e)) Z0k
     case c=>exact(Z41 (Z09 Z1f (pv 3) Z08 (Z0i _)) (Z2v (Z09 Z46 (Z0q Z0x (pv 1) Z03 (fun _ _=>rfl)) (pv 2) (by with_unfolding_all rfl)))).pt
     case e=>exact Z0v (Z9g (Z0v (Z0b (Z0q Z0x (pv 1) Z03 (fun _ _=>rfl)) Z02)) (Z9g (Z0v Z02) (Z18 Z34 (Z18 Z34 (Z18 Z34 Z02)))))
    case r2=>
     refine' Z05 ?s3 ?r3
     case s3=>
      refine' Z11 (Z09 Z1f (pv 3) Z08 (Z0i _)) (Z07 (Z0h ?e)) Z0k
      case e=>exact Z0v (Z9g (Z0v Z02) (Z9g (Z0v (Z0b (Z0q Z0x (pv 1) Z03 (fun _ _=>rfl)) Z02)) (Z18 Z34 (Z18 Z34 (Z18 Z34 Z02)))))
     case r3=>
      refine' Z05 ?s4 ?r4
      case s4=>
       refine' Z11 (Z09 Z1f (pv 3) Z08 (Z0i _)) (Z07 (Z0h ?e)) Z0k
       case e=>exact Z0v (Z9g (Z0v Z02) (Z9g (Z0v Z02) (Z18 Z34 (Z18 Z34 (Z18 Z34 Z02)))))
      case r4=>
       refine' Z05 ?s5 ?r5
       case s5=>
        refine' Z11 (Z09 Z1f (pv 3) Z08 (Z0i _)) (Z07 (Z0h ?e)) Z0k
        case e=>exact Z0v (Z9g (Z0v Z02) (Z9g (Z0v Z02) (Z18 Z34 (Z18 Z34 (Z18 Z34 Z02)))))
       case r5=>
        refine' Z0g ?s6 ?r6
        case s6=>
         refine' Z11 ?c (Z05 ?e1 (Z07 (Z0h ?e2))) Z0k
         case c=>exact(Z41 (Z09 Z1f (pv 3) Z08 (Z0i _)) (Z2v (Z09 Z1f (Z0q Z0x (pv 1) Z03 (fun _ _=>rfl)) Z08 (Z0i _)))).pt
         case e1=>exact Z0a (i:=4) scNodeTr.nd rfl (Or.inl rfl) (Z0q Z0x (pv 1) Z03 (fun _ _=>rfl))
         case e2=>exact Z0v (Z9g (Z0v Z02) (Z9g (Z0v Z02) (Z18 Z34 (Z18 Z34 (Z0b (Zms (Z44 Zdi (Z0q Z0x (pv 4) Z03 (fun _ _=>rfl)) Z08 (Z0i _)) (Zet (Z44 Z1f (Z0q Z0x (pv 4) Z03 (fun _ _=>rfl)) Z03 (Z0i _)))) Z02)))))
        case r6=>
         refine' Z05 ?s7 (Z07 ?s8)
         case s7=>
          refine' Z11 (Z09 Z1f (pv 3) Z08 (Z0i _)) (Z07 (Z0h ?e)) Z0k
          case e=>exact Z0t hu (pv 0) (Z0q Z0x (pv 1) Z03 (fun _ _=>rfl)) (fun _ _=>rfl)
         case s8=>exact Z0h (Z3r (v:=.ref aN) (by rfl) mN rfl)
  case fin=>
   cases N with
   |zero=>exact bf.elim
   |succ N=>
    obtain⟨w0,hd,ks,rfl,h1,h2,h3,h4,h5,h6⟩:=bf
    have nk:∀y∈ks,L2.isTup y=true:=fun y hy=>(h6 y hy).isTup
    have hvt:IsTh H v (.tup (.at (.str w0)::(hd.map Th.at++ks))):=hv
    obtain⟨a,vs,rfl,ha',hvs⟩:=Z13 hvt
    obtain⟨vr,rfl,hvr⟩:∃vr,vs = .str w0::vr/\IsThs H vr (hd.map Th.at++ks):=by
     cases hvs with
     |cons c1 c2=>
      obtain⟨rfl,_⟩:=Z1i c1
      exact⟨_,rfl,c2⟩
    have second:∀x,hd = [.str x]->∃vr2,vr = .str x::vr2/\IsThs H vr2 ks:=fun x e=>by
     subst e
     cases hvr with
     |cons c1 c2=>
      obtain⟨rfl,_⟩:=Z1i c1
      exact⟨_,rfl,c2⟩
    have hwd:wd (nd w0 hd ks)=w0:=rfl
    have mk2:∀{H':Hp} {p1 p2 p3:Addr} {l1 l2:List Str} {b1 b2 b3:Bool},H' p3=some (.tup [.ref p1,.ref p2,.bl b1,.bl b2,.bl b3])->H' p1=some (.tup (l1.map V.str))->H' p2=some (.tup (l2.map V.str))->IsTr K H' (.ref p3) ⟨l1,l2,b1,b2,b3⟩:=fun {_ _ _ _ _ _ _ _ _} q1 q2 q3=>⟨_,_,_,rfl,SqT.of q1,SqT.of q2,SqT.of q3⟩
    have fresh:∀{H:Hp} {c:Addr} {o o':HO} {b:Addr},H c=some o->H b=none->upd H b o' c=some o:=fun {H c o o' b} e e'=>Z01 e' _ _ e
    refine⟨_,rfl,a,_,_,_,rfl,rfl,SqT.of ha',Z1b _ _,?_⟩
    refine⟨fun σ' H'=>σ' = [some (.ref ka),some (.ref a),some (.ref ha),some (.str w0),none]/\H'=H/\¬ (w0="name"/\nm (nd w0 hd ks)∉h),?_,?_⟩
    ·refine⟨_,rfl,rfl,_,rfl,Z1e (fun g=>?_) (fun g=>Za2 ⟨rfl,rfl,fun q=>Z1t g q.1⟩)⟩
     have hw:=Z2g g
     subst hw
     obtain⟨x,rfl⟩:∃x,hd = [.str x]:=by
      generalize ks.length=m at h4
      cases h4 with
      |name a=>exact⟨_,rfl⟩
     obtain⟨vr2,rfl,_⟩:=second x rfl
     refine⟨_,rfl,a,_,_,.str x,rfl,rfl,SqT.of ha',Z12 _ _ _,_,rfl,_,_,rfl,.inr hha,rfl,Z5y _,_,rfl,Z1e (fun g=>?_) (fun g=>?_)⟩
     ·have hx:x∉h:=fun z=>by
       rw[(Z1n x h).mpr z] at g
       cases g
      refine⟨_,rfl,a,_,_,.str x,rfl,rfl,SqT.of ha',Z12 _ _ _,(by show 1<=sizeLine;decide),fun p1 hp1=>⟨Nat.zero_le _,fun p2 hp2=>⟨(by show 5<=sizeLine;decide),fun p3 hp3=>?_⟩⟩⟩
      refine k (.ref p3) ⟨[x],[],false,false,false⟩ _ (((Z01 hp1).trans (Z01 hp2)).trans (Z01 hp3)) (mk2 Z00 (fresh (fresh Z00 hp2) hp3) (fresh Z00 hp3)) (Z8c (by rw[hwd];decide+kernel) ?_ (Zof (by rw[hwd];decide+kernel)).symm (Zeo (by rw[hwd];decide+kernel)) (Zeo (by rw[hwd];decide+kernel)) (Zpz (by rw[hwd];decide+kernel) (by rw[hwd];decide+kernel)))
      exact(if_pos (⟨rfl,hx⟩:wd (nd "name" [.str x] ks)="name"/\nm (nd "name" [.str x] ks)∉h)).symm
     ·refine⟨rfl,rfl,fun q=>g ?_⟩
      have hx:x∉h:=q.2
      have:inV (.str x) (h.map V.str)=false:=by
       rw[Bool.eq_false_iff]
       exact fun z=>hx ((Z1n x h).mp z)
      show(if true=true then !inV _ _ else _)=true
      rw[if_pos rfl,this]
      rfl
    rintro σ1 H1 ⟨rfl,rfl,hnr⟩
    have nr:rdN (nd w0 hd ks,h) = []:=Zq0 hnr
    refine⟨_,rfl,rfl,_,rfl,Z1e (fun g=>?_) (fun g=>?_)⟩
    ·have hw:=Z2g g
     subst hw
     obtain⟨x,rfl⟩:∃x,hd = [.str x]:=by
      generalize ks.length=m at h4
      cases h4 with
      |set a=>exact⟨_,rfl⟩
     obtain⟨vr2,rfl,_⟩:=second x rfl
     refine⟨Nat.zero_le _,fun p1 hp1=>⟨_,rfl,a,_,_,.str x,rfl,rfl,SqT.of (Z01 hp1 _ _ ha'),Z12 _ _ _,(by show 1<=sizeLine;decide),fun p2 hp2=>⟨(by show 5<=sizeLine;decide),fun p3 hp3=>?_⟩⟩⟩
     refine k (.ref p3) ⟨[],[x],false,false,false⟩ _ (((Z01 hp1).trans (Z01 hp2)).trans (Z01 hp3)) (mk2 Z00 (fresh (fresh Z00 hp2) hp3) (fresh Z00 hp3)) (Z8c (by rw[hwd];decide+kernel) nr.symm ?_ (Zeo (by rw[hwd];decide+kernel)) (Zeo (by rw[hwd];decide+kernel)) (Zpz (by rw[hwd];decide+kernel) (by rw[hwd];decide+kernel)))
     exact(if_pos (rfl:wd (nd "set" [.str x] ks)="set")).symm
    have hs:=Z1t g
    have nc:chN (nd w0 hd ks,h) = []:=Zof hs
    refine⟨_,rfl,rfl,_,rfl,Z1e (fun g=>?_) (fun g=>?_)⟩
    ·have hw:=Z2g g
     subst hw
     refine⟨Nat.zero_le _,fun p1 hp1=>⟨Nat.zero_le _,fun p2 hp2=>⟨(by show 5<=sizeLine;decide),fun p3 hp3=>?_⟩⟩⟩
     exact k (.ref p3) ⟨[],[],true,false,false⟩ _ (((Z01 hp1).trans (Z01 hp2)).trans (Z01 hp3)) (mk2 Z00 (fresh (fresh Z00 hp2) hp3) (fresh Z00 hp3)) (Z8c (by rw[hwd];decide+kernel) nr.symm nc.symm ⟨fun _=>rfl,fun _=>rfl⟩ (Zeo (by rw[hwd];decide+kernel)) (Zpz (by rw[hwd];decide+kernel) (by rw[hwd];decide+kernel)))
    have hsay:=Z1t g
    refine⟨_,rfl,rfl,_,rfl,Z1e (fun g=>?_) (fun g=>?_)⟩
    ·have hw:=Z2g g
     subst hw
     refine⟨Nat.zero_le _,fun p1 hp1=>⟨Nat.zero_le _,fun p2 hp2=>⟨(by show 5<=sizeLine;decide),fun p3 hp3=>?_⟩⟩⟩
     exact k (.ref p3) ⟨[],[],false,true,true⟩ _ (((Z01 hp1).trans (Z01 hp2)).trans (Z01 hp3)) (mk2 Z00 (fresh (fresh Z00 hp2) hp3) (fresh Z00 hp3)) (Z8c (by rw[hwd];decide+kernel) nr.symm nc.symm (Zeo (by rw[hwd];decide+kernel)) ⟨fun _=>rfl,fun _=>rfl⟩ ⟨fun _=>.inl rfl,fun _=>rfl⟩)
    have htk:=Z1t g
    refine⟨fun σ' H'=>σ' = [some (.ref ka),some (.ref a),some (.ref ha),some (.str w0),none]/\H'=H1/\dvN (nd w0 hd ks)=false,?_,?_⟩
    ·refine⟨_,rfl,rfl,_,rfl,Z1e (fun g=>?_) (fun g=>Za2 ⟨rfl,rfl,Zoe (Z1t g)⟩)⟩
     have hw:=Z2g g
     subst hw
     obtain⟨⟨x,rfl⟩,hk2⟩:(∃x,hd = [.str x])/\ks.length=2:=by
      generalize ks.length=m at h4
      cases h4 with
      |op a=>exact⟨⟨_,rfl⟩,rfl⟩
     obtain⟨vr2,rfl,hv2⟩:=second x rfl
     match ks,hk2,h6,hv2 with
     |[k1,k2],_,h6,hv2=>
      cases hv2 with
      | @cons va vr3 _ _ da db=>
       cases db with
       | @cons vb vr4 _ _ db1 db2=>
        cases db2
        refine⟨_,rfl,a,_,_,.str x,rfl,rfl,SqT.of ha',Z12 _ _ _,rfl,_,rfl,Z1e (fun g=>?_) (fun g=>⟨rfl,rfl,?_⟩)⟩
        ·have hx:=Z2g g
         subst hx
         have b2:=h6 k2 (by simp)
         cases N with
         |zero=>exact b2.elim
         |succ N=>
          obtain⟨w2,hd2,ks2,rfl,_,_,_,q4,_,_⟩:=b2
          have hbt:IsTh H1 vb (.tup (.at (.str w2)::(hd2.map Th.at++ks2))):=db1
          obtain⟨a2,vs2,rfl,ha2,hvs2⟩:=Z13 hbt
          obtain⟨vr5,rfl,hvr5⟩:∃vr,vs2 = .str w2::vr/\IsThs H1 vr (hd2.map Th.at++ks2):=by
           cases hvs2 with
           |cons c1 c2=>
            obtain⟨rfl,_⟩:=Z1i c1
            exact⟨_,rfl,c2⟩
          have dv:dvN (nd "op" [.str "/"] [k1,nd w2 hd2 ks2])=Z4o (nd w2 hd2 ks2):=by
           unfold dvN Zhn
           rw[decide_eq_true (⟨rfl,rfl⟩:wd (nd "op" [.str "/"] [k1,nd w2 hd2 ks2])="op"/\nm (nd "op" [.str "/"] [k1,nd w2 hd2 ks2])="/")]
           rfl
          refine⟨_,rfl,a,_,_,.ref a2,rfl,rfl,SqT.of ha',Zoq _ _ _ _ _,?_⟩
          refine⟨Nat.zero_le _,fun p1 hp1=>⟨Nat.zero_le _,fun p2 hp2=>?_⟩⟩
          have s12:=(Z01 (o:=.tup []) hp1).trans (Z01 (o:=.tup []) hp2)
          have fin:∀b:Bool,b=Z4o (nd w2 hd2 ks2)->∀p3,upd (upd H1 p1 (.tup [])) p2 (.tup []) p3=none->Q (.ref p3) (upd (upd (upd H1 p1 (.tup [])) p2 (.tup [])) p3 (.tup [.ref p1,.ref p2,.bl false,.bl false,.bl b])):=fun b hb p3 hp3=>
           k (.ref p3) ⟨[],[],false,false,b⟩ _ (s12.trans (Z01 hp3)) (mk2 Z00 (fresh (fresh Z00 hp2) hp3) (fresh Z00 hp3)) (Z8c (by rw[hwd];decide+kernel) nr.symm nc.symm (Zeo (by rw[hwd];decide+kernel)) (Zeo (by rw[hwd];decide+kernel)) ⟨fun z=>.inr (by rw[dv,<- hb];exact z),fun z=>z.elim (fun q=>absurd q (by rw[hwd];decide+kernel)) (fun q=>by rw[dv,<- hb] at q;exact q)⟩)
          refine⟨_,rfl,a2,_,_,_,rfl,rfl,SqT.of (s12 _ _ ha2),Z1b _ _,rfl,_,rfl,Z1e (fun g=>?_) (fun g=>?_)⟩
          ·have hne:w2≠"num":=fun z=>by
            rw[z,decide_eq_true rfl] at g
            cases g
           exact⟨(by show 5<=sizeLine;decide),fin true (decide_eq_true (.inl hne)).symm⟩
          ·have hw2:w2="num":=Classical.byContradiction fun z=>g (by rw[decide_eq_false (fun e=>z (by injection e))];rfl)
           subst hw2
           obtain⟨i,rfl⟩:∃i,hd2 = [.int i]:=by
            generalize ks2.length=m at q4
            cases q4 with
            |num=>exact⟨_,rfl⟩
           obtain⟨vr6,rfl⟩:∃vr6,vr5 = .int i::vr6:=by
            cases hvr5 with
            |cons c1 c2=>
             obtain⟨rfl,_⟩:=Z1i c1
             exact⟨_,rfl⟩
           refine⟨_,rfl,a2,_,_,_,rfl,rfl,SqT.of (s12 _ _ ha2),Z12 _ _ _,rfl,(by show 5<=sizeLine;decide),fin _ ?_⟩
           unfold Z4o
           rw[Bool.eq_iff_iff,decide_eq_true_iff,decide_eq_true_iff]
           constructor
           ·intro e
            injection e with e
            exact .inr e
           ·rintro(q|q)
            ·exact absurd rfl q
            ·have q':i=0:=q
             rw[q']
        ·have hx:=Z1t g
         unfold dvN Zhn
         rw[decide_eq_false (fun q=>hx q.2)]
         rfl
    rintro σ2 H2 ⟨rfl,rfl,hdv⟩
    refine⟨_,rfl,rfl,_,rfl,Z1e (fun g=>?_) (fun g=>?_)⟩
    ·have hw:=Z2g g
     subst hw
     obtain⟨x,rfl,hxS⟩:∃x,hd = [.str x]/\x∈S.c:=by
      generalize ks.length=m at h4
      cases h4 with
      |call a _ _=>exact⟨_,rfl,a⟩
     obtain⟨vr2,rfl,_⟩:=second x rfl
     obtain⟨v',T,hg,hT,tr⟩:=KN x hxS
     have hg':=DGet.k (k:=Sum.inr x) hka
     rw[hg] at hg'
     exact⟨_,rfl,_,rfl,a,_,_,.str x,rfl,rfl,SqT.of ha',Z12 _ _ _,ka,_,rfl,hg',k v' T _ (Same.refl _) (IsTr.of hT) (Zm5 rfl tr)⟩
    have hcl:=Z1t g
    exact k (.ref aN) ⟨[],[],false,false,false⟩ _ (Same.refl _) (hN _) (Z8c hcl nr.symm nc.symm (Zeo hsay) (Zeo htk) (Zeo fun z=>z.elim htk fun q=>by rw[hdv] at q;cases q))
end
end K36
namespace K36
open PySem L2
abbrev Zjj (S:SS)(N:Nat):Sp:=Z6d (BfT S) N
abbrev Zhe (S:SS)(N M:Nat):Sp:=Z70 (BfT S) N M
end K36
namespace K36
open PySem L2 PyProof.Rows
theorem Known.kp {H H':Hp}{S:SS}{ρ : Str->Sn}{kvs:List (Key×V)}(h:Known H S ρ kvs)(k:Kp H H'):Known H' S ρ kvs:=fun x hx=>
 let ⟨v,T,e,hv,tr⟩:=h x hx
 ⟨v,T,e,IsTh.kp k hv,tr⟩
theorem Known.snoc {H:Hp}{U:List Str}{fs:List Fd}{f:Fd}{kvs:List (Key×V)}{v:V}{T:Tr}(h:Known H (nmS U fs) (Z4l fs) kvs)(hv:IsTh H v (trT T))(tr:TrOf (Z33 (Z4l fs) f.ps (shT f.t [])) T):Known H (nmS U (fs ++ [f])) (Z4l (fs ++ [f])) (Z3z kvs (Sum.inr f.x) v):=by
 intro y hy
 rw[Z4f]
 replace hy:y∈nmL (fs ++ [f]):=hy
 rw[Z6f] at hy
 by_cases e:y=f.x
 ·subst e
  rw[Z20,if_pos rfl]
  refine⟨v,T,rfl,hv,?_⟩
  simp only [if_true]
  exact tr
 ·rw[Z20,if_neg (by intro q;injection q with q;exact e q)]
  rcases mem_append.mp hy with z|z
  ·simp only [if_neg e]
   exact h y z
  ·rw[mem_singleton] at z
   exact absurd z e
theorem FOk.take {U:List Str}{fs:List Fd}(h:FOk U fs)(i:Nat):FOk U (fs.take i):=fun j f hf=>by
 rw[List.getElem?_take] at hf
 split at hf
 ·next hj=>
  rw[List.take_take,Nat.min_eq_left (by omega)]
  exact h j f hf
 ·cases hf
theorem Zd7 {H:Hp}{v:V}{f:Fd}(h:IsTh H v f.th):∃(c pa:Addr) (bv:V),v = .ref c/\H c=some (.tup [.str f.x,.ref pa,bv])/\H pa=some (.tup (f.ps.map V.str))/\IsTh H bv f.t:=by
 unfold Fd.th at h
 obtain⟨c,vs,rfl,hc,hvs⟩:=Z13 h
 cases hvs with
 |cons c1 d1=>
  cases d1 with
  |cons c2 d2=>
   cases d2 with
   |cons c3 d3=>
    cases d3
    obtain⟨rfl,_⟩:=Z1i c1
    obtain⟨pa,rfl,hpa⟩:=Z9d (l:=f.ps) c2
    exact⟨c,pa,_,rfl,hc,hpa,c3⟩
theorem Zjk {H:Hp}{v:V}{fs:List Fd}{m:Th}(h:IsTh H v (prT fs m)):∃(a fa:Addr) (fv:List V) (mv:V),v = .ref a/\H a=some (.tup [.ref fa,mv])/\H fa=some (.tup fv)/\IsThs H fv (fs.map Fd.th):=by
 unfold prT at h
 obtain⟨a,vs,rfl,ha,hvs⟩:=Z13 h
 cases hvs with
 |cons c1 d1=>
  cases d1 with
  |cons c2 d2=>
   cases d2
   obtain⟨fa,fv,rfl,hfa,hfv⟩:=Z13 c1
   exact⟨a,fa,fv,_,rfl,ha,hfa,hfv⟩
theorem Zhf {fs:List Fd}{i:Nat}{f:Fd}(h:fs[i]? = some f):fs.take (i+1)=fs.take i ++ [f]:=by
 rw[take_add_one,h]
 rfl
structure UOk (S:SS)(ρ : Str->Sn):Prop where
 sn:∀x∈S.c,SnU S.u (ρ x)
 l:S.u.length<64
 n:∀x∈S.u,Nm x
inductive spFormTr_ (K:W.Frag)(S:SS)(N:Nat)(vs:List V)(H:Hp)(Q:VK):Prop
 |mk (ka ha:Addr) (v:V) (t:Th) (h:List Str) (ρ : Str->Sn) (kvs:List (Key×V)) (_:vs = [.ref ka,v,.ref ha]) (_:H ka=some (.dK kvs)) (_:Known H S ρ kvs) (_:IsTh H v t) (_:BfT S N t) (_:Th.sz t<=100000) (_:H ha=some (.tup (h.map V.str))) (_:UOk S ρ) (_:∀(p:Addr) (T:Tr) H',Same H H'->IsTh H' (.ref p) (trT T)->TrOf (Z33 ρ h t) T->Q (.ref p) H'):spFormTr_ K S N vs H Q
def Zd8 (K:W.Frag)(S:SS)(N:Nat):Sp:=fun vs H Q _=>spFormTr_ K S N vs H Q
theorem Zm6:(["known","held","deed","node"]:List Str).Nodup:=by decide+kernel
def Z7e (l:List (Str×Th)):List Th:=(l.filter Z5h).map (·.2)
theorem Zel {l:List (Str×Th)}{i:Nat}{q:Str×Th}(h:l[i]? = some q):Z7e (l.take (i+1))=Z7e (l.take i)++(if q.1="node" then [q.2] else []):=by
 unfold Z7e
 rw[take_add_one,h,filter_append,map_append]
 congr 1
 show(List.filter Z5h [q]).map _=_
 rw[filter_cons]
 by_cases c:q.1="node"
 ·rw[if_pos (show Z5h q=true from decide_eq_true c),if_pos c]
  rfl
 ·rw[if_neg (show ¬Z5h q=true from fun z=>c (of_decide_eq_true z)),if_neg c]
  rfl
structure TrF where
 fS:Addr
 fP:Addr
 fG:Addr
 fN:Addr
 fT:Addr
 dS:FuncData
 dP:FuncData
 dG:FuncData
 dN:FuncData
 dT:FuncData
structure Trp (K:W.Frag)(mg:Str->Option Value)(p:TrF):Prop where
 T:TxtT mg
 TD:TxtD mg
 KI:Kits K
 S:Fn K mg "steps" Z6s ["tree"] p.fS p.dS
 P:Fn K mg "parts" Z64 ["e"] p.fP p.dP
 G:Fn K mg "names_together" Z2z ["rows"] p.fG p.dG
 N:Fn K mg "node_traits" Z30 ["known","node","held"] p.fN p.dN
 O:Fn K mg "together" Z1z ["rows"] p.fT p.dT
 sorted:mg "sorted"=none
 any:mg "any"=none
 no:Zpy K mg
section
variable {S:SS}{P:Program}{w:World}{K:W.Frag}{mg:Str->Option Value}{base:Heap}{p:TrF}
theorem Zjl:FnScope ["known","b","held"] ["known","b","held"] (Z04 Z2f):=.q
theorem Zau {f:Addr}{fd:FuncData}(F:Fun K "form_traits" "form_traits" Z2f f fd)(G:Trp K mg p)(N:Nat):FnOk P w K mg base CX0 3 f fd ["known","b","held"] (Zd8 K S N):=by
 have GS:FnOk P w K mg base CX0 2 p.fS p.dS ["tree"] (Zbh N):=Zcs G.S.F G.T G.TD G.KI G.P.F G.P.b G.P.m N
 have GN:FnOk P w K mg base CX0 1 p.fN p.dN ["known","node","held"] (Zd6 K S N):=Zhd G.N.F G.no N
 have GT:FnOk P w K mg base CX0 2 p.fT p.dT ["rows"] (Z8b K):=Zbu G.O.F G.T G.sorted G.any G.G
 obtain⟨tn,hNode⟩:=G.TD.node
 refine F.ok Zjl (fun vs H Q E h=>?_) (fun cdv A outer s H vs Q E hr h=>?_)
 ·obtain⟨ka,ha,v,t,h,ρ,kvs,rfl,_⟩:=h
  rfl
 ·obtain⟨ka,ha,v,t,h,ρ,kvs,rfl,hka,KN,hv,bf,hz,hha,UO,k⟩:=h
  have hsz:=sizeLine_eq
  have hr1:Room 1 _:=hr.mono (by decide)
  refine'⟨?tt,?body,?fin⟩
  case body=>
   refine' Z07 (Z0h (Z06 GT hr (by rfl) G.O.m G.O.F.kp G.O.b .nil Z0f (Z0b ?c Z02)))
   case c=>
    refine' Z1h (N':=["known","held","deed","node"]) (src:=[some 0,some 2,none,none]) ?k1 ?k5 ?k6 ?k7
    case k1=>rfl
    case k5=>exact Z0d (Z04 Z2f) rfl ["known","b","held"] rfl (by decide+kernel)
    case k6=>exact Z19 (Z06 GS hr (by rfl) G.S.m G.S.F.kp G.S.b .nil Z0f (Z0e (pv 1) Z02))
    case k7=>
     intro cl C ex s0 H0
     refine'⟨?g1,?g2,?g3⟩
     case g1=>exact Z4k (K:=K) (i:=2) (j:=3) rfl rfl Zm6 rfl (Or.inl rfl) rfl (Or.inl rfl) (Or.inr rfl) (Or.inr rfl)
     case g2=>exact Z37 (Z09 Z1f (pv 2) (Z3r (v:=.str "node") (by rfl) hNode ⟨tn,rfl⟩) (Z0i _))
     case g3=>exact Z06 GN hr1 (by rfl) G.N.m G.N.F.kp G.N.b .nil Z0f (Z0e (pv 0) (Z0e (pv 3) (Z0e (pv 1) Z02)))
  case fin=>
   refine⟨_,rfl,v,t,rfl,hv,bf.ok,hz,fun p ws H1 s1 hp0 hp hws=>?_⟩
   have hl:=IsThs.len _ hws
   rw[length_map] at hl
   have hlt:=Z3p t
   refine⟨p,rfl,⟨_,SqL.of hp⟩,Z0y (K:=K) (a:=p) (xs:=ws) (fun i ys σc H'=>∃(o o':Option V) (Ts:List Tr),σc = [some (.ref ka),some (.ref ha),o,o']/\Same H1 H'/\ys.length<=i/\IsTrs K H' ys Ts/\Each ((Z7e ((Z0s t).take i)).map (Z32 ρ h)) Ts)
    ⟨none,none,[],rfl,Same.refl _,Nat.le_refl _,⟨rfl,fun j x T q=>by simp at q⟩,by rw[take_zero];exact .nil⟩ (fun i ys σc H' ⟨_,_,_,_,e,_⟩=>SqL.of (e _ _ hp)) ?_ ?_⟩
   ·rintro i x ys σc H' hx hi ⟨o,o',Ts,rfl,s2,hyl,hTs,hE⟩
    obtain⟨u,hu,h1⟩:=Z1c _ hws hx
    rw[List.getElem?_map] at hu
    obtain⟨q,hq,rfl⟩:=Option.map_eq_some_iff.mp hu
    obtain⟨a,vs,rfl,ha',hvs⟩:=Z13 h1
    have hst:=Zel hq
    cases hvs with
    |cons c1 c2=>
     cases c2 with
     | @cons vn _ _ _ c3 c4=>
      cases c4
      obtain⟨rfl,_⟩:=Z1i c1
      refine⟨by omega,a,_,rfl,SqT.of (s2 _ _ ha'),rfl,_,_,rfl,_,_,rfl,rfl,_,rfl,rfl,_,rfl,Z1e (fun g=>?_) (fun g=>?_)⟩
      ·have hd:q.1="node":=Z2g g
       rw[if_pos hd] at hst
       have hmem:q.2∈ndsT t:=by
        rw[<- Z7c t]
        exact mem_map.mpr ⟨q,mem_filter.mpr ⟨mem_of_getElem? hq,decide_eq_true hd⟩,rfl⟩
       have s12:=s1.trans s2
       refine⟨_,rfl,_,rfl,_,rfl,ka,ha,vn,q.2,h,ρ,kvs,rfl,s12 _ _ hka,KN.kp (Kp.of s12),IsTh.kp (Kp.of s2) c3,Zd2 N bf _ hmem,SqT.of (s12 _ _ hha),fun v' T H2 s3 hT tr=>nx hi ⟨_,_,Ts ++ [T],rfl,s2.trans s3,by rw[length_append];show ys.length+1<=i+1;omega,(hTs.same s3).snoc hT,?_⟩⟩
       rw[hst,map_append]
       exact Each.snoc tr hE
      ·have hd:q.1≠"node":=Z1t g
       rw[if_neg hd,append_nil] at hst
       exact nx hi ⟨_,_,Ts,rfl,s2,by omega,hTs,by rw[hst];exact hE⟩
   ·rintro ys σc H' ⟨o,o',Ts,rfl,s2,hyl,hTs,hE⟩ q hq
    rw[take_of_length_le (by omega)] at hE
    have e:Z7e (Z0s t)=ndsT t:=Z7c t
    rw[e] at hE
    have sq:=Z01 (o:=.lst ys) hq
    have hU:=hE.inU fun L hL=>by
     obtain⟨n,hn,rfl⟩:=mem_map.mp hL
     exact Zd4 (Zd2 N bf n hn) UO.sn
    refine⟨q,ys,Ts,S.u,rfl,Z00,hTs.same sq,hU,UO.l,by omega,UO.n,fun p' T H2 s3 hT tg=>k p' T H2 ((s1.trans s2).trans (sq.trans s3)) hT ?_⟩
    have:=hE.of tg
    rwa [<- List.flatMap_def] at this
end
def Zav (K:W.Frag)(N:Nat):Sp:=fun vs H Q E=>∃S,Zd8 K S N vs H Q E
def Zm7 (N:Nat):Sp:=fun vs H Q E=>∃S,Zk9 S N vs H Q E
inductive spKnownTr_ (vs:List V)(H:Hp)(Q:VK):Prop
 |mk (v:V) (fs:List Fd) (m:Th) (U:List Str) (_:vs = [v]) (_:IsTh H v (prT fs m)) (_:FOk U fs) (_:fs.length<=3) (_:U.length<64) (_:(∀x∈U,Nm x)) (_:∀(p:Addr) (kvs:List (Key×V)) H',Same H H'->H' p=some (.dK kvs)->Known H' (nmS U fs) (Z4l fs) kvs->Q (.ref p) H'):spKnownTr_ vs H Q
def spKnownTr:Sp:=fun vs H Q _=>spKnownTr_ vs H Q
abbrev Zr1:List Str:=["program","known","name","params","body"]
structure TvF where
 p:TrF
 q:BrF
 fF:Addr
 fB:Addr
 fK:Addr
 dF:FuncData
 dB:FuncData
 dK:FuncData
structure Tvp (K:W.Frag)(mg:Str->Option Value)(y:TvF):Prop where
 T:Trp K mg y.p
 B:Brp K mg y.q
 F:Fn K mg "form_traits" Z2f ["known","b","held"] y.fF y.dF
 b:Fn K mg "bare" Zfx ["e"] y.fB y.dB
 K:Fn K mg "known_traits" Z2k ["program"] y.fK y.dK
section
variable {P:Program}{w:World}{K:W.Frag}{mg:Str->Option Value}{base:Heap}{y:TvF}
theorem scKnownTr:FnScope Zr1 ["program"] (Z04 Z2k):=.q
theorem Zem {f:Addr}{fd:FuncData}(F:Fun K "known_traits" "known_traits" Z2k f fd)(G:Tvp K mg y):FnOk P w K mg base CX0 6 f fd ["program"] spKnownTr:=by
 have GF:FnOk P w K mg base CX0 3 y.fF y.dF ["known","b","held"] (Zav K 4):=FnOk.ex fun S=>Zau G.F.F G.T 4
 have GB:FnOk P w K mg base CX0 5 y.fB y.dB ["e"] (Zm7 4):=FnOk.ex fun S=>Zls G.b.F G.B 4
 refine F.ok scKnownTr (fun vs H Q E h=>?_) (fun cdv A outer s H vs Q E hr h=>?_)
 ·obtain⟨v,fs,m,U,rfl,_⟩:=h
  rfl
 ·obtain⟨v,fs,m,U,rfl,hv,fo,hfl,hU,hUn,k⟩:=h
  have hsz:=sizeLine_eq
  have hu:=Zb3 hr
  have hr3:Room 3 _:=hr.mono (by decide)
  refine'⟨?tt,?body,?fin⟩
  case body=>
   refine' Z05 ?s1 (Z05 ?s2 (Z07 ?s3))
   case s1=>exact Z0a (i:=1) scKnownTr.nd rfl (Or.inl rfl) Z6b
   case s2=>
    refine' Z43 PassesOwn.never rfl (Z61 (Z0q Z0x (pv 0) Z03 (fun _ _=>rfl))) (Z4y rfl (Z17 (Z0l (i:=2) scKnownTr.nd rfl (Or.inl rfl)) (Z17 (Z0l (i:=3) scKnownTr.nd rfl (Or.inl rfl)) (Z17 (Z0l (i:=4) scKnownTr.nd rfl (Or.inl rfl)) Z3s)))) (Z07 ?b)
    case b=>exact Z2n hu (pv 1) (pv 2) (Z06 GF hr3 (by rfl) G.F.m G.F.F.kp G.F.b .nil Z0f (Z0e (pv 1) (Z2h (Z06 GB hr (by rfl) G.b.m G.b.F.kp G.b.b .nil Z0f (Z0e (pv 4) Z02)) (Z0e (pv 3) Z02)))) (by rfl)
   case s3=>exact Z0h (pv 1)
  case fin=>
   obtain⟨a,fa,fv,mv,rfl,ha,hfa,hfv⟩:=Zjk hv
   have hvl:=IsThs.len _ hfv
   rw[length_map] at hvl
   intro ko hko
   have s0:=Z01 (o:=.dK []) hko
   refine⟨_,rfl,a,_,_,_,rfl,rfl,SqT.of (s0 _ _ ha),Z1b _ _,fa,rfl,⟨_,SqT.of (s0 _ _ hfa)⟩,Zev (K:=K) (a:=fa) (xs:=fv) (fun i σ H'=>∃(kvs:List (Key×V)) (o2 o3 o4:Option V),σ = [some (.ref a),some (.ref ko),o2,o3,o4]/\H' ko=some (.dK kvs)/\Known H' (nmS U (fs.take i)) (Z4l (fs.take i)) kvs/\kvs.length<=i/\Same H H')
    ⟨[],none,none,none,rfl,Z00,(fun y hy=>by cases hy),Nat.le_refl _,s0⟩ (fun i σ H' _ ⟨_,_,_,_,_,_,_,_,s⟩=>SqT.of (s _ _ hfa)) ?_ ?_⟩
   ·rintro i x σ H1 hx ⟨kvs,o2,o3,o4,rfl,hko1,KN,hkl,s1⟩
    have hi:=(List.getElem?_eq_some_iff.mp hx).1
    obtain⟨t,ht,hxt⟩:=Z1c _ hfv hx
    rw[List.getElem?_map] at ht
    obtain⟨f,hf,rfl⟩:=Option.map_eq_some_iff.mp ht
    obtain⟨c,pa,bv,rfl,hc,hpa,hb⟩:=Zd7 hxt
    have g:=fo i f hf
    have hz:=Zpx 4 g.b
    have hc29:=g.c
    obtain⟨b1,b2⟩:=Z5w 4 g.b []
    have hz2:=Zoc 4 b1
    refine⟨c,_,rfl,SqT.of (s1 _ _ hc),rfl,_,_,rfl,_,_,rfl,_,_,rfl,rfl,?_⟩
    refine⟨_,rfl,_,rfl,_,bv,f.t,rfl,IsTh.kp (Kp.of s1) hb,g.b,by omega,fun v' H2 s2 hv'=>?_⟩
    have s12:=s1.trans s2
    have U0:UOk (nmS U (fs.take i)) (Z4l (fs.take i)):=⟨fun x _=>Zhc _ (fs.take i) rfl (fo.take i) x,hU,hUn⟩
    refine⟨_,rfl,_,ko,pa,v',brT f.t,f.ps,Z4l (fs.take i),kvs,rfl,s2 _ _ hko1,KN.kp (Kp.of s2),hv',b1,by show Th.sz (shT f.t [])<=100000;omega,s12 _ _ hpa,U0,fun q T H3 s3 hT tr=>?_⟩
    have hko3:=s3 _ _ (s2 _ _ hko1)
    refine⟨_,rfl,_,rfl,ko,_,rfl,DPut.k (k:=Sum.inr f.x) hko3 (by omega),?_⟩
    have kp:Kp H3 (upd H3 ko (.dK (Z3z kvs (Sum.inr f.x) (.ref q)))):=fun b o e hk=>by
     rw[Z0c (fun q=>by rw[q,hko3] at e;cases e;exact hk _ rfl)]
     exact e
    refine⟨_,_,_,_,rfl,Z00,?_,?_,fun b o e=>?_⟩
    ·rw[Zhf hf]
     exact((KN.kp (Kp.of (s2.trans s3))).kp kp).snoc (IsTh.kp kp hT) tr
    ·have:=Z9c kvs (Sum.inr f.x) (.ref q)
     omega
    ·rw[Z0c (fun q=>by rw[q,hko] at e;cases e)]
     exact(s12.trans s3) _ _ e
   ·rintro σ H1 ⟨kvs,o2,o3,o4,rfl,hko1,KN,hkl,s1⟩
    rw[take_of_length_le (Nat.le_of_eq hvl.symm)] at KN
    exact⟨_,rfl,k ko kvs H1 s1 hko1 KN⟩
end
inductive spTraits_ (N:Nat)(vs:List V)(H:Hp)(Q:VK):Prop
 |mk (v vb:V) (ha:Addr) (fs:List Fd) (m t:Th) (U h:List Str) (_:vs = [v,vb,.ref ha]) (_:IsTh H v (prT fs m)) (_:FOk U fs) (_:fs.length<=3) (_:U.length<64) (_:(∀x∈U,Nm x)) (_:IsTh H vb t) (_:BfT (nmS U fs) N t) (_:Th.sz t<=100000) (_:H ha=some (.tup (h.map V.str))) (_:∀(p:Addr) (T:Tr) H',Same H H'->IsTh H' (.ref p) (trT T)->TrOf (Z33 (Z4l fs) h t) T->Q (.ref p) H'):spTraits_ N vs H Q
def Zd9 (N:Nat):Sp:=fun vs H Q _=>spTraits_ N vs H Q
section
variable {P:Program}{w:World}{K:W.Frag}{mg:Str->Option Value}{base:Heap}{y:TvF}
theorem Zjm:FnScope ["program","b","held"] ["program","b","held"] (Z04 Z6t):=.q
theorem Zhg {f:Addr}{fd:FuncData}(F:Fun K "traits" "traits" Z6t f fd)(G:Tvp K mg y)(N:Nat):FnOk P w K mg base CX0 7 f fd ["program","b","held"] (Zd9 N):=by
 have GF:FnOk P w K mg base CX0 3 y.fF y.dF ["known","b","held"] (Zav K N):=FnOk.ex fun S=>Zau G.F.F G.T N
 have GK:FnOk P w K mg base CX0 6 y.fK y.dK ["program"] spKnownTr:=Zem G.K.F G
 refine F.ok Zjm (fun vs H Q E h=>?_) (fun cdv A outer s H vs Q E hr h=>?_)
 ·obtain⟨v,vb,ha,fs,m,t,U,h,rfl,_⟩:=h
  rfl
 ·obtain⟨v,vb,ha,fs,m,t,U,h,rfl,hv,fo,hfl,hU,hUn,hb,bf,hz,hha,k⟩:=h
  have hr3:Room 3 _:=hr.mono (by decide)
  refine'⟨?tt,?body,?fin⟩
  case body=>
   refine' Z07 ?s1
   case s1=>exact Z0h (Z06 GF hr3 (by rfl) G.F.m G.F.F.kp G.F.b .nil Z0f (Z2h (Z06 GK hr (by rfl) G.K.m G.K.F.kp G.K.b .nil Z0f (Z0e (pv 0) Z02)) (Z0e (pv 1) (Z0e (pv 2) Z02))))
  case fin=>
   refine⟨_,rfl,v,fs,m,U,rfl,hv,fo,hfl,hU,hUn,fun p kvs H1 s1 hp KN=>?_⟩
   exact⟨_,rfl,_,rfl,nmS U fs,p,ha,vb,t,h,Z4l fs,kvs,rfl,hp,KN,IsTh.kp (Kp.of s1) hb,bf,hz,s1 _ _ hha,⟨fun x _=>Zhc _ fs rfl fo x,hU,hUn⟩,fun q T H2 s2 hT tr=>k q T H2 (s1.trans s2) hT tr⟩
end
theorem Zog {B:List Str}{x:Str}(h:x∈B):(B.reverse)[B.length-1-lix B x]? = some x/\(∀m,m<B.length-1-lix B x->(B.reverse)[m]? ≠ some x)/\((B.length:Int)-1-(lix B x:Int))=((B.length-1-lix B x:Nat):Int):=by
 obtain⟨h1,h2,h3⟩:=Zk7 B h
 refine⟨?_,fun m hm=>?_,by omega⟩
 ·rw[List.getElem?_reverse (by omega),show B.length-1-(B.length-1-lix B x)=lix B x by omega]
  exact h2
 ·rw[List.getElem?_reverse (by omega)]
  exact h3 _ (by omega)
inductive spLawBare_ (S:SS)(N:Nat)(vs:List V)(H:Hp)(Q:VK):Prop
 |mk (v:V) (la:Addr) (t:Th) (B:List Str) (_:vs = [v,.ref la]) (_:IsTh H v t) (_:PfT S N t) (_:H la=some (.lst (B.map V.str))) (_:B.length+N<=1000) (_:∀(v':V) H',Same H H'->IsTh H' v' (shT t B)->Q v' H'):spLawBare_ S N vs H Q
def Zaw (S:SS)(N:Nat):Sp:=fun vs H Q _=>spLawBare_ S N vs H Q
theorem Zq1:(["_law_lets","_law_part"]:List Str).Nodup:=by decide+kernel
section
variable {S:SS}{P:Program}{w:World}{K:W.Frag}{mg:Str->Option Value}{base:Heap}
theorem Zax:FnScope ["_law_e","_law_lets"] ["_law_e","_law_lets"] (Z04 Z3v):=.q
theorem Z8d {f fP fW:Addr}{fd dP dW:FuncData}(F:Fn K mg "_law_bare" Z3v ["_law_e","_law_lets"] f fd)(U:HW K mg fP fW dP dW):
  ∀N,FnOk P w K mg base CX0 (N+2) f fd ["_law_e","_law_lets"] (Zaw S N):=by
 have GP:FnOk P w K mg base CX0 1 fP dP ["_law_e"] spLawParts:=Z22 U.P U.T U.KI
 have GW:FnOk P w K mg base CX0 1 fW dW ["_law_e","_law_inner"] spWith:=Zbe U.W U.T U.KI
 intro N
 induction N with
 |zero=>
  refine F.F.ok Zax (fun vs H Q E h=>?_) (fun cdv A outer s H vs Q E hr h=>?_)
  ·obtain⟨v,la,t,B,rfl,_⟩:=h
   rfl
  ·obtain⟨v,la,t,B,rfl,_,h,_⟩:=h
   exact h.elim
 |succ N ih=>
  refine F.F.ok Zax (fun vs H Q E h=>?_) (fun cdv A outer s H vs Q E hr h=>?_)
  ·obtain⟨v,la,t,B,rfl,_⟩:=h
   rfl
  ·obtain⟨v,la,t,B,rfl,hv,pf,hla,hBl,k⟩:=h
   have hsz:=sizeLine_eq
   have hr1:Room 1 _:=hr.mono (by omega)
   refine'⟨?tt,?body,?fin⟩
   case body=>
    refine' Z0g ?s1 ?r1
    case s1=>
     refine' Z11 ?c (Z07 ?b) Z0k
     case c=>exact(Z41 (Z09 Z1f (Z0q Z0x (pv 0) Z03 (fun _ _=>rfl)) Z08 (Z0i _)) (Z2v (Z09 Z1x (Z0q Z0x (pv 0) Z03 (fun _ _=>rfl)) (pv 1) (by with_unfolding_all rfl)))).pt
     case b=>exact Z0h (Z0v (Z18 Z08 (Z2h (Z8h PySem.F.plainAttrs_list PySem.F.slot_list_index PySem.F.type_list_index Zaj (Zfi (pv 1) (Zew Z9o Z03)) (Z0b (Z0q Z0x (pv 0) Z03 (fun _ _=>rfl)) Z02)) Z02)))
    case r1=>
     refine' Z05 ?s2 (Z07 ?s3)
     case s2=>
      refine' Z11 (Z09 Z1f (Z0q Z0x (pv 0) Z03 (fun _ _=>rfl)) Z08 (Z0i _)) (Z07 ?e3) Z0k
      case e3=>exact Z0h (Z0v (Z18 Z08 (Z2h (Z06 ih hr (by rfl) F.m F.F.kp F.b .nil Z0f (Z0b (Z0q Z0x (pv 0) Z03 (fun _ _=>rfl)) (Z0e (pv 1) Z02))) (Z2h (Z06 ih hr (by rfl) F.m F.F.kp F.b .nil Z0f (Z0b (Z0q Z0x (pv 0) Z03 (fun _ _=>rfl)) (Z0b (Z0m Z2d (pv 1) (Z14 (Z0b (Z0q Z0x (pv 0) Z03 (fun _ _=>rfl)) Z02))) Z02))) Z02))))
     case s3=>
      refine' Z0h (Z06 GW hr1 (by rfl) U.mW U.W.kp U.bW .nil Z0f (Z0e (pv 0) (Z0b ?c Z02)))
      case c=>
       refine' Z1h (N':=["_law_lets","_law_part"]) (src:=[some 1,none]) ?k1 ?k5 ?k6 ?k7
       case k1=>rfl
       case k5=>exact Z0d (Z04 Z3v) rfl ["_law_e","_law_lets"] rfl (by decide+kernel)
       case k6=>exact Z19 (Z06 GP hr1 (by rfl) U.mP U.P.kp U.bP .nil Z0f (Z0e (pv 0) Z02))
       case k7=>exact fun cl C ex s0 H0=>⟨Z0l (i:=1) Zq1 rfl (Or.inl rfl),Z1q,Z06 ih hr (by rfl) F.m F.F.kp F.b .nil Z0f (Z0e (pv 1) (Z0e (pv 0) Z02))⟩
   case fin=>
    obtain⟨w0,hd,ks,rfl,h1,h2,h3,h4,h5,h6⟩:=pf
    have nk:∀y∈ks,L2.isTup y=true:=fun y hy=>(h6 y hy).isTup
    have sh:=h4.sh
    have hvt:IsTh H v (.tup (.at (.str w0)::(hd.map Th.at++ks))):=hv
    obtain⟨a,vs,rfl,ha,hvs⟩:=Z13 hvt
    obtain⟨vr,rfl,hvr⟩:∃vr,vs = .str w0::vr/\IsThs H vr (hd.map Th.at++ks):=by
     cases hvs with
     |cons c1 c2=>
      obtain⟨rfl,_⟩:=Z1i c1
      exact⟨_,rfl,c2⟩
    have second:∀x,hd = [.str x]->∃vr2,vr = .str x::vr2/\IsThs H vr2 ks:=fun x e=>by
     subst e
     cases hvr with
     |cons c1 c2=>
      obtain⟨rfl,_⟩:=Z1i c1
      exact⟨_,rfl,c2⟩
    refine⟨fun σ' H'=>σ' = [some (.ref a),some (.ref la)]/\H'=H/\¬ (w0="name"/\nm (nd w0 hd ks)∈B),?_,?_⟩
    ·refine⟨_,rfl,a,_,_,_,rfl,rfl,SqT.of ha,Z1b _ _,rfl,_,rfl,Z1e (fun g=>?_) (fun g=>Za2 ⟨rfl,rfl,fun q=>Z1t g q.1⟩)⟩
     have hw:=Z2g g
     subst hw
     obtain⟨x,rfl⟩:=h4.st (.inr rfl)
     obtain⟨vr2,rfl,_⟩:=second x rfl
     have hk0:ks = []:=eq_nil_of_length_eq_zero sh.leaf0
     subst hk0
     refine⟨_,rfl,a,_,_,.str x,rfl,rfl,SqT.of ha,Z12 _ _ _,_,rfl,la,_,rfl,.inl (SqL.of hla),rfl,Z5y _,_,rfl,Z1e (fun g=>?_) (fun g=>⟨rfl,rfl,fun q=>g ((Z1n x B).mpr q.2)⟩)⟩
     have hxB:x∈B:=(Z1n x B).mp g
     obtain⟨q1,q2,q3⟩:=Zog hxB
     rw[Zkd hxB,q3] at k
     refine⟨_,rfl,_,rfl,rfl,la,_,rfl,SqL.of hla,fun rp hrp=>?_⟩
     have s1:=Z01 (o:=.lst (B.map V.str).reverse) hrp
     refine⟨.inl ⟨rfl,_,SqL.of Z00⟩,_,rfl,a,_,_,.str x,rfl,rfl,SqT.of (s1 _ _ ha),Z12 _ _ _,rp,B.reverse,x,_,rfl,rfl,by rw[Z00,List.map_reverse],q1,q2,(by show 2<=sizeLine;decide),fun p hp=>?_⟩
     exact k (.ref p) _ (s1.trans (Z01 hp)) (.tup Z00 (.cons (.at (by decide+kernel)) (.cons (.at rfl) .nil)))
    rintro σ1 H1 ⟨rfl,rfl,hnb⟩
    refine⟨_,rfl,a,_,_,_,rfl,rfl,SqT.of ha,Z1b _ _,rfl,_,rfl,Z1e (fun g=>?_) (fun g=>?_)⟩
    ·have hw:=Z2g g
     subst hw
     obtain⟨⟨x,rfl⟩,hk2⟩:=h3 rfl
     obtain⟨vr2,rfl,hv2⟩:=second x rfl
     match ks,hk2,h6,hv2 with
     |[ka,kb],_,h6,hv2=>
      have pa:=h6 ka (by simp)
      have pb:=h6 kb (by simp)
      cases hv2 with
      | @cons va vr3 _ _ da db=>
       cases db with
       | @cons vb vr4 _ _ db1 db2=>
        cases db2
        rw[Zgu pa.isTup pb.isTup] at k
        refine⟨_,rfl,a,_,_,va,rfl,rfl,SqT.of ha,Zqf _ _ _ _,_,rfl,va,la,ka,B,rfl,da,pa,hla,by omega,fun v3 H3 s3 hv3=>?_⟩
        have ha3:=s3 _ _ ha
        refine⟨_,rfl,a,_,_,vb,rfl,rfl,SqT.of ha3,Zoq _ _ _ _ _,_,rfl,_,rfl,a,_,_,.str x,rfl,rfl,SqT.of ha3,Z12 _ _ _,(by show 1<=sizeLine;decide),fun p1 hp1=>?_⟩
        have s4:=Z01 (o:=.lst [.str x]) hp1
        refine⟨la,p1,_,_,rfl,rfl,s4 _ _ (s3 _ _ hla),Z00,by rw[length_map];show B.length+1<=sizeLine;omega,fun p2 hp2=>?_⟩
        have s5:=Z01 (o:=.lst (B.map V.str ++ [.str x])) hp2
        have s35:=(s3.trans s4).trans s5
        refine⟨vb,p2,kb,B ++ [x],rfl,IsTh.kp (Kp.of s35) db1,pb,by rw[Z00,map_append];rfl,by rw[length_append,length_singleton];omega,fun v4 H4 s6 hv4=>⟨(by show 3<=sizeLine;decide),fun p hp=>?_⟩⟩
        have sp:=Z01 (o:=.tup [.str "let",v3,v4]) hp
        exact k (.ref p) _ (s35.trans (s6.trans sp)) (.tup Z00 (.cons (.at (by decide+kernel)) (.cons (IsTh.kp (Kp.of ((s4.trans s5).trans (s6.trans sp))) hv3) (.cons (IsTh.kp (Kp.of sp) hv4) .nil))))
    have hwl:=Z1t g
    rw[Zhb nk hwl hnb] at k
    refine⟨_,rfl,_,rfl,.ref a,w0,hd.map Th.at++ks,rfl,hvt,by rw[length_append,length_map];omega,fun p ws H2 s2 hp0 hp hws=>?_⟩
    rw[Z4b nk] at hws
    have hl:=IsThs.len _ hws
    refine⟨p,rfl,⟨_,SqL.of hp⟩,Z0y (K:=K) (a:=p) (xs:=ws) (fun i ys σc H'=>∃(o:Option V),σc = [some (.ref la),o]/\ys.length=i/\IsThs H' ys ((ks.take i).map fun k=>shT k B)/\Same H2 H')
     ⟨none,rfl,rfl,by rw[take_zero];exact .nil,Same.refl _⟩ (fun i ys σc H' ⟨_,_,_,_,e⟩=>SqL.of (e _ _ hp)) ?_ ?_⟩
    ·rintro i x ys σc H3 hx hi ⟨o,rfl,hyl,hys,s3⟩
     obtain⟨t,ht,hxt⟩:=Z1c _ hws hx
     have pt:=h6 t (mem_of_getElem? ht)
     refine⟨by omega,_,rfl,_,rfl,x,la,t,B,rfl,IsTh.kp (Kp.of s3) hxt,pt,s3 _ _ (s2 _ _ hla),by omega,fun v4 H4 s4 hv4=>nx hi ⟨_,rfl,by rw[length_append,hyl];rfl,?_,s3.trans s4⟩⟩
     rw[take_add_one,ht,map_append]
     exact IsThs.app _ (IsThs.kp (Kp.of s4) hys) (.cons hv4 .nil)
    ·rintro ys σc H3 ⟨o,rfl,hyl,hys,s3⟩ l hl'
     rw[take_of_length_le (by omega)] at hys
     have sl:=Z01 (o:=.lst ys) hl'
     have sA:=s2.trans (s3.trans sl)
     refine⟨.ref a,l,_,_,ys,rfl,IsTh.kp (Kp.of sA) hvt,by rw[length_cons,length_append,length_map];omega,Z00,IsThs.kp (Kp.of sl) hys,by rw[length_map];omega,fun q H4 s4 hq=>?_⟩
     rw[Z8y nk] at hq
     exact k (.ref q) H4 (sA.trans s4) hq
end
def snT (q:Th×List Str):Th:=.tup [q.1,Zm4 q.2]
def Called (H:Hp)(fs:List Fd)(kvs:List (Key×V)):Prop:=∀(i:Nat) (f:Fd),fs[i]? = some f->∃(c pa:Addr) (bv:V),Z2m kvs (Sum.inr f.x)=some (.ref c)/\H c=some (.tup [.ref pa,bv])/\H pa=some (.tup (f.ps.map V.str))/\IsTh H bv (shT f.t [])
theorem Called.kp {H H':Hp}{fs:List Fd}{kvs:List (Key×V)}(h:Called H fs kvs)(k:Kp H H'):Called H' fs kvs:=fun i f hf=>
 let ⟨c,pa,bv,e,h1,h2,h3⟩:=h i f hf
 ⟨c,pa,bv,e,k _ _ h1 (fun _ z=>by cases z),k _ _ h2 (fun _ z=>by cases z),IsTh.kp k h3⟩
theorem Called.take {H:Hp}{fs:List Fd}{kvs:List (Key×V)}(h:Called H fs kvs)(j:Nat):Called H (fs.take j) kvs:=fun i f hf=>by
 rw[List.getElem?_take] at hf
 split at hf
 ·exact h i f hf
 ·cases hf
theorem Zoh {U:List Str}:∀(k:Nat) (fs:List Fd),fs.length=k->FOk U fs->∀(i:Nat) (f:Fd),fs[i]? = some f->Z4l fs f.x=Z33 (Z4l (fs.take i)) f.ps (shT f.t []):=by
 intro k
 induction k with
 |zero=>
  intro fs hk _ i f hf
  have:fs = []:=eq_nil_of_length_eq_zero hk
  subst this
  simp at hf
 |succ k ih=>
  intro fs hk F i f hf
  obtain⟨gs,g,rfl⟩:∃gs f,fs=gs ++ [f]:=⟨fs.dropLast,fs.getLast (by intro e;rw[e] at hk;cases hk),(dropLast_concat_getLast _).symm⟩
  have hg:gs.length=k:=by rw[length_append,length_singleton] at hk;omega
  have G:FOk U gs:=by
   have:=F.take gs.length
   rwa [take_left] at this
  have Fg:=F gs.length g (by rw[List.getElem?_append_right (Nat.le_refl _),Nat.sub_self];rfl)
  rw[take_left] at Fg
  rw[Z4f]
  by_cases hi:i<gs.length
  ·rw[List.getElem?_append_left hi] at hf
   have hne:f.x≠g.x:=fun e=>Fg.d (by rw[<- e];exact mem_map.mpr ⟨f,mem_of_getElem? hf,rfl⟩)
   simp only [if_neg hne]
   rw[take_append_of_le_length (by omega)]
   exact ih gs hg G i f hf
  ·have hii:i=gs.length:=by
    have:=(List.getElem?_eq_some_iff.mp hf).1
    rw[length_append,length_singleton] at this
    omega
   subst hii
   rw[List.getElem?_append_right (Nat.le_refl _),Nat.sub_self] at hf
   cases hf
   rw[take_left]
   simp
def Zda (Q:V->Hp->Prop)(H:Hp)(L:Sn):Prop:=∀(p:Addr) (ws:List V) H',Same H H'->H' p=some (.lst ws)->IsThs H' ws (L.map snT)->Q (.ref p) H'
structure SeenIn (N:Nat)(H:Hp)(v:V)(ha ca:Addr)(t:Th)(h:List Str)(fs:List Fd)(U:List Str)(kvs:List (Key×V)):Prop where
 iv:IsTh H v t
 ib:BfT (nmS U fs) N t
 ih:H ha=some (.tup (h.map V.str))
 ihn:∀x∈h,Nm x
 ic:H ca=some (.dK kvs)
 iC:Called H fs kvs
 iF:FOk U fs
 iz:(Z33 (Z4l fs) h t).length<=16000000
inductive spSeen_ (k N:Nat)(vs:List V)(H:Hp)(Q:VK):Prop
 |mk (v:V) (ha ca:Addr) (t:Th) (h:List Str) (fs:List Fd) (U:List Str) (kvs:List (Key×V)) (_:vs = [v,.ref ha,.ref ca]) (_:fs.length<=k) (_:SeenIn N H v ha ca t h fs U kvs) (_:Zda Q H (Z33 (Z4l fs) h t)):spSeen_ k N vs H Q
def Zdb (k N:Nat):Sp:=fun vs H Q _=>spSeen_ k N vs H Q
inductive spSeenLt_ (k:Nat)(vs:List V)(H:Hp)(Q:VK):Prop
 |mk (v:V) (ha ca:Addr) (t:Th) (h:List Str) (fs:List Fd) (U:List Str) (kvs:List (Key×V)) (_:vs = [v,.ref ha,.ref ca]) (_:fs.length<k) (_:SeenIn 4 H v ha ca t h fs U kvs) (_:Zda Q H (Z33 (Z4l fs) h t)):spSeenLt_ k vs H Q
def Zdc (k:Nat):Sp:=fun vs H Q _=>spSeenLt_ k vs H Q
theorem Zq2 {ks:List Th}{g:Th->Sn}{i:Nat}:((ks.take i).flatMap g).length<=(ks.flatMap g).length:=by
 have e:ks.flatMap g=(ks.take i).flatMap g++(ks.drop i).flatMap g:=by rw[<- flatMap_append,take_append_drop]
 rw[e,length_append]
 omega
theorem Zoi {ks:List Th}{g:Th->Sn}{i:Nat}{k:Th}(h:ks[i]? = some k):(ks.take (i+1)).flatMap g=(ks.take i).flatMap g++g k:=by
 rw[take_add_one,h,flatMap_append]
 simp
abbrev Zq3:List Str:=["_law_b","_law_holds","_law_called_here","_law_found","_law_params","_law_body","_law_part"]
abbrev Zay:List Str:=["_law_b","_law_holds","_law_called_here"]
section
variable {P:Program}{w:World}{K:W.Frag}{mg:Str->Option Value}{base:Heap}
theorem scSeen:FnScope Zq3 Zay (Z04 Ze1):=.q
theorem Zaz {f fP fW:Addr}{fd dP dW:FuncData}(F:Fn K mg "_law_seen" Ze1 Zay f fd)(X:HW K mg fP fW dP dW)(k c:Nat)(GB:FnOk P w K mg base CX0 c f fd Zay (Zdc k)):
  ∀N,FnOk P w K mg base CX0 (c+N+2) f fd Zay (Zdb k N):=by
 have GP:FnOk P w K mg base CX0 1 fP dP ["_law_e"] spLawParts:=Z22 X.P X.T X.KI
 intro N
 induction N with
 |zero=>
  refine F.F.ok scSeen (fun vs H Q E h=>?_) (fun cdv A outer s H vs Q E hr h=>?_)
  ·obtain⟨v,ha,ca,t,h,fs,U,kvs,rfl,_⟩:=h
   rfl
  ·obtain⟨v,ha,ca,t,h,fs,U,kvs,rfl,_,I,_⟩:=h
   exact I.ib.elim
 |succ N ih=>
  refine F.F.ok scSeen (fun vs H Q E h=>?_) (fun cdv A outer s H vs Q E hr h=>?_)
  ·obtain⟨v,ha,ca,t,h,fs,U,kvs,rfl,_⟩:=h
   rfl
  ·obtain⟨v,ha,ca,t,h,fs,U,kvs,rfl,hk,I,kk⟩:=h
   have hsz:=sizeLine_eq
   have hr1:Room 1 _:=hr.mono (by omega)
   have hrc:Room c _:=hr.mono (by omega)
   have hu:(_:Around).units+1<cLine:=Nat.lt_of_le_of_lt (Nat.add_le_add_left (by decide) _) hr1.units
   refine'⟨?tt,?body,?fin⟩
   case body=>
    refine' Z05 ?s1 ?r1
    case s1=>exact Z0a (i:=3) scSeen.nd rfl (Or.inl rfl) (Z14 (Z9g (Z0v (Z0e (pv 0) (Z0e (pv 1) Z02))) Z02))
    case r1=>
     refine' Z0g ?s2 (Z05 ?s3 (Z07 ?s4))
     case s2=>
      refine' Z11 (Z09 Z1f (Z0q Z0x (pv 0) Z03 (fun _ _=>rfl)) Z08 (Z0i _)) (Z05 ?e1 (Z07 ?e2)) Z0k
      case e1=>exact Z9m (Z0t hu (pv 2) (Z0q Z0x (pv 0) Z03 (fun _ _=>rfl)) (fun _ _=>rfl)) (Z4y rfl (Z17 (Z0l (i:=4) scSeen.nd rfl (Or.inl rfl)) (Z17 (Z0l (i:=5) scSeen.nd rfl (Or.inl rfl)) Z3s)))
      case e2=>exact Z0a (i:=3) scSeen.nd rfl (Or.inl rfl) (Z0m Z2d (pv 3) (Z06 GB hrc (by rfl) F.m F.F.kp F.b .nil Z0f (Z0e (pv 5) (Z0e (pv 4) (Z0e (pv 2) Z02)))))
     case s3=>
      refine' Z43 PassesOwn.never rfl (Z19 (Z06 GP hr1 (by rfl) X.mP X.P.kp X.bP .nil Z0f (Z0e (pv 0) Z02))) (Z0l (i:=6) scSeen.nd rfl (Or.inl rfl)) (Z07 ?b)
      case b=>exact Z0a (i:=3) scSeen.nd rfl (Or.inl rfl) (Z0m Z2d (pv 3) (Z06 ih hr (by rfl) F.m F.F.kp F.b .nil Z0f (Z0e (pv 6) (Z0e (pv 1) (Z0e (pv 2) Z02)))))
     case s4=>exact Z0h (pv 3)
   case fin=>
    obtain⟨hv,bf,hha,hhn,hca,hC,hF,hzz⟩:=I
    obtain⟨w0,hd,ks,rfl,h1,h2,h3,h4,h5,h6⟩:=bf
    rw[Zm3] at kk hzz
    have nk:∀y∈ks,L2.isTup y=true:=fun y hy=>(h6 y hy).isTup
    have hvt:IsTh H v (.tup (.at (.str w0)::(hd.map Th.at++ks))):=hv
    obtain⟨a,vs,rfl,ha',hvs⟩:=Z13 hvt
    obtain⟨vr,rfl,hvr⟩:∃vr,vs = .str w0::vr/\IsThs H vr (hd.map Th.at++ks):=by
     cases hvs with
     |cons c1 c2=>
      obtain⟨rfl,_⟩:=Z1i c1
      exact⟨_,rfl,c2⟩
    refine⟨_,rfl,_,rfl,(by show 2<=sizeLine;decide),fun c1 hc1=>⟨(by show 1<=sizeLine;decide),fun l1 hl1=>?_⟩⟩
    have s1:=Z01 (o:=.tup [.ref a,.ref ha]) hc1
    have s2:=Z01 (o:=.lst [.ref c1]) hl1
    have s12:=s1.trans s2
    have hl1':upd (upd H c1 (.tup [.ref a,.ref ha])) l1 (.lst [.ref c1]) l1=some (.lst [.ref c1]):=Z00
    have hc1':=s2 _ _ (Z00 (a:=c1) (o:=.tup [.ref a,.ref ha]) (H:=H))
    generalize upd (upd H c1 (.tup [.ref a,.ref ha])) l1 (.lst [.ref c1])=H1 at s2 s12 hl1' hc1'
    have one:IsTh H1 (.ref c1) (snT (nd w0 hd ks,h)):=.tup hc1' (.cons (IsTh.kp (Kp.of s12) hv) (.cons (.tup (s12 _ _ hha) (Z5x hhn)) .nil))
    have ha1:=s12 _ _ ha'
    have hlen0:(Z32 (Z4l fs) h (nd w0 hd ks)).length+(ks.flatMap (Z33 (Z4l fs) h)).length<=16000000:=by rwa [length_append] at hzz
    refine⟨fun σ' H'=>∃(p:Addr) (ws:List V) (o4 o5:Option V),σ' = [some (.ref a),some (.ref ha),some (.ref ca),some (.ref p),o4,o5,none]/\Same H H'/\H' p=some (.lst ws)/\IsThs H' ws ((Z32 (Z4l fs) h (nd w0 hd ks)).map snT),?_,?_⟩
    ·refine⟨_,rfl,a,_,_,_,rfl,rfl,SqT.of ha1,Z1b _ _,rfl,_,rfl,Z1e (fun g=>?_) (fun g=>?_)⟩
     ·have hw:=Z2g g
      subst hw
      obtain⟨x,rfl,hxS⟩:∃x,hd = [.str x]/\x∈nmL fs:=by
       generalize ks.length=m at h4
       cases h4 with
       |call a _ _=>exact⟨_,rfl,a⟩
      obtain⟨vr2,rfl⟩:∃vr2,vr = .str x::vr2:=by
       cases hvr with
       |cons c1 c2=>
        obtain⟨rfl,_⟩:=Z1i c1
        exact⟨_,rfl⟩
      obtain⟨f',hf',rfl⟩:=mem_map.mp hxS
      obtain⟨i,hi⟩:=List.getElem?_of_mem hf'
      have hil:=(List.getElem?_eq_some_iff.mp hi).1
      obtain⟨c,pa,bv,hval,hc,hpa,hbv⟩:=hC i f' hi
      have FO:=hF i f' hi
      have er:=Zoh _ fs rfl hF i f' hi
      have en:Z32 (Z4l fs) h (nd "call" [.str f'.x] ks)=(nd "call" [.str f'.x] ks,h)::Z33 (Z4l (fs.take i)) f'.ps (shT f'.t []):=by
       rw[<- er]
       unfold Z32
       rw[Z98,if_pos rfl]
       rfl
      rw[en,length_cons] at hlen0
      have hg':=DGet.k (k:=Sum.inr f'.x) (s12 _ _ hca)
      rw[hval] at hg'
      refine⟨_,rfl,_,rfl,a,_,_,.str f'.x,rfl,rfl,SqT.of ha1,Z12 _ _ _,ca,_,rfl,hg',c,_,rfl,SqT.of (s12 _ _ hc),rfl,_,_,rfl,_,_,rfl,rfl,?_⟩
      refine⟨_,rfl,_,rfl,_,rfl,_,rfl,bv,pa,ca,shT f'.t [],f'.ps,fs.take i,U,kvs,rfl,by rw[length_take];omega,⟨IsTh.kp (Kp.of s12) hbv,(Z5w 4 FO.b []).1,s12 _ _ hpa,fun y hy=>(FO.p y hy).1,s12 _ _ hca,(hC.kp (Kp.of s12)).take i,hF.take i,by omega⟩,fun p ws H2 s3 hp hws=>?_⟩
      have hwl:=IsThs.len _ hws
      rw[length_map] at hwl
      refine⟨l1,p,_,_,rfl,rfl,s3 _ _ hl1',hp,by rw[hwl];show 1+_<=sizeLine;omega,fun q hq=>?_⟩
      have sq:=Z01 (o:=.lst ([.ref c1]++ws)) hq
      refine⟨q,_,_,_,rfl,s12.trans (s3.trans sq),Z00,?_⟩
      rw[en,map_cons]
      exact .cons (IsTh.kp (Kp.of (s3.trans sq)) one) (IsThs.kp (Kp.of sq) hws)
     ·have hw:=Z1t g
      refine⟨l1,_,_,_,rfl,s12,hl1',?_⟩
      have en:Z32 (Z4l fs) h (nd w0 hd ks) = [(nd w0 hd ks,h)]:=by unfold Z32;rw[Z98,if_neg hw]
      rw[en]
      exact .cons one .nil
    rintro σ2 H2 ⟨p,ws,o4,o5,rfl,s3,hp,hws⟩
    refine⟨_,rfl,.ref a,w0,hd.map Th.at++ks,rfl,IsTh.kp (Kp.of s3) hvt,by rw[length_append,length_map];omega,fun pl us H3 s4 hpl0 hpl hus=>?_⟩
    rw[Z4b nk] at hus
    have hul:=IsThs.len _ hus
    have s34:=s3.trans s4
    refine⟨pl,rfl,⟨_,SqL.of hpl⟩,Zbz (K:=K) (a:=pl) (xs:=us) (fun i σ H'=>∃(p:Addr) (ws:List V) (o6:Option V),σ = [some (.ref a),some (.ref ha),some (.ref ca),some (.ref p),o4,o5,o6]/\Same H3 H'/\H' p=some (.lst ws)/\IsThs H' ws ((Z32 (Z4l fs) h (nd w0 hd ks)++(ks.take i).flatMap (Z33 (Z4l fs) h)).map snT))
     ⟨p,ws,none,rfl,Same.refl _,s4 _ _ hp,by rw[take_zero];rw[List.flatMap_nil,append_nil];exact IsThs.kp (Kp.of s4) hws⟩ (fun i σ H' _ ⟨_,_,_,_,s,_⟩=>SqL.of (s _ _ hpl)) ?_ ?_⟩
    ·rintro i x σ H4 hx ⟨p,ws,o6,rfl,s5,hp,hws⟩
     obtain⟨t,ht,hxt⟩:=Z1c _ hus hx
     have s35:=s34.trans s5
     have e1:=Zoi (g:=Z33 (Z4l fs) h) ht
     have e2:=Zq2 (ks:=ks) (g:=Z33 (Z4l fs) h) (i:=i+1)
     rw[e1,length_append] at e2
     refine⟨_,rfl,_,rfl,_,rfl,_,rfl,x,ha,ca,t,h,fs,U,kvs,rfl,hk,⟨IsTh.kp (Kp.of s5) hxt,h6 t (mem_of_getElem? ht),s35 _ _ hha,hhn,s35 _ _ hca,hC.kp (Kp.of s35),hF,by omega⟩,fun p2 ws2 H5 s6 hp2 hws2=>?_⟩
     have hwl:=IsThs.len _ hws
     have hwl2:=IsThs.len _ hws2
     rw[length_map,length_append] at hwl
     rw[length_map] at hwl2
     refine⟨p,p2,_,_,rfl,rfl,s6 _ _ hp,hp2,by omega,fun q hq=>?_⟩
     have sq:=Z01 (o:=.lst (ws++ws2)) hq
     refine⟨q,_,_,rfl,s5.trans (s6.trans sq),Z00,?_⟩
     rw[e1,<- append_assoc,map_append]
     exact IsThs.app _ (IsThs.kp (Kp.of (s6.trans sq)) hws) (IsThs.kp (Kp.of sq) hws2)
    ·rintro σ H4 ⟨p,ws,o6,rfl,s5,hp,hws⟩
     rw[take_of_length_le (by omega)] at hws
     exact⟨_,rfl,kk p ws H4 (s34.trans s5) hp hws⟩
theorem Zm8 {f fP fW:Addr}{fd dP dW:FuncData}(F:Fn K mg "_law_seen" Ze1 Zay f fd)(X:HW K mg fP fW dP dW):∀k N,FnOk P w K mg base CX0 (6*k+1+N+2) f fd Zay (Zdb k N):=by
 intro k
 induction k with
 |zero=>exact Zaz F X 0 1 ⟨fun vs H Q E ⟨_,_,_,_,_,_,_,_,_,q,_,_⟩=>absurd q (Nat.not_lt_zero _),fun A outer s H args us vs Q E hr he hb hv ⟨_,_,_,_,_,_,_,_,_,q,_,_⟩=>absurd q (Nat.not_lt_zero _)⟩
 |succ k ih=>
  have g:=ih 4
  have lt:∀vs H Q E,Zdc (k+1) vs H Q E->Zdb k 4 vs H Q E:=fun vs H Q E ⟨v,ha,ca,t,h,fs,U,kvs,e,q,r,u⟩=>⟨v,ha,ca,t,h,fs,U,kvs,e,Nat.le_of_lt_succ q,r,u⟩
  exact Zaz F X (k+1) (6*k+1+4+2) ⟨fun vs H Q E q=>g.len vs H Q E (lt _ _ _ _ q),fun A outer s H args us vs Q E hr he hb hv q=>g.run A outer s H args us vs Q E hr he hb hv (lt _ _ _ _ q)⟩
end
def Zoj (U:List Str)(n:Th):Prop:=∃(S:SS) (N:Nat),S.u=U/\N<=10/\BfT S N n
theorem Zdd {S:SS}{N:Nat}{t:Th}{h:List Str}{ρ : Str->Sn}(hN:N<=10)(b:BfT S N t)(hρ : ∀x,∀q ∈ ρ x,Zoj S.u q.1):∀q∈Z33 ρ h t,Zoj S.u q.1:=by
 intro q hq
 obtain⟨x,hx,hz⟩:=mem_flatMap.mp hq
 unfold Z32 at hz
 rcases mem_cons.mp hz with z|z
 ·rw[z];exact⟨S,N,rfl,hN,Zd2 N b x hx⟩
 ·split at z
  ·exact hρ _ q z
  ·cases z
theorem Zm9 {U:List Str}:∀(k:Nat) (fs:List Fd),fs.length=k->FOk U fs->∀x,∀q∈Z4l fs x,Zoj U q.1:=by
 intro k
 induction k with
 |zero=>
  intro fs hk _ x q hq
  have:fs = []:=eq_nil_of_length_eq_zero hk
  subst this
  cases hq
 |succ k ih=>
  intro fs hk F x
  obtain⟨gs,f,rfl⟩:∃gs f,fs=gs ++ [f]:=⟨fs.dropLast,fs.getLast (by intro e;rw[e] at hk;cases hk),(dropLast_concat_getLast _).symm⟩
  have hg:gs.length=k:=by rw[length_append,length_singleton] at hk;omega
  have G:FOk U gs:=by
   have:=F.take gs.length
   rwa [take_left] at this
  have Ff:=F gs.length f (by rw[List.getElem?_append_right (Nat.le_refl _),Nat.sub_self];rfl)
  rw[take_left] at Ff
  rw[Z4f]
  show ∀q∈(if x=f.x then _ else _),_
  split
  ·exact Zdd (S:=nmS U gs) (by decide) (Z5w 4 Ff.b []).1 fun y=>ih gs hg G y
  ·exact ih gs hg G x
theorem Zjn {ρ : Str->Sn}{h:List Str}{n:Th}{m:Nat}(hρ : ∀x,(ρ x).length<=m):(Z32 ρ h n).length<=m+1:=by
 unfold Z32
 rw[length_cons]
 split
 ·have:=hρ (nm n);omega
 ·show 0+1<=_;omega
theorem Zde {ρ : Str->Sn}{h:List Str}{t:Th}{m:Nat}(hρ : ∀x,(ρ x).length<=m):(Z33 ρ h t).length<=cnt t*(m+1):=by
 have:=Z8a (f:=Z32 ρ h) (l:=ndsT t) (m:=m+1) fun x _=>Zjn hρ
 rwa [Zh9] at this
def mB:Nat->Nat
 | 0=>0
 |k+1=>29*(mB k+1)
theorem Zok:∀k,mB k<=mB (k+1)
 | 0=>Nat.zero_le _
 |k+1=>by
  have:=Zok k
  show 29*(mB k+1)<=29*(mB (k+1)+1)
  omega
theorem Zma {U:List Str}:∀(k:Nat) (fs:List Fd),fs.length=k->FOk U fs->∀x,(Z4l fs x).length<=mB k:=by
 intro k
 induction k with
 |zero=>
  intro fs hk _ x
  have:fs = []:=eq_nil_of_length_eq_zero hk
  subst this
  exact Nat.le_refl _
 |succ k ih=>
  intro fs hk F x
  obtain⟨gs,f,rfl⟩:∃gs f,fs=gs ++ [f]:=⟨fs.dropLast,fs.getLast (by intro e;rw[e] at hk;cases hk),(dropLast_concat_getLast _).symm⟩
  have hg:gs.length=k:=by rw[length_append,length_singleton] at hk;omega
  have G:FOk U gs:=by
   have:=F.take gs.length
   rwa [take_left] at this
  have Ff:=F gs.length f (by rw[List.getElem?_append_right (Nat.le_refl _),Nat.sub_self];rfl)
  rw[take_left] at Ff
  rw[Z4f]
  show(if x=f.x then _ else _:Sn).length<=_
  split
  ·have h1:=Zde (h:=f.ps) (t:=shT f.t []) (ih gs hg G)
   rw[(Z5w 4 Ff.b []).2] at h1
   exact Nat.le_trans h1 (Nat.mul_le_mul_right _ Ff.c)
  ·exact Nat.le_trans (ih gs hg G x) (Zok k)
theorem mB3 {k:Nat}(h:k<=3):mB k<=25259:=by
 match k,h with
 | 0,_=>decide+kernel
 | 1,_=>decide+kernel
 | 2,_=>decide+kernel
 | 3,_=>decide+kernel
theorem Called.snoc {H:Hp}{fs:List Fd}{f:Fd}{kvs:List (Key×V)}{c pa:Addr}{bv:V}(h:Called H fs kvs)(hn:f.x∉nmL fs)(hc:H c=some (.tup [.ref pa,bv]))(hp:H pa=some (.tup (f.ps.map V.str)))(hb:IsTh H bv (shT f.t [])):Called H (fs ++ [f]) (Z3z kvs (Sum.inr f.x) (.ref c)):=by
 intro i g hg
 by_cases hi:i<fs.length
 ·rw[List.getElem?_append_left hi] at hg
  obtain⟨c',pa',bv',e,q⟩:=h i g hg
  have hne:g.x≠f.x:=fun z=>hn (by rw[<- z];exact mem_map.mpr ⟨g,mem_of_getElem? hg,rfl⟩)
  exact⟨c',pa',bv',by rw[Z20,if_neg (by intro q;injection q with q;exact hne q)];exact e,q⟩
 ·rw[List.getElem?_append_right (by omega)] at hg
  cases hz:i-fs.length with
  |zero=>
   rw[hz] at hg
   cases hg
   exact⟨c,pa,bv,by rw[Z20,if_pos rfl],hc,hp,hb⟩
  |succ m=>rw[hz] at hg;simp at hg
def Z8e (N:Nat):Sp:=fun vs H Q E=>∃S,Zaw S N vs H Q E
inductive spCalledBy_ (vs:List V)(H:Hp)(Q:VK):Prop
 |mk (tp:Addr) (fs:List Fd) (U:List Str) (_:vs = [.ref tp]) (_:IsTh H (.ref tp) (.tup (fs.map Fd.th))) (_:FOk U fs) (_:fs.length<=3) (_:∀(p:Addr) (kvs:List (Key×V)) H',Same H H'->H p=none->H' p=some (.dK kvs)->Called H' fs kvs->Q (.ref p) H'):spCalledBy_ vs H Q
def spCalledBy:Sp:=fun vs H Q _=>spCalledBy_ vs H Q
abbrev Zr2:List Str:=["_law_functions","_law_called_here","_law_name_here","_law_params","_law_body"]
section
variable {P:Program}{w:World}{K:W.Frag}{mg:Str->Option Value}{base:Heap}
theorem scCalledBy:FnScope Zr2 ["_law_functions"] (Z04 Z4a):=.q
theorem Zbv {f fB fP fW:Addr}{fd dB dP dW:FuncData}(F:Fun K "_law_called_by" "_law_called_by" Z4a f fd)(FB:Fn K mg "_law_bare" Z3v ["_law_e","_law_lets"] fB dB)(X:HW K mg fP fW dP dW):FnOk P w K mg base CX0 7 f fd ["_law_functions"] spCalledBy:=by
 have GB:FnOk P w K mg base CX0 6 fB dB ["_law_e","_law_lets"] (Z8e 4):=FnOk.ex fun S=>Z8d FB X 4
 refine F.ok scCalledBy (fun vs H Q E h=>?_) (fun cdv A outer s H vs Q E hr h=>?_)
 ·obtain⟨tp,fs,U,rfl,_⟩:=h
  rfl
 ·obtain⟨tp,fs,U,rfl,hv,fo,hfl,k⟩:=h
  have hsz:=sizeLine_eq
  have hu:=Zb3 hr
  refine'⟨?tt,?body,?fin⟩
  case body=>
   refine' Z05 ?s1 (Z05 ?s2 (Z07 ?s3))
   case s1=>exact Z0a (i:=1) scCalledBy.nd rfl (Or.inl rfl) Z6b
   case s2=>
    refine' Z43 PassesOwn.never rfl (Z61 (pv 0)) (Z4y rfl (Z17 (Z0l (i:=2) scCalledBy.nd rfl (Or.inl rfl)) (Z17 (Z0l (i:=3) scCalledBy.nd rfl (Or.inl rfl)) (Z17 (Z0l (i:=4) scCalledBy.nd rfl (Or.inl rfl)) Z3s)))) (Z07 ?b)
    case b=>exact Z2n hu (pv 1) (pv 2) (Z0v (Z0e (pv 3) (Z2h (Z06 GB hr (by rfl) FB.m FB.F.kp FB.b .nil Z0f (Z0e (pv 4) (Z0b (Z14 Z02) Z02))) Z02))) (by rfl)
   case s3=>exact Z0h (pv 1)
  case fin=>
   obtain⟨fa,fv,e0,hfa,hfv⟩:=Z13 hv
   cases e0
   have hvl:=IsThs.len _ hfv
   rw[length_map] at hvl
   intro ko hko
   have s0:=Z01 (o:=.dK []) hko
   refine⟨_,rfl,tp,rfl,⟨_,SqT.of (s0 _ _ hfa)⟩,Zev (K:=K) (a:=tp) (xs:=fv) (fun i σ H'=>∃(kvs:List (Key×V)) (o2 o3 o4:Option V),σ = [some (.ref tp),some (.ref ko),o2,o3,o4]/\H' ko=some (.dK kvs)/\Called H' (fs.take i) kvs/\kvs.length<=i/\Same H H')
    ⟨[],none,none,none,rfl,Z00,(fun i f hf=>by rw[take_zero] at hf;simp at hf),Nat.le_refl _,s0⟩ (fun i σ H' _ ⟨_,_,_,_,_,_,_,_,s⟩=>SqT.of (s _ _ hfa)) ?_ ?_⟩
   ·rintro i x σ H1 hx ⟨kvs,o2,o3,o4,rfl,hko1,CN,hkl,s1⟩
    have hi:=(List.getElem?_eq_some_iff.mp hx).1
    obtain⟨t,ht,hxt⟩:=Z1c _ hfv hx
    rw[List.getElem?_map] at ht
    obtain⟨f,hf,rfl⟩:=Option.map_eq_some_iff.mp ht
    obtain⟨c,pa,bv,rfl,hc,hpa,hb⟩:=Zd7 hxt
    have g:=fo i f hf
    refine⟨c,_,rfl,SqT.of (s1 _ _ hc),rfl,_,_,rfl,_,_,rfl,_,_,rfl,rfl,?_⟩
    refine⟨_,rfl,_,rfl,Nat.zero_le _,fun l1 hl1=>?_⟩
    have s2:=Z01 (o:=.lst []) hl1
    have s12:=s1.trans s2
    refine⟨_,bv,l1,f.t,[],rfl,IsTh.kp (Kp.of s12) hb,g.b,Z00,by decide,fun v' H3 s3 hv'=>⟨(by show 2<=sizeLine;decide),fun c2 hc2=>?_⟩⟩
    have s4:=Z01 (o:=.tup [.ref pa,v']) hc2
    have s14:=(s12.trans s3).trans s4
    have hko4:=((s2.trans s3).trans s4) _ _ hko1
    have hc24:upd H3 c2 (.tup [.ref pa,v']) c2=some (.tup [.ref pa,v']):=Z00
    have hv4:=IsTh.kp (Kp.of s4) hv'
    have CN4:=CN.kp (Kp.of ((s2.trans s3).trans s4))
    have hpa4:=s14 _ _ hpa
    generalize upd H3 c2 (.tup [.ref pa,v'])=H4 at s14 hko4 hc24 hv4 CN4 hpa4
    refine⟨_,rfl,_,rfl,ko,_,rfl,DPut.k (k:=Sum.inr f.x) hko4 (by omega),?_⟩
    have kp:Kp H4 (upd H4 ko (.dK (Z3z kvs (Sum.inr f.x) (.ref c2)))):=fun b o e hk=>by
     rw[Z0c (fun q=>by rw[q,hko4] at e;cases e;exact hk _ rfl)]
     exact e
    refine⟨_,_,_,_,rfl,Z00,?_,?_,fun b o e=>?_⟩
    ·rw[Zhf hf]
     exact(CN4.kp kp).snoc g.d (kp _ _ hc24 (fun _ z=>by cases z)) (kp _ _ hpa4 (fun _ z=>by cases z)) (IsTh.kp kp hv4)
    ·have:=Z9c kvs (Sum.inr f.x) (.ref c2)
     omega
    ·rw[Z0c (fun q=>by rw[q,hko] at e;cases e)]
     exact s14 _ _ e
   ·rintro σ H1 ⟨kvs,o2,o3,o4,rfl,hko1,CN,hkl,s1⟩
    rw[take_of_length_le (Nat.le_of_eq hvl.symm)] at CN
    exact⟨_,rfl,k ko kvs H1 s1 hko hko1 CN⟩
end
structure SnIn (U:List Str)(H:Hp)(x:V)(q:Th×List Str)(c a ha:Addr)(w0:Str)(hd:List V)(ks:List Th)(vr:List V)(S:SS)(N:Nat):Prop where
 e:x = .ref c
 hc:H c=some (.tup [.ref a,.ref ha])
 hh:H ha=some (.tup (q.2.map V.str))
 n:q.1=nd w0 hd ks
 ha:H a=some (.tup (.str w0::vr))
 hv:IsThs H vr (hd.map Th.at++ks)
 u:S.u=U
 l:N<=9
 b:Bh S w0 hd ks.length
 k:∀k∈ks,BfT S N k
 pl:plT q.1=true
 dp:L2.dp q.1<=10
theorem BfT.dp {S:SS}:∀(n:Nat) {t:Th},BfT S n t->L2.dp t<=n:=by
 intro n
 induction n with
 |zero=>intro t h;exact h.elim
 |succ n ih=>
  intro t h
  obtain⟨w,hd,ks,rfl,h1,h2,h3,h4,h5,h6⟩:=h
  unfold nd
  rw[L2.dp,Nat.add_comm]
  refine Nat.succ_le_succ (Zg6 fun x hx=>?_)
  rcases mem_cons.mp hx with rfl|hx
  ·rw[L2.dp];exact Nat.zero_le _
  ·rcases mem_append.mp hx with z|z
   ·obtain⟨v,_,rfl⟩:=mem_map.mp z
    rw[L2.dp];exact Nat.zero_le _
   ·exact ih (h6 x z)
theorem Zq4 {U:List Str}{H:Hp}{x:V}{q:Th×List Str}(h:IsTh H x (snT q))(o:Zoj U q.1):∃c a ha w0 hd ks vr S N,SnIn U H x q c a ha w0 hd ks vr S N:=by
 obtain⟨S,N,hU,hN,b⟩:=o
 have pl:=b.pl
 have dp:=b.dp
 cases N with
 |zero=>exact b.elim
 |succ N=>
  obtain⟨w,hd,ks,e,h1,h2,h3,h4,h5,h6⟩:=b
  unfold snT at h
  obtain⟨c,vs,rfl,hc,hvs⟩:=Z13 h
  cases hvs with
  |cons c1 d1=>
   cases d1 with
   |cons c2 d2=>
    cases d2
    obtain⟨ha,rfl,hha⟩:=Z9d c2
    have c1':=c1
    rw[e] at c1'
    obtain⟨a,vs,rfl,ha',hvs⟩:=Z13 (ts:=.at (.str w)::(hd.map Th.at++ks)) c1'
    cases hvs with
    |cons e1 e2=>
     obtain⟨rfl,_⟩:=Z1i e1
     exact⟨c,a,ha,w,hd,ks,_,S,N,rfl,hc,hha,e,ha',e2,hU,by omega,h4,h6,pl,by omega⟩
theorem SnIn.mk' {U:List Str}{H:Hp}{x:V}{q:Th×List Str}{c a ha:Addr}{w0:Str}{hd:List V}{ks:List Th}{vr:List V}{S:SS}{N:Nat}(I:SnIn U H x q c a ha w0 hd ks vr S N):SnIn U H x q c a ha w0 hd ks vr S N:=I
theorem SnIn.str {U:List Str}{H:Hp}{x:V}{q:Th×List Str}{c a ha:Addr}{w0:Str}{hd:List V}{ks:List Th}{vr:List V}{S:SS}{N:Nat}(I:SnIn U H x q c a ha w0 hd ks vr S N){y:Str}(e:hd = [.str y]):∃vr2,vr = .str y::vr2/\IsThs H vr2 ks:=by
 have:=I.hv
 subst e
 cases this with
 |cons c1 c2=>
  obtain⟨rfl,_⟩:=Z1i c1
  exact⟨_,rfl,c2⟩
theorem rd1 (q:Th×List Str):(rdN q).length<=1:=by
 unfold rdN
 split
 ·exact Nat.le_refl _
 ·exact Nat.zero_le _
theorem ch1 (q:Th×List Str):(chN q).length<=1:=by
 unfold chN
 split
 ·exact Nat.le_refl _
 ·exact Nat.zero_le _
theorem Zhh {g:Th×List Str->List Str}(hg:∀q,(g q).length<=1)(L:Sn)(i:Nat):((L.take i).flatMap g).length<=i:=by
 have:=Z8a (f:=g) (l:=L.take i) (m:=1) fun q _=>hg q
 rw[length_take] at this
 omega
theorem Zhi {g:Th×List Str->List Str}{L:Sn}{i:Nat}{q:Th×List Str}(h:L[i]? = some q):(L.take (i+1)).flatMap g=(L.take i).flatMap g++g q:=by
 rw[take_add_one,h,flatMap_append]
 simp
def dvL (L:Sn):List Th:=(L.filter fun q=>Zhn q.1).map fun q=>Zod q.1
theorem Zmb {L:Sn}{i:Nat}{q:Th×List Str}(h:L[i]? = some q):dvL (L.take (i+1))=dvL (L.take i)++(if Zhn q.1=true then [Zod q.1] else []):=by
 unfold dvL
 rw[take_add_one,h,filter_append,map_append]
 congr 1
 show(List.filter _ [q]).map _=_
 rw[filter_cons]
 by_cases c:Zhn q.1=true
 ·rw[if_pos c,if_pos c];rfl
 ·rw[if_neg c,if_neg c];rfl
theorem Zjo:∀{l:List Th},Z4q l=true->∀x∈l,plT x=true:=by
 intro l
 induction l with
 |nil=>intro _ x hx;cases hx
 |cons y l ih=>
  intro h x hx
  rw[Z4q,Bool.and_eq_true] at h
  rcases mem_cons.mp hx with z|z
  ·rw[z];exact h.1
  ·exact ih h.2 x z
theorem Zmc:∀{l:List Th} {x:Th},x∈l->L2.dp x<=dps l:=by
 intro l
 induction l with
 |nil=>intro x hx;cases hx
 |cons y l ih=>
  intro x hx
  rw[dps]
  rcases mem_cons.mp hx with z|z
  ·rw[z];omega
  ·have:=ih z;omega
inductive spLawTr_ (K:W.Frag)(vs:List V)(H:Hp)(Q:VK):Prop
 |mk (sa:Addr) (ws:List V) (L:Sn) (U:List Str) (_:vs = [.ref sa]) (_:H sa=some (.lst ws)) (_:IsThs H ws (L.map snT)) (_:L.length<=16000000) (_:(∀q∈L,Zoj U q.1)) (_:U.length<64) (_:(∀x∈U,Nm x)) (_:∀(p:Addr) (T:Tr) H',Same H H'->IsTh H' (.ref p) (trT T)->TrOf L T->Q (.ref p) H'):spLawTr_ K vs H Q
def Zhj (K:W.Frag):Sp:=fun vs H Q _=>spLawTr_ K vs H Q
abbrev Zmk:List Str:=["_law_seen_here","_law_reads","_law_changes","_law_heads","_law_split","_law_wild","_law_fails"]
theorem Zjp:(["_law_b","_law_holds"]:List Str).Nodup:=by decide+kernel
theorem Zq5:(["_law_b"]:List Str).Nodup:=by decide+kernel
structure TxtS (mg:Str->Option Value):Prop where
 tup:mg "tuple"=none
 sorted:mg "sorted"=none
 set:mg "set"=none
section
variable {P:Program}{w:World}{K:W.Frag}{mg:Str->Option Value}{base:Heap}
theorem scLawTr:FnScope Zmk ["_law_seen_here"] (Z04 Z1j):=.q
theorem Zjq {f:Addr}{fd:FuncData}(F:Fun K "_law_traits" "_law_traits" Z1j f fd)(T:TxtS mg):FnOk P w K mg base CX0 1 f fd ["_law_seen_here"] (Zhj K):=by
 refine F.ok scLawTr (fun vs H Q E h=>?_) (fun cdv A outer s H vs Q E hr h=>?_)
 ·obtain⟨sa,ws,L,U,rfl,_⟩:=h
  rfl
 ·obtain⟨sa,ws,L,U,rfl,hsa,hws,hLl,hLo,hU,hUn,k⟩:=h
  have hsz:=sizeLine_eq
  have hu:=Zb3 hr
  have hu12:(A.deeper (envOfC "_law_traits" (Z04 Z1j) s.heap.objs.size f cdv)).units+(12+1)<cLine:=by have:=hr.un;omega
  refine'⟨?tt,?body,?fin⟩
  case body=>
   refine' Z0g ?s1 ?r1
   case s1=>
    refine' Z2e (i:=1) (N':=["_law_b","_law_holds"]) (src:=[none,none]) ?k1 ?k2 ?k3 ?k4 ?k5 ?k6 ?k7
    case k1=>rfl
    case k2=>exact scLawTr.nd
    case k3=>rfl
    case k4=>exact Or.inl rfl
    case k5=>exact Z0d (Z04 Z1j) rfl Zmk rfl (by decide+kernel)
    case k6=>exact Z19 (pv 0)
    case k7=>
     intro cl C ex s0 H0
     refine'⟨?g1,?g2,?g3⟩
     case g1=>exact Z4k (K:=K) (i:=0) (j:=1) rfl rfl Zjp rfl (Or.inl rfl) rfl (Or.inl rfl) (Or.inr rfl) (Or.inr rfl)
     case g2=>exact Z37 (Z41 (Z09 Z1f (Z0q (Z1u (K:=K) rfl) (pv 0) Z03 (fun _ _=>rfl)) Z08 (Z0i _)) (Z2v (Z09 (Z52 (K:=K) rfl) (Z0q (Z1u (K:=K) rfl) (pv 0) Z03 (fun _ _=>rfl)) (pv 1) (by with_unfolding_all rfl)))).pt
     case g3=>exact Z0q (Z1u (K:=K) rfl) (pv 0) Z03 (fun _ _=>rfl)
   case r1=>
    refine' Z0g ?s2 ?r2
    case s2=>
     refine' Z2e (i:=2) (N':=["_law_b","_law_holds"]) (src:=[none,none]) ?k1 ?k2 ?k3 ?k4 ?k5 ?k6 ?k7
     case k1=>rfl
     case k2=>exact scLawTr.nd
     case k3=>rfl
     case k4=>exact Or.inl rfl
     case k5=>exact Z0d (Z04 Z1j) rfl Zmk rfl (by decide+kernel)
     case k6=>exact Z19 (pv 0)
     case k7=>
      intro cl C ex s0 H0
      refine'⟨?g1,?g2,?g3⟩
      case g1=>exact Z4k (K:=K) (i:=0) (j:=1) rfl rfl Zjp rfl (Or.inl rfl) rfl (Or.inl rfl) (Or.inr rfl) (Or.inr rfl)
      case g2=>exact Z37 (Z09 Z1f (Z0q (Z1u (K:=K) rfl) (pv 0) Z03 (fun _ _=>rfl)) Z08 (Z0i _))
      case g3=>exact Z0q (Z1u (K:=K) rfl) (pv 0) Z03 (fun _ _=>rfl)
    case r2=>
     refine' Z0g ?s3 ?r3
     case s3=>
      refine' Z2e (i:=3) (N':=["_law_b","_law_holds"]) (src:=[none,none]) ?k1 ?k2 ?k3 ?k4 ?k5 ?k6 ?k7
      case k1=>rfl
      case k2=>exact scLawTr.nd
      case k3=>rfl
      case k4=>exact Or.inl rfl
      case k5=>exact Z0d (Z04 Z1j) rfl Zmk rfl (by decide+kernel)
      case k6=>exact Z19 (pv 0)
      case k7=>
       intro cl C ex s0 H0
       refine'⟨?g1,?g2,?g3⟩
       case g1=>exact Z4k (K:=K) (i:=0) (j:=1) rfl rfl Zjp rfl (Or.inl rfl) rfl (Or.inl rfl) (Or.inr rfl) (Or.inr rfl)
       case g2=>exact Z1q
       case g3=>exact Z0q (Z1u (K:=K) rfl) (pv 0) Z03 (fun _ _=>rfl)
     case r3=>
      refine' Z0g ?s4 ?r4
      case s4=>
       refine' Z2e (i:=4) (N':=["_law_b","_law_holds"]) (src:=[none,none]) ?k1 ?k2 ?k3 ?k4 ?k5 ?k6 ?k7
       case k1=>rfl
       case k2=>exact scLawTr.nd
       case k3=>rfl
       case k4=>exact Or.inl rfl
       case k5=>exact Z0d (Z04 Z1j) rfl Zmk rfl (by decide+kernel)
       case k6=>exact Z19 (pv 0)
       case k7=>
        intro cl C ex s0 H0
        refine'⟨?g1,?g2,?g3⟩
        case g1=>exact Z4k (K:=K) (i:=0) (j:=1) rfl rfl Zjp rfl (Or.inl rfl) rfl (Or.inl rfl) (Or.inr rfl) (Or.inr rfl)
        case g2=>exact Z37 (Z09 (Zkz (K:=K) rfl 12 hu12) (Z1d Zb6 (pv 0) Z1p (Z1m Z03)) (Z0v (Z18 Z08 (Z18 Z08 Z02))) (Z0i _))
        case g3=>exact Z0q (Z1u (K:=K) rfl) (pv 0) Z03 (fun _ _=>rfl)
      case r4=>
       refine' Z0g ?s5 ?r5
       case s5=>
        refine' Z2e (i:=5) (N':=["_law_b"]) (src:=[none]) ?k1 ?k2 ?k3 ?k4 ?k5 ?k6 ?k7
        case k1=>rfl
        case k2=>exact scLawTr.nd
        case k3=>rfl
        case k4=>exact Or.inl rfl
        case k5=>exact Z0d (Z04 Z1j) rfl Zmk rfl (by decide+kernel)
        case k6=>exact Z19 (pv 4)
        case k7=>
         intro cl C ex s0 H0
         refine'⟨?g1,?g2,?g3⟩
         case g1=>exact Z0l (i:=0) Zq5 rfl (Or.inl rfl)
         case g2=>exact Z37 (Z66 (Z09 Zdi (Z0q (Z1u (K:=K) rfl) (pv 0) Z03 (fun _ _=>rfl)) Z08 (Z0i _)) (Z60 (Z09 Z1f (Z0q (Z1u (K:=K) rfl) (pv 0) Z03 (fun _ _=>rfl)) Z03 (Z0i _)))).pt
         case g3=>exact pv 0
       case r5=>
        refine' Z0g ?s6 (Z07 ?s7)
        case s6=>exact Z0a (i:=6) scLawTr.nd rfl (Or.inl rfl) (Zms (Z44 Z1x Z08 (pv 3) (by with_unfolding_all rfl)) (Zet (Z44 (Zl0 (K:=K) rfl 12 hu12) (pv 5) (Z14 Z02) (Z0i _))))
        case s7=>
         refine' Z0h (Z0v (Z2h ?t1 (Z2h ?t2 (Z0b ?t3 (Z0b ?t4 (Z0e (pv 6) Z02))))))
         case t1=>exact Z15 Z0w (by rfl) T.tup (by decide+kernel) (Z2h (Z0r (id:="sorted") (Z2p rfl) (by rfl) T.sorted (by decide+kernel) (Z2h (Z15 (Z88 rfl) (by rfl) T.set (by decide+kernel) (Z0e (pv 1) Z02)) Z02)) Z02)
         case t2=>exact Z15 Z0w (by rfl) T.tup (by decide+kernel) (Z2h (Z0r (id:="sorted") (Z2p rfl) (by rfl) T.sorted (by decide+kernel) (Z2h (Z15 (Z88 rfl) (by rfl) T.set (by decide+kernel) (Z0e (pv 2) Z02)) Z02)) Z02)
         case t3=>exact Z44 Z1x Z08 (pv 3) (by with_unfolding_all rfl)
         case t4=>exact Z44 Z1x Z08 (pv 3) (by with_unfolding_all rfl)
  case fin=>
   have hwl:=IsThs.len _ hws
   rw[length_map] at hwl
   have get:∀{H':Hp} {i:Nat} {x:V},Same H H'->ws[i]? = some x->∃q c a ha w0 hd ks vr S N,L[i]? = some q/\SnIn U H' x q c a ha w0 hd ks vr S N:=fun {H' i x} s hx=>by
    obtain⟨t,ht,h1⟩:=Z1c _ hws hx
    rw[List.getElem?_map] at ht
    obtain⟨q,hq,rfl⟩:=Option.map_eq_some_iff.mp ht
    obtain⟨c,a,ha,w0,hd,ks,vr,S,N,I⟩:=Zq4 (IsTh.kp (Kp.of s) h1) (hLo q (mem_of_getElem? hq))
    exact⟨q,c,a,ha,w0,hd,ks,vr,S,N,hq,I⟩
   refine⟨fun σ' H'=>∃(p:Addr),σ' = [some (.ref sa),some (.ref p),none,none,none,none,none]/\Same H H'/\H' p=some (.lst ((L.flatMap rdN).map V.str)),?_,?_⟩
   ·refine⟨_,rfl,sa,rfl,⟨_,SqL.of hsa⟩,Z0y (K:=K) (a:=sa) (xs:=ws) (fun i ys σc H'=>∃(o o':Option V),σc = [o,o']/\H'=H/\ys=((L.take i).flatMap rdN).map V.str)
     ⟨none,none,rfl,rfl,rfl⟩ (fun i ys σc H' ⟨_,_,_,e,_⟩=>by rw[e];exact SqL.of hsa) ?_ ?_⟩
    ·rintro i x ys σc H' hx hi ⟨o,o',rfl,rfl,rfl⟩
     obtain⟨q,c,a,ha,w0,hd,ks,vr,S,N,hq,I⟩:=get (Same.refl _) hx
     obtain⟨rfl,hc,hh,hn,ha',hv,_,_,hb,hk,_,_⟩:=I.mk'
     have hnx:=Zhi (g:=rdN) hq
     have hyl:=Zhh rd1 L i
     refine⟨by rw[length_map];omega,c,_,rfl,SqT.of hc,rfl,_,_,rfl,_,_,rfl,rfl,_,rfl,a,_,_,_,rfl,rfl,SqT.of ha',Z1b _ _,rfl,_,rfl,Z1e (fun g=>?_) (fun g=>Za2 (nx hi ⟨_,_,rfl,rfl,?_⟩))⟩
     ·have hw:=Z2g g
      subst hw
      obtain⟨y,rfl⟩:∃y,hd = [.str y]:=by
       generalize ks.length=m at hb
       cases hb with
       |name a=>exact⟨_,rfl⟩
      obtain⟨vr2,rfl,_⟩:=I.str rfl
      refine⟨_,rfl,a,_,_,.str y,rfl,rfl,SqT.of ha',Z12 _ _ _,_,rfl,ha,_,rfl,.inr (SqT.of hh),rfl,Z5y _,_,rfl,Z1e (fun g=>?_) (fun g=>nx hi ⟨_,_,rfl,rfl,?_⟩)⟩
      ·have hy:y∉q.2:=fun z=>by
        rw[(Z1n y q.2).mpr z] at g
        cases g
       refine⟨_,rfl,a,_,_,.str y,rfl,rfl,SqT.of ha',Z12 _ _ _,nx hi ⟨_,_,rfl,rfl,?_⟩⟩
       have e:rdN q = [y]:=by
        unfold rdN
        rw[hn]
        exact if_pos ⟨rfl,hy⟩
       rw[hnx,e,map_append]
       rfl
      ·have hy:y∈q.2:=Classical.byContradiction fun z=>g (by
        have:inV (.str y) (q.2.map V.str)=false:=by
         rw[Bool.eq_false_iff]
         exact fun c=>z ((Z1n y q.2).mp c)
        show(if true=true then !inV _ _ else _)=true
        rw[if_pos rfl,this]
        rfl)
       have e:rdN q = []:=by
        unfold rdN
        rw[hn]
        exact if_neg fun c=>c.2 hy
       rw[hnx,e,append_nil]
     ·have hw:=Z1t g
      have e:rdN q = []:=by
       unfold rdN
       rw[hn]
       exact if_neg fun c=>hw c.1
      rw[hnx,e,append_nil]
    ·rintro ys σc H' ⟨o,o',rfl,rfl,rfl⟩ p hp
     rw[take_of_length_le (by omega)]
     exact⟨p,rfl,Z01 hp,Z00⟩
   rintro σ1 H1 ⟨p1,rfl,s1,hp1⟩
   refine⟨fun σ' H'=>∃(p:Addr),σ' = [some (.ref sa),some (.ref p1),some (.ref p),none,none,none,none]/\Same H1 H'/\H' p=some (.lst ((L.flatMap chN).map V.str)),?_,?_⟩
   ·have hsa1:=s1 _ _ hsa
    refine⟨_,rfl,sa,rfl,⟨_,SqL.of hsa1⟩,Z0y (K:=K) (a:=sa) (xs:=ws) (fun i ys σc H'=>∃(o o':Option V),σc = [o,o']/\H'=H1/\ys=((L.take i).flatMap chN).map V.str)
     ⟨none,none,rfl,rfl,rfl⟩ (fun i ys σc H' ⟨_,_,_,e,_⟩=>by rw[e];exact SqL.of hsa1) ?_ ?_⟩
    ·rintro i x ys σc H' hx hi ⟨o,o',rfl,rfl,rfl⟩
     obtain⟨q,c,a,ha,w0,hd,ks,vr,S,N,hq,I⟩:=get s1 hx
     obtain⟨rfl,hc,hh,hn,ha',hv,_,_,hb,hk,_,_⟩:=I.mk'
     have hnx:=Zhi (g:=chN) hq
     have hyl:=Zhh ch1 L i
     refine⟨by rw[length_map];omega,c,_,rfl,SqT.of hc,rfl,_,_,rfl,_,_,rfl,rfl,_,rfl,a,_,_,_,rfl,rfl,SqT.of ha',Z1b _ _,rfl,_,rfl,Z1e (fun g=>?_) (fun g=>nx hi ⟨_,_,rfl,rfl,?_⟩)⟩
     ·have hw:=Z2g g
      subst hw
      obtain⟨y,rfl⟩:∃y,hd = [.str y]:=by
       generalize ks.length=m at hb
       cases hb with
       |set a=>exact⟨_,rfl⟩
      obtain⟨vr2,rfl,_⟩:=I.str rfl
      refine⟨_,rfl,a,_,_,.str y,rfl,rfl,SqT.of ha',Z12 _ _ _,nx hi ⟨_,_,rfl,rfl,?_⟩⟩
      have e:chN q = [y]:=by
       unfold chN
       rw[hn]
       exact if_pos rfl
      rw[hnx,e,map_append]
      rfl
     ·have hw:=Z1t g
      have e:chN q = []:=by
       unfold chN
       rw[hn]
       exact if_neg hw
      rw[hnx,e,append_nil]
    ·rintro ys σc H' ⟨o,o',rfl,rfl,rfl⟩ p hp
     rw[take_of_length_le (by omega)]
     exact⟨p,rfl,Z01 hp,Z00⟩
   rintro σ2 H2 ⟨p2,rfl,s2,hp2⟩
   have s02:=s1.trans s2
   refine⟨fun σ' H'=>∃(p:Addr),σ' = [some (.ref sa),some (.ref p1),some (.ref p2),some (.ref p),none,none,none]/\Same H2 H'/\H' p=some (.lst ((L.map fun q=>wd q.1).map V.str)),?_,?_⟩
   ·have hsa2:=s02 _ _ hsa
    refine⟨_,rfl,sa,rfl,⟨_,SqL.of hsa2⟩,Z0y (K:=K) (a:=sa) (xs:=ws) (fun i ys σc H'=>∃(o o':Option V),σc = [o,o']/\H'=H2/\ys=(L.take i).map fun q=>V.str (wd q.1))
     ⟨none,none,rfl,rfl,rfl⟩ (fun i ys σc H' ⟨_,_,_,e,_⟩=>by rw[e];exact SqL.of hsa2) ?_ ?_⟩
    ·rintro i x ys σc H' hx hi ⟨o,o',rfl,rfl,rfl⟩
     obtain⟨q,c,a,ha,w0,hd,ks,vr,S,N,hq,I⟩:=get s02 hx
     obtain⟨rfl,hc,hh,hn,ha',hv,_,_,hb,hk,_,_⟩:=I.mk'
     refine⟨by rw[length_map,length_take];omega,c,_,rfl,SqT.of hc,rfl,_,_,rfl,_,_,rfl,rfl,_,rfl,a,_,_,_,rfl,rfl,SqT.of ha',Z1b _ _,nx hi ⟨_,_,rfl,rfl,?_⟩⟩
     have e:wd q.1=w0:=by rw[hn];rfl
     rw[<- e]
     exact Z5j hq
    ·rintro ys σc H' ⟨o,o',rfl,rfl,rfl⟩ p hp
     rw[take_of_length_le (by omega)]
     refine⟨p,rfl,Z01 hp,?_⟩
     rw[Z00,map_map]
     rfl
   rintro σ3 H3 ⟨p3,rfl,s3,hp3⟩
   have s03:=s02.trans s3
   refine⟨fun σ' H'=>∃(p:Addr) (us:List V),σ' = [some (.ref sa),some (.ref p1),some (.ref p2),some (.ref p3),some (.ref p),none,none]/\Same H3 H'/\H' p=some (.lst us)/\IsThs H' us (dvL L),?_,?_⟩
   ·have hsa3:=s03 _ _ hsa
    refine⟨_,rfl,sa,rfl,⟨_,SqL.of hsa3⟩,Z0y (K:=K) (a:=sa) (xs:=ws) (fun i ys σc H'=>∃(o o':Option V),σc = [o,o']/\Same H3 H'/\ys.length<=i/\IsThs H' ys (dvL (L.take i)))
     ⟨none,none,rfl,Same.refl _,Nat.le_refl _,by rw[take_zero];exact .nil⟩ (fun i ys σc H' ⟨_,_,_,e,_⟩=>SqL.of (e _ _ hsa3)) ?_ ?_⟩
    ·rintro i x ys σc H4 hx hi ⟨o,o',rfl,s4,hyl,hys⟩
     obtain⟨q,c,a,ha,w0,hd,ks,vr,S,N,hq,I⟩:=get (s03.trans s4) hx
     obtain⟨rfl,hc,hh,hn,ha',hv,_,_,hb,hk,hpl,hdp⟩:=I.mk'
     have hnx:=Zmb hq
     refine⟨by omega,c,_,rfl,SqT.of hc,rfl,_,_,rfl,_,_,rfl,rfl,_,rfl,2,rfl,a,_,rfl,ha',fun p5 H5 s5 hp5=>⟨(by show 2<=sizeLine;decide),fun p6 hp6=>?_⟩⟩
     rw[Z7b (by decide)] at hp5
     have s6:=Z01 (o:=.tup [.str "op",.str "/"]) hp6
     have s46:=s5.trans s6
     have hall:IsThs H4 (.str w0::vr) (.at (.str w0)::(hd.map Th.at++ks)):=by
      have:smallV (.str w0)=true:=by
       generalize ks.length=m at hb
       cases hb <;> decide+kernel
      exact .cons (.at this) hv
     rw[hn] at hpl hdp
     unfold nd at hpl hdp
     rw[plT] at hpl
     rw[L2.dp] at hdp
     have hsl:IsTh (upd H5 p6 (.tup [.str "op",.str "/"])) (.ref p5) (.tup ((.at (.str w0)::(hd.map Th.at++ks)).take 2)):=.tup (s6 _ _ hp5) (IsThs.kp (Kp.of s46) (Z8s 2 hall))
     have hop:IsTh (upd H5 p6 (.tup [.str "op",.str "/"])) (.ref p6) (.tup [.at (.str "op"),.at (.str "/")]):=.tup Z00 (.cons (.at (by decide+kernel)) (.cons (.at (by decide+kernel)) .nil))
     refine⟨_,_,hsl,hop,Z21 fun y hy=>Zjo hpl y (mem_of_mem_take hy),by decide+kernel,Zg6 fun y hy=>?_,by decide+kernel,fun e=>⟨_,rfl,Z1e (fun _=>?_) (fun g=>absurd rfl g)⟩,fun e=>⟨_,rfl,Z1e (fun g=>by cases g) (fun _=>?_)⟩⟩
     ·have:=Zmc (mem_of_mem_take hy)
      omega
     ·have hw:w0="op":=by
       have:=congrArg (fun l=>l.headD (.at .non)) e
       injection this with this
       injection this
      subst hw
      obtain⟨⟨y,rfl⟩,hk2⟩:(∃y,hd = [.str y])/\ks.length=2:=by
       generalize ks.length=m at hb
       cases hb with
       |op a=>exact⟨⟨_,rfl⟩,rfl⟩
      obtain⟨vr2,rfl,hv2⟩:=I.str rfl
      have hy:y="/":=by
       have : [Th.at (.str "op"),Th.at (.str y)] = [Th.at (.str "op"),Th.at (.str "/")]:=e
       injection this with _ this
       injection this with this _
       injection this with this
       injection this
      subst hy
      match ks,hk2,hk,hv2,hn with
      |[k1,k2],_,hk,hv2,hn=>
       cases hv2 with
       | @cons va vr3 _ _ da db=>
        cases db with
        | @cons vb vr4 _ _ db1 db2=>
         cases db2
         refine⟨_,rfl,a,_,_,vb,rfl,rfl,SqT.of (s46 _ _ ha'),Zoq _ _ _ _ _,nx hi ⟨_,_,rfl,s4.trans s46,by rw[length_append];show ys.length+1<=i+1;omega,?_⟩⟩
         have e1:Zhn q.1=true:=by rw[hn];exact decide_eq_true ⟨rfl,rfl⟩
         have e2:Zod q.1=k2:=by rw[hn];rfl
         rw[hnx,if_pos e1,e2]
         exact IsThs.app _ (IsThs.kp (Kp.of s46) hys) (.cons (IsTh.kp (Kp.of s46) db1) .nil)
     ·refine nx hi ⟨_,_,rfl,s4.trans s46,by omega,?_⟩
      have e1:¬Zhn q.1=true:=fun z=>e (by
       rw[hn] at z
       obtain⟨z1,z2⟩:=of_decide_eq_true z
       have hw:w0="op":=z1
       subst hw
       obtain⟨y,rfl⟩:∃y,hd = [.str y]:=by
        generalize ks.length=m at hb
        cases hb with
        |op a=>exact⟨_,rfl⟩
       have hy:y="/":=z2
       rw[hy]
       rfl)
      rw[hnx,if_neg e1,append_nil]
      exact IsThs.kp (Kp.of s46) hys
    ·rintro ys σc H4 ⟨o,o',rfl,s4,hyl,hys⟩ p hp
     rw[take_of_length_le (by omega)] at hys
     have sp:=Z01 (o:=.lst ys) hp
     exact⟨p,ys,rfl,s4.trans sp,Z00,IsThs.kp (Kp.of sp) hys⟩
   rintro σ4 H4 ⟨p4,us,rfl,s4,hp4,hus⟩
   have hul:=IsThs.len _ hus
   have hdl:(dvL L).length<=L.length:=by
    unfold dvL
    rw[length_map]
    exact length_filter_le _ _
   have hds:∀d∈dvL L,plT d=true/\L2.dp d<=10/\∃(S:SS) (N:Nat),BfT S N d:=fun d hd=>by
    unfold dvL at hd
    obtain⟨q,hq,rfl⟩:=mem_map.mp hd
    obtain⟨hq,hiv⟩:=mem_filter.mp hq
    obtain⟨S,N,_,hN,b⟩:=hLo q hq
    cases N with
    |zero=>exact b.elim
    |succ N=>
     obtain⟨w0,hd,ks,e,_,_,_,hb,_,hk⟩:=b
     rw[e] at hiv ⊢
     obtain⟨z1,z2⟩:=of_decide_eq_true hiv
     have hw:w0="op":=z1
     subst hw
     obtain⟨⟨y,rfl⟩,hk2⟩:(∃y,hd = [.str y])/\ks.length=2:=by
      generalize ks.length=m at hb
      cases hb with
      |op a=>exact⟨⟨_,rfl⟩,rfl⟩
     match ks,hk2,hk with
     |[k1,k2],_,hk=>
      have b2:=hk k2 (by simp)
      have:=b2.dp
      exact⟨b2.pl,by show L2.dp k2<=10;omega,S,N,b2⟩
   refine⟨fun σ' H'=>∃(p:Addr) (vs:List V),σ' = [some (.ref sa),some (.ref p1),some (.ref p2),some (.ref p3),some (.ref p4),some (.ref p),none]/\Same H4 H'/\H' p=some (.lst vs)/\IsThs H' vs ((dvL L).filter Z4o),?_,?_⟩
   ·refine⟨_,rfl,p4,rfl,⟨_,SqL.of hp4⟩,Z0y (K:=K) (a:=p4) (xs:=us) (fun i ys σc H'=>∃(o:Option V),σc = [o]/\H'=H4/\ys.length<=i/\IsThs H4 ys (((dvL L).take i).filter Z4o))
     ⟨none,rfl,rfl,Nat.le_refl _,by rw[take_zero];exact .nil⟩ (fun i ys σc H' ⟨_,_,e,_⟩=>by rw[e];exact SqL.of hp4) ?_ ?_⟩
    ·rintro i x ys σc H' hx hi ⟨o,rfl,rfl,hyl,hys⟩
     obtain⟨d,hd,hxd⟩:=Z1c _ hus hx
     have hnext:((dvL L).take (i+1)).filter Z4o=((dvL L).take i).filter Z4o++(if Z4o d=true then [d] else []):=Z3h _ hd
     obtain⟨_,_,S,N,b⟩:=hds d (mem_of_getElem? hd)
     cases N with
     |zero=>exact b.elim
     |succ N=>
      obtain⟨w2,hd2,ks2,rfl,_,_,_,q4,_,_⟩:=b
      have hbt:IsTh H' x (.tup (.at (.str w2)::(hd2.map Th.at++ks2))):=hxd
      obtain⟨a2,vs2,rfl,ha2,hvs2⟩:=Z13 hbt
      obtain⟨vr5,rfl,hvr5⟩:∃vr,vs2 = .str w2::vr/\IsThs H' vr (hd2.map Th.at++ks2):=by
       cases hvs2 with
       |cons c1 c2=>
        obtain⟨rfl,_⟩:=Z1i c1
        exact⟨_,rfl,c2⟩
      have yes:Z4o (nd w2 hd2 ks2)=true->IsThs H' (ys ++ [.ref a2]) (((dvL L).take (i+1)).filter Z4o):=fun z=>by
       rw[hnext,if_pos z]
       exact IsThs.app _ hys (.cons hxd .nil)
      have no:¬Z4o (nd w2 hd2 ks2)=true->IsThs H' ys (((dvL L).take (i+1)).filter Z4o):=fun z=>by
       rw[hnext,if_neg z,append_nil]
       exact hys
      have more:(ys ++ [V.ref a2]).length<=i+1:=by rw[length_append];show ys.length+1<=i+1;omega
      refine⟨by omega,_,rfl,a2,_,_,_,rfl,rfl,SqT.of ha2,Z1b _ _,rfl,_,rfl,Z1e (fun g=>?_) (fun g=>?_)⟩
      ·have hne:w2≠"num":=fun z=>by
        rw[z,decide_eq_true rfl] at g
        cases g
       exact Zc7 ⟨_,rfl,nx hi ⟨_,rfl,rfl,more,yes (decide_eq_true (.inl hne))⟩⟩
      ·have hw2:w2="num":=Classical.byContradiction fun z=>g (by rw[decide_eq_false (fun e=>z (by injection e))];rfl)
       subst hw2
       obtain⟨j,rfl⟩:∃j,hd2 = [.int j]:=by
        generalize ks2.length=m at q4
        cases q4 with
        |num=>exact⟨_,rfl⟩
       obtain⟨vr6,rfl⟩:∃vr6,vr5 = .int j::vr6:=by
        cases hvr5 with
        |cons c1 c2=>
         obtain⟨rfl,_⟩:=Z1i c1
         exact⟨_,rfl⟩
       refine⟨_,rfl,a2,_,_,_,rfl,rfl,SqT.of ha2,Z12 _ _ _,rfl,_,rfl,Z1e (fun g=>?_) (fun g=>?_)⟩
       ·have hj:j=0:=by
         have g':=of_decide_eq_true g
         injection g'
        exact⟨_,rfl,nx hi ⟨_,rfl,rfl,more,yes (decide_eq_true (.inr hj))⟩⟩
       ·refine nx hi ⟨_,rfl,rfl,by omega,no fun z=>?_⟩
        rcases of_decide_eq_true z with q|q
        ·exact q rfl
        ·have q':j=0:=q
         exact g (by rw[q'];exact decide_eq_true rfl)
    ·rintro ys σc H' ⟨o,rfl,rfl,hyl,hys⟩ p hp
     rw[take_of_length_le (by omega)] at hys
     have sp:=Z01 (o:=.lst ys) hp
     exact⟨p,ys,rfl,sp,Z00,IsThs.kp (Kp.of sp) hys⟩
   rintro σ5 H5 ⟨p5,vs,rfl,s5,hp5,hvs⟩
   have s35:=s4.trans s5
   have hp35:=s35 _ _ hp3
   have tk:inV (.str "take") ((L.map fun q=>wd q.1).map V.str)=true↔∃q∈L,wd q.1="take":=by
    rw[Z1n,mem_map]
   have sy:inV (.str "say") ((L.map fun q=>wd q.1).map V.str)=true↔∃q∈L,wd q.1="say":=by
    rw[Z1n,mem_map]
   have wi:(dvL L).filter Z4o ≠ []↔∃q∈L,dvN q.1=true:=by
    rw[Ne,List.filter_eq_nil_iff]
    constructor
    ·intro z
     refine Classical.byContradiction fun c=>z fun d hd hw=>c ?_
     unfold dvL at hd
     obtain⟨q,hq,rfl⟩:=mem_map.mp hd
     obtain⟨hq,hiv⟩:=mem_filter.mp hq
     refine⟨q,hq,?_⟩
     unfold dvN
     rw[Bool.and_eq_true]
     exact⟨hiv,hw⟩
    ·rintro⟨q,hq,hd⟩ z
     unfold dvN at hd
     rw[Bool.and_eq_true] at hd
     exact z (Zod q.1) (mem_map.mpr ⟨q,mem_filter.mpr ⟨hq,hd.1⟩,rfl⟩) hd.2
   refine⟨fun σ' H'=>∃(b:Bool),σ' = [some (.ref sa),some (.ref p1),some (.ref p2),some (.ref p3),some (.ref p4),some (.ref p5),some (.bl b)]/\Same H5 H'/\(b=true↔∃q∈L,wd q.1="take"∨dvN q.1=true),?_,?_⟩
   ·refine⟨_,rfl,p3,_,rfl,.inl (SqL.of hp35),rfl,Z5y _,_,rfl,Z1e (fun g=>?_) (fun g=>?_)⟩
    ·obtain⟨q,hq,hw⟩:=tk.mp g
     exact⟨true,rfl,Same.refl _,fun _=>⟨q,hq,.inl hw⟩,fun _=>rfl⟩
    ·refine⟨_,rfl,Nat.zero_le _,fun p6 hp6=>?_⟩
     have s6:=Z01 (o:=.lst []) hp6
     have hfd:∀d∈(dvL L).filter Z4o,plT d=true/\L2.dp d<=10:=fun d hd=>let ⟨a,b,_⟩:=hds d (mem_filter.mp hd).1;⟨a,b⟩
     refine⟨(dvL L).filter Z4o,[],.lst (s6 _ _ hp5) (IsThs.kp (Kp.of s6) hvs),.lst Z00 .nil,Z21 fun d hd=>(hfd d hd).1,rfl,Zg6 fun d hd=>Nat.le_trans (hfd d hd).2 (by decide),by decide+kernel,fun e=>?_,fun e=>?_⟩
     ·refine⟨false,rfl,s6,(fun z=>by cases z),fun⟨q,hq,z⟩=>?_⟩
      rcases z with z|z
      ·exact absurd (tk.mpr ⟨q,hq,z⟩) g
      ·exact absurd e (wi.mpr ⟨q,hq,z⟩)
     ·obtain⟨q,hq,z⟩:=wi.mp e
      exact⟨true,rfl,s6,fun _=>⟨q,hq,.inr z⟩,fun _=>rfl⟩
   rintro σ6 H6 ⟨b,rfl,s6,hb⟩
   have s16:=((s2.trans s3).trans s35).trans s6
   have s26:=(s3.trans s35).trans s6
   have snu:∀q∈L,(∀x∈rdN q,x∈U)/\∀x∈chN q,x∈U:=fun q hq=>by
    obtain⟨S,N,e,_,b⟩:=hLo q hq
    have:=Zke (h:=q.2) b
    rw[e] at this
    exact this
   have inR:∀x∈L.flatMap rdN,x∈U:=fun x hx=>by
    obtain⟨q,hq,hm⟩:=mem_flatMap.mp hx
    exact(snu q hq).1 x hm
   have inC:∀x∈L.flatMap chN,x∈U:=fun x hx=>by
    obtain⟨q,hq,hm⟩:=mem_flatMap.mp hx
    exact(snu q hq).2 x hm
   have fR:=Zbs inR
   have fC:=Zbs inC
   refine⟨_,rfl,p1,L.flatMap rdN,rfl,SqL.of (s16 _ _ hp1),by omega,fun a1 ha1=>?_⟩
   have t1:=Z01 (o:=Zgz P w a1 (Stx.ofL (L.flatMap rdN))) ha1
   refine⟨a1,_,rfl,Z00,by omega,fun u1 a2 pu1 su1 ha2=>?_⟩
   have t2:=Z01 (o:=.lst (u1.map V.str)) ha2
   refine⟨a2,_,rfl,.inl ⟨SqL.of Z00,fun a3 ha3=>?_⟩⟩
   have t3:=Z01 (o:=.tup (u1.map V.str)) ha3
   have t13:=(t1.trans t2).trans t3
   have ha3':=fun Hx:Hp=>Z00 (a:=a3) (o:=HO.tup (u1.map V.str)) (H:=Hx)
   refine⟨_,rfl,p2,L.flatMap chN,rfl,SqL.of ((s26.trans t13) _ _ hp2),by omega,fun b1 hb1=>?_⟩
   have r1:=Z01 (o:=Zgz P w b1 (Stx.ofL (L.flatMap chN))) hb1
   refine⟨b1,_,rfl,Z00,by omega,fun u2 b2 pu2 su2 hb2=>?_⟩
   have r2:=Z01 (o:=.lst (u2.map V.str)) hb2
   refine⟨b2,_,rfl,.inl ⟨SqL.of Z00,fun b3 hb3=>?_⟩⟩
   have r3:=Z01 (o:=.tup (u2.map V.str)) hb3
   have r13:=(r1.trans r2).trans r3
   have hb3':=fun Hx:Hp=>Z00 (a:=b3) (o:=HO.tup (u2.map V.str)) (H:=Hx)
   have s38:=((s35.trans s6).trans t13).trans r13
   have hp38:=s38 _ _ hp3
   refine⟨_,rfl,p3,_,rfl,.inl (SqL.of hp38),rfl,Z5y _,_,rfl,p3,_,rfl,.inl (SqL.of hp38),rfl,Z5y _,_,rfl,(by show 5<=sizeLine;decide),fun p hp=>?_⟩
   have s9:=Z01 (o:=.tup [.ref a3,.ref b3,.bl (inV (.str "say") ((L.map fun q=>wd q.1).map V.str)),.bl (inV (.str "take") ((L.map fun q=>wd q.1).map V.str)),.bl b]) hp
   have m1:∀x,x∈u1↔∃q∈L,x∈rdN q:=fun x=>by rw[pu1.mem_iff,Stx.ofL_mem,mem_flatMap]
   have m2:∀x,x∈u2↔∃q∈L,x∈chN q:=fun x=>by rw[pu2.mem_iff,Stx.ofL_mem,mem_flatMap]
   have n1:∀x∈u1,Nm x:=fun x hx=>hUn x (inR x ((Stx.ofL_mem _ x).mp (pu1.mem_iff.mp hx)))
   have n2:∀x∈u2,Nm x:=fun x hx=>hUn x (inC x ((Stx.ofL_mem _ x).mp (pu2.mem_iff.mp hx)))
   refine k p ⟨u1,u2,_,_,b⟩ _ (((s03.trans s38).trans s9)) (.tup Z00 (.cons (.tup ((r13.trans s9) _ _ (ha3' _)) (Z5x n1)) (.cons (.tup (s9 _ _ (hb3' _)) (Z5x n2)) (.cons (.at rfl) (.cons (.at rfl) (.cons (.at rfl) .nil)))))) ⟨su1,pu1.nodup_iff.mpr (Zat _),m1,su2,pu2.nodup_iff.mpr (Zat _),m2,sy,tk,hb⟩
end
def Zq6 (T:Tr):List Th:=[Zm4 T.r,Zm4 T.c,.at (.bl T.s),.at (.bl T.t),.at (.bl T.f)]
def Zkf (l:List Str):List PV:=l.map fun x=>PV.at (.str x)
def trP (T:Tr):List PV:=[.tup (Zkf T.r),.tup (Zkf T.c),.at (.bl T.s),.at (.bl T.t),.at (.bl T.f)]
theorem Zbw {K:W.Frag}{H:Hp}{n:Nat}:∀l:List Str,IsPVs K H n (l.map V.str) (Zkf l)
 |[]=>.nil
 |x::l=>.cons (.at rfl) (Zbw l)
theorem Zhk:∀l:List Str,Z1y (Zkf l) (Zkf l)=true
 |[]=>by unfold Zkf;rw[map_nil,Z1y]
 |x::l=>by
  have e:Zkf (x::l)=PV.at (.str x)::Zkf l:=rfl
  rw[e,Z1y,Zhk l,Z67,Bool.and_true]
  exact beq_self_eq_true x
theorem Zol (T:Tr):Z1y (trP T) (trP T)=true:=by
 unfold trP
 simp only [Z1y,Z67,Zhk,eqV,beq_self_eq_true,Bool.and_self]
theorem Zkg {K:W.Frag}{H:Hp}{p:Addr}{T:Tr}(h:IsTh H (.ref p) (trT T)):∃vs,SqT K H p vs/\IsPVs K H 12 vs (trP T):=by
 obtain⟨p',a,b,e,h1,h2,h3⟩:=IsTr.of (K:=K) h
 cases e
 exact⟨_,h1,.cons (.tup (n:=11) h2 (Zbw _)) (.cons (.tup (n:=11) h3 (Zbw _)) (.cons (.at rfl) (.cons (.at rfl) (.cons (.at rfl) .nil))))⟩
theorem Zmd (T:Tr):∀(j:Nat) (t:Th),(Zq6 T)[j]? = some t->Zn9 t=decide ((1:Int)<0+(j:Int))/\isTup t=decide (0+(j:Int)<(2:Int))
 | 0,t,h=>by cases h;exact⟨rfl,rfl⟩
 | 1,t,h=>by cases h;exact⟨rfl,rfl⟩
 | 2,t,h=>by cases h;exact⟨rfl,rfl⟩
 | 3,t,h=>by cases h;exact⟨rfl,rfl⟩
 | 4,t,h=>by cases h;exact⟨rfl,rfl⟩
 |_+5,t,h=>by cases h
inductive spAlike_ (vs:List V)(H:Hp)(Q:VK):Prop
 |mk (p q:Addr) (T:Tr) (_:vs = [.ref p,.ref q]) (_:IsTh H (.ref p) (trT T)) (_:IsTh H (.ref q) (trT T)) (_:Q (.bl true) H):spAlike_ vs H Q
def spAlike:Sp:=fun vs H Q _=>spAlike_ vs H Q
abbrev Zr3:List Str:=["_law_found","_law_due","_law_k"]
section
variable {P:Program}{w:World}{K:W.Frag}{mg:Str->Option Value}{base:Heap}
theorem scAlike:FnScope Zr3 ["_law_found","_law_due"] (Z04 Z7y):=.q
theorem Zjr {f:Addr}{fd:FuncData}(F:Fun K "_law_alike" "_law_alike" Z7y f fd)(T:TxtT mg)(KI:Kits K)(hrange:mg "range"=none):FnOk P w K mg base CX0 1 f fd ["_law_found","_law_due"] spAlike:=by
 refine F.ok scAlike (fun vs H Q E h=>?_) (fun cdv A outer s H vs Q E hr h=>?_)
 ·obtain⟨p,q,R,rfl,_⟩:=h
  rfl
 ·obtain⟨p,q,R,rfl,hp,hq,k⟩:=h
  have hsz:=sizeLine_eq
  have hu12:(A.deeper (envOfC "_law_alike" (Z04 Z7y) s.heap.objs.size f cdv)).units+(12+1)<cLine:=by have:=hr.un;omega
  refine'⟨?tt,?body,?fin⟩
  case body=>
   refine' Z05 ?s1 (Z05 ?s2 (Z07 ?s3))
   case s1=>
    refine' Z11 (Z66 (Z7l (Z5z ?a1)) (Z66 ?a2 (Z60 ?a3))).pt (Z07 (Z0h Z34)) Z0k
    case a1=>exact Z0r Z3t (by rfl) T.isi (by decide+kernel) (Z0e (pv 0) (Z0e (Z4s (v:=.ty "tuple") (by rfl) T.tup (by decide+kernel) rfl) Z02))
    case a2=>exact Z09 Zdi (Z0r Z0u (by rfl) T.len PySem.boot_len (Z0e (pv 0) Z02)) Z03 (Z0i _)
    case a3=>exact Z09 (Zfl 12 hu12) (pv 0) (pv 1) (Z0i _)
   case s2=>
    refine' Z43 PassesOwn.never rfl (Z2i (by rfl) hrange (Z18 Z03 Z02)) (Z0l (i:=2) scAlike.nd rfl (Or.inl rfl)) (Z07 ?b)
    case b=>
     refine' Z11 (Z66 ?a1 (Z60 ?a2)).pt (Z07 (Z0h Z34)) Z0k
     case a1=>exact Z09 Zdi (Z0r Z3t (by rfl) T.isi (by decide+kernel) (Z0b (Z0q Z0x (pv 0) (pv 2) (fun _ _=>rfl)) (Z0e (Z4s (v:=.ty "bool") (by rfl) T.bl (by decide+kernel) rfl) Z02))) (Z44 Zht (pv 2) Z03 (Z0i _)) (Z0i _)
     case a2=>exact Z09 Zdi (Z0r Z3t (by rfl) T.isi (by decide+kernel) (Z0b (Z0q Z0x (pv 0) (pv 2) (fun _ _=>rfl)) (Z0e (Z4s (v:=.ty "tuple") (by rfl) T.tup (by decide+kernel) rfl) Z02))) (Z44 Z9p (pv 2) Z03 (Z0i _)) (Z0i _)
   case s3=>exact Z0h Z34
  case fin=>
   have hp':IsTh H (.ref p) (.tup (Zq6 R)):=hp
   have hq':IsTh H (.ref q) (.tup (Zq6 R)):=hq
   obtain⟨p',vs,e0,ha,hvs⟩:=Z13 hp'
   cases e0
   have hl:vs.length=5:=IsThs.len _ hvs
   refine⟨_,rfl,_,_,_,_,rfl,Zb7 hp',KI.tup hp',_,rfl,Za2 ?_⟩
   refine⟨_,rfl,p,vs,rfl,.inr (SqT.of ha),rfl,_,rfl,Z1e (fun g=>?_) (fun _=>?_)⟩
   ·rw[hl,show decide (V.int ((5:Nat):Int)=V.int 5)=true from decide_eq_true rfl] at g
    cases g
   obtain⟨v1,y1,y2⟩:=Zkg (K:=K) hp
   obtain⟨v2,y3,y4⟩:=Zkg (K:=K) hq
   refine⟨_,rfl,_,rfl,p,q,_,_,_,_,rfl,rfl,y1,y2,y3,y4,_,rfl,Z1e (fun g=>?_) (fun _=>?_)⟩
   ·rw[Zol] at g
    cases g
   refine⟨5,rfl,by decide,by decide,Z3d (n:=5) (fun i σ H'=>∃(o:Option V),σ = [some (.ref p),some (.ref q),o]/\H'=H) ⟨_,rfl,rfl⟩ ?_ ?_⟩
   ·rintro j σ H1 hj ⟨o,rfl,rfl⟩
    have hjl:j<vs.length:=by rw[hl];exact hj
    have hx:vs[j]? = some vs[j]:=List.getElem?_eq_getElem hjl
    obtain⟨t,ht,hut⟩:=Z1c _ hvs hx
    obtain⟨k1,k2⟩:=Zmd R j t ht
    have hat:=Z5d hx
    have c1:=KI.bl hut
    have c2:=KI.tup hut
    rw[k1] at c1
    rw[k2] at c2
    refine⟨_,rfl,_,rfl,p,_,_,_,rfl,rfl,SqT.of ha,hat,_,_,_,_,rfl,Zb7 hut,c1,_,rfl,_,_,rfl,rfl,rfl,_,rfl,Z1e (fun g=>?_) (fun _=>?_)⟩
    ·rw[decide_eq_true rfl] at g
     cases g
    refine⟨_,rfl,_,rfl,p,_,_,_,rfl,rfl,SqT.of ha,hat,_,_,_,_,rfl,Zb7 hut,c2,_,rfl,_,_,rfl,rfl,rfl,_,rfl,Z1e (fun g=>?_) (fun _=>⟨_,rfl,rfl⟩)⟩
    rw[decide_eq_true rfl] at g
    cases g
   ·rintro σ H1 ⟨o,rfl,rfl⟩
    exact k
end
inductive spLaw_ (K:W.Frag)(vs:List V)(H:Hp)(Q:VK):Prop
 |mk (a:Addr) (ns:List Int) (_:vs = [.ref a]) (_:SqL K H a (ns.map V.int)) (_:ns.length<=63) (_:∀H',Q (.bl true) H'):spLaw_ K vs H Q
def Zjs (K:W.Frag):Sp:=fun vs H Q _=>spLaw_ K vs H Q
abbrev Zr4:List Str:=["_law_script","_law_feed_here","_law_functions","_law_world_here","_law_program","_law_called_here","_law_k","_law_pool","_law_at","_law_holds","_law_b","_law_due"]
def nuT:Th:=nd "num" [.int 0] []
structure LL (H:Hp)(d l wd ca pr:Addr)(a:WA)(T1 T2:List Str)(kv:List V)(kvs ck:List (Key×V))(fs:List Fd)(ns:List Int)(n:Nat)(r z:Int):Prop where
 F:Feed H d l ns n
 W:H wd=some (.dK (Z0p a r z))
 N:Wf (nmS (T1++T2) fs) 0 H d wd a ⟨T1,T2,kv,[],[],Z9i fs,kvs⟩
 C:H ca=some (.dK ck)
 K:Called H fs ck
 P:IsTh H (.ref pr) (prT fs nuT)
 c1:ca≠d
 c2:ca≠wd
section
variable {H H2:Hp}{d l wd ca pr:Addr}{a:WA}{T1 T2:List Str}{kv:List V}{kvs ck:List (Key×V)}{fs:List Fd}{ns:List Int}{n n2:Nat}{r z r2 z2:Int}
theorem LL.go (C:LL H d l wd ca pr a T1 T2 kv kvs ck fs ns n r z)(b:But2 d wd H H2)(F2:Feed H2 d l ns n2)(W2:H2 wd=some (.dK (Z0p a r2 z2))):LL H2 d l wd ca pr a T1 T2 kv kvs ck fs ns n2 r2 z2:=
 have k:=b.kp C.F C.W
 ⟨F2,W2,C.N.go k b,b _ _ C.C C.c1 C.c2,C.K.kp k,IsTh.kp k C.P,C.c1,C.c2⟩
theorem LL.draw (C:LL H d l wd ca pr a T1 T2 kv kvs ck fs ns n r z)(b:But d H H2)(F2:Feed H2 d l ns n2):LL H2 d l wd ca pr a T1 T2 kv kvs ck fs ns n2 r z:=
 C.go (But2.of b) F2 (b wd _ C.W (Z92 C.F C.W))
theorem LL.same (C:LL H d l wd ca pr a T1 T2 kv kvs ck fs ns n r z)(s:Same H H2):LL H2 d l wd ca pr a T1 T2 kv kvs ck fs ns n r z:=
 C.go (But2.same s) (C.F.same s) (s _ _ C.W)
end
theorem cD5:cD 5=62200:=by decide+kernel
structure LwF where
 e:PrF
 y:TvF
 fF:Addr
 fS:Addr
 fC:Addr
 fB:Addr
 fN:Addr
 fL:Addr
 fA:Addr
 fT:Addr
 dF:FuncData
 dS:FuncData
 dC:FuncData
 dB:FuncData
 dN:FuncData
 dL:FuncData
 dA:FuncData
 dT:FuncData
structure Lw (K:W.Frag)(mg:Str->Option Value)(p:LwF):Prop where
 E:Pr K mg p.e
 Y:Tvp K mg p.y
 F:Fn K mg "_law_feed" Zfy ["_law_script"] p.fF p.dF
 S:Fn K mg "_law_setting" Z3u ["_law_feed_here","_law_room"] p.fS p.dS
 C:Fn K mg "_law_called_by" Z4a ["_law_functions"] p.fC p.dC
 B:Fn K mg "_law_bare" Z3v ["_law_e","_law_lets"] p.fB p.dB
 N:Fn K mg "_law_seen" Ze1 Zay p.fN p.dN
 L:Fn K mg "_law_traits" Z1j ["_law_seen_here"] p.fL p.dL
 A:Fn K mg "_law_alike" Z7y ["_law_found","_law_due"] p.fA p.dA
 T:Fn K mg "traits" Z6t ["program","b","held"] p.fT p.dT
 TS:TxtS mg
def Zhl (N:Nat):Sp:=fun vs H Q E=>∃S,Zjj S N vs H Q E
def Zen (N M:Nat):Sp:=fun vs H Q E=>∃S,Zhe S N M vs H Q E
section
variable {P:Program}{w:World}{K:W.Frag}{mg:Str->Option Value}{base:Heap}{p:LwF}
theorem scLaw:FnScope Zr4 ["_law_script"] (Z04 Zl2):=.q
theorem Zom {f:Addr}{fd:FuncData}(F:Fun K "law" "law" Zl2 f fd)(Y:Lw K mg p):FnOk P w K mg base CX0 28 f fd ["_law_script"] (Zjs K):=by
 have G:=Y.E.E.G
 have T:=G.X.T
 have T0:=G.U.T
 have GF:FnOk P w K mg base CX0 1 p.fF p.dF ["_law_script"] (Zk3 K):=Zl4 Y.F.F T0
 have GS:FnOk P w K mg base CX0 13 p.fS p.dS ["_law_feed_here","_law_room"] spSetting:=Zej Y.S.F Y.E
 have GC:FnOk P w K mg base CX0 7 p.fC p.dC ["_law_functions"] spCalledBy:=Zbv Y.C.F Y.B G.X
 have GD:FnOk P w K mg base CX0 1 p.e.x.g.fD p.e.x.g.dD ["_law_feed_here","_law_many"] spDraw:=G.gD
 have GE:FnOk P w K mg base CX0 14 p.e.x.fE p.e.x.dE ["_law_feed_here","_law_world_here","_law_bound_here","_law_below","_law_times"] (Zh8 0 5):=FnOk.ex fun S=>Y.E.E.gE (M:=0) 5
 have GB:FnOk P w K mg base CX0 7 p.fB p.dB ["_law_e","_law_lets"] (Z8e 5):=FnOk.ex fun S=>Z8d Y.B G.X 5
 have GN:FnOk P w K mg base CX0 7 p.e.x.g.fN p.e.x.g.dN ["_law_e"] (Zhl 5):=FnOk.ex fun S=>Z8z Zbr G.N.F G.N.b G.N.m G.X.T G.X.KI G.sum G.X.P G.X.bP G.X.mP 5
 have GX:FnOk P w K mg base CX0 8 p.e.x.g.fX p.e.x.g.dX ["_law_e","_law_at","_law_leaf_here"] (Zen 5 1):=FnOk.ex fun S=>Zai Zbr G.S.F G.S.b G.S.m G.X T0.range G.sum G.N.F G.N.b G.N.m 1 5
 have GW:FnOk P w K mg base CX0 27 p.fN p.dN Zay (Zdb 3 6):=Zm8 Y.N G.X 3 6
 have GL:FnOk P w K mg base CX0 1 p.fL p.dL ["_law_seen_here"] (Zhj K):=Zjq Y.L.F Y.TS
 have GA:FnOk P w K mg base CX0 1 p.fA p.dA ["_law_found","_law_due"] spAlike:=Zjr Y.A.F T G.X.KI T0.range
 have GT:FnOk P w K mg base CX0 7 p.fT p.dT ["program","b","held"] (Zd9 6):=Zhg Y.T.F Y.Y 6
 refine F.ok scLaw (fun vs H Q E h=>?_) (fun cdv A outer s H vs Q E hr h=>?_)
 ·obtain⟨a,ns,rfl,_⟩:=h
  rfl
 ·obtain⟨a,ns,rfl,hS,hlen,k⟩:=h
  have hsz:=sizeLine_eq
  have hu:=Zb3 hr
  have hr1:Room 1 _:=hr.mono (by decide)
  have hr7:Room 7 _:=hr.mono (by decide)
  have hr8:Room 8 _:=hr.mono (by decide)
  have hr13:Room 13 _:=hr.mono (by decide)
  have hr14:Room 14 _:=hr.mono (by decide)
  refine'⟨?tt,?body,?fin⟩
  case body=>
   refine' Z05 ?s1 ?r1
   case s1=>exact Z0a (i:=1) scLaw.nd rfl (Or.inl rfl) (Z06 GF hr1 (by rfl) Y.F.m Y.F.F.kp Y.F.b .nil Z0f (Z0e (pv 0) Z02))
   case r1=>
    refine' Z0g ?s2 ?r2
    case s2=>exact Z9m (Z06 GS hr13 (by rfl) Y.S.m Y.S.F.kp Y.S.b .nil Z0f (Z0e (pv 1) (Z18 Z03 Z02))) (Z4y rfl (Z17 (Z0l (i:=2) scLaw.nd rfl (Or.inl rfl)) (Z17 (Z0l (i:=3) scLaw.nd rfl (Or.inl rfl)) Z3s)))
    case r2=>
     refine' Z05 ?s3 ?r3
     case s3=>exact Z0a (i:=4) scLaw.nd rfl (Or.inl rfl) (Z0v (Z0e (pv 2) (Z9g (Z0v (Z18 Z08 (Z18 Z03 Z02))) Z02)))
     case r3=>
      refine' Z0g ?s4 (Z05 ?s5 (Z07 ?s6))
      case s4=>exact Z0a (i:=5) scLaw.nd rfl (Or.inl rfl) (Z06 GC hr7 (by rfl) Y.C.m Y.C.F.kp Y.C.b .nil Z0f (Z0e (pv 2) Z02))
      case s6=>exact Z0h Z34
      case s5=>
       refine' Z43 PassesOwn.never rfl (Z2i (by rfl) T0.range (Z18 Z03 Z02)) (Z0l (i:=6) scLaw.nd rfl (Or.inl rfl)) ?blk
       case blk=>
        refine' Z0g ?c1 ?q1
        case c1=>exact Z0a (i:=7) scLaw.nd rfl (Or.inl rfl) (Z0m Z2d (Z0t hu (pv 3) Z08 (fun _ _=>rfl)) (Z1d Z2l (Z0t hu (pv 3) Z08 (fun _ _=>rfl)) Z1p (Z1m Z03)))
        case q1=>
         refine' Z05 ?c2 ?q2
         case c2=>exact Z0a (i:=8) scLaw.nd rfl (Or.inl rfl) (Z06 GD hr1 (by rfl) G.U.mD G.U.D.kp G.U.bD .nil Z0f (Z0e (pv 1) (Z2h (Z0r Z0u (by rfl) T0.len PySem.boot_len (Z0e (pv 7) Z02)) Z02)))
         case q2=>
          refine' Z0g ?c3 ?q3
          case c3=>exact Z0a (i:=9) scLaw.nd rfl (Or.inl rfl) (Z1d Z2l (Z0m Z2d (Z1d Z2l (pv 7) (Z1m (pv 8)) Z1p) (Z1d Z2l (pv 7) Z1p (Z1m (pv 8)))) Z1p (Z1m (Z06 GD hr1 (by rfl) G.U.mD G.U.D.kp G.U.bD .nil Z0f (Z0e (pv 1) (Z18 Z03 Z02)))))
          case q3=>
           refine' Z05 ?c4 ?q4
           case c4=>exact Z2n hu (pv 3) Z08 Z03 (by rfl)
           case q4=>
            refine' Z0g ?c5 ?q5
            case c5=>exact Z0a (i:=10) scLaw.nd rfl (Or.inl rfl) (Z06 GB hr7 (by rfl) Y.B.m Y.B.F.kp Y.B.b .nil Z0f (Z2h (Z06 GE hr14 (by rfl) Y.E.E.E.m Y.E.E.E.F.kp Y.E.E.E.b .nil Z0f (Z0e (pv 1) (Z0e (pv 3) (Z0e (pv 9) (Z18 Z03 (Z18 Z03 Z02)))))) (Z0b (Z14 Z02) Z02)))
            case q5=>
             refine' Z0g ?c6 ?q6
             case c6=>
              refine' Z11 (Z09 Z1f (Z06 GD hr1 (by rfl) G.U.mD G.U.D.kp G.U.bD .nil Z0f (Z0e (pv 1) (Z18 Z03 Z02))) Z03 (Z0i _)) (Z07 ?b) Z0k
              case b=>exact Z0a (i:=10) scLaw.nd rfl (Or.inl rfl) (Z06 GX hr8 (by rfl) G.S.m G.S.F.kp G.S.b .nil Z0f (Z0e (pv 10) (Z2h (Z06 GD hr1 (by rfl) G.U.mD G.U.D.kp G.U.bD .nil Z0f (Z0e (pv 1) (Z2h (Z06 GN hr7 (by rfl) G.N.m G.N.F.kp G.N.b .nil Z0f (Z0e (pv 10) Z02)) Z02))) (Z9g (Z0v (Z18 Z08 (Z2h (Z06 GD hr1 (by rfl) G.U.mD G.U.D.kp G.U.bD .nil Z0f (Z0e (pv 1) (Z18 Z03 Z02))) Z02))) Z02))))
             case q6=>
              refine' Z0g ?c7 (Z07 ?c8)
              case c7=>exact Z0a (i:=11) scLaw.nd rfl (Or.inl rfl) (Z06 GL hr1 (by rfl) Y.L.m Y.L.F.kp Y.L.b .nil Z0f (Z2h (Z06 GW hr (by rfl) Y.N.m Y.N.F.kp Y.N.b .nil Z0f (Z0e (pv 10) (Z2h (Z15 Z0w (by rfl) T.tup (by decide+kernel) (Z0e (pv 9) Z02)) (Z0e (pv 5) Z02)))) Z02))
              case c8=>
               refine' Z11 (Z7l (Z5z ?e)) (Z07 (Z0h Z34)) Z0k
               case e=>exact Z06 GA hr1 (by rfl) Y.A.m Y.A.F.kp Y.A.b .nil Z0f (Z2h (Z06 GT hr7 (by rfl) Y.T.m Y.T.F.kp Y.T.b .nil Z0f (Z0e (pv 4) (Z0e (pv 10) (Z2h (Z15 Z0w (by rfl) T.tup (by decide+kernel) (Z0e (pv 9) Z02)) Z02)))) (Z0e (pv 11) Z02))
  case fin=>
   refine⟨_,rfl,a,ns,rfl,hS,hlen,fun d l H1 F1 _ s1=>?_⟩
   refine⟨fun σ' H'=>∃(q tp wd:Addr) (wa:WA) (T1 T2:List Str) (kv:List V) (kvs:List (Key×V)) (fs:List Fd) (n:Nat),σ' = [some (.ref a),some (.ref d),some (.ref tp),some (.ref wd),none,none,none,none,none,none,none,none]/\Set' H' d l q tp wd wa T1 T2 kv kvs fs ns n 50/\n<=50000,?_,?_⟩
   ·refine⟨_,rfl,d,l,ns,0,50,rfl,F1,by decide,by decide,by decide,fun q tp wd wa T1 T2 kv kvs fs n H2 S2 hn b2=>?_⟩
    exact⟨q,_,rfl,SqT.of S2.pQ,rfl,_,_,rfl,_,_,rfl,rfl,q,tp,wd,wa,T1,T2,kv,kvs,fs,n,rfl,S2,by omega⟩
   clear F1 s1 hS
   rintro σ2 H2 ⟨q,tp,wd,wa,T1,T2,kv,kvs,fs,n,rfl,S2,hn⟩
   refine⟨_,rfl,(by show 2<=sizeLine;decide),fun nu hnu=>⟨(by show 2<=sizeLine;decide),fun pr hpr=>?_⟩⟩
   have s3:=Z01 (o:=.tup [.str "num",.int 0]) hnu
   have s4:=Z01 (o:=.tup [.ref tp,.ref nu]) hpr
   have s24:=s3.trans s4
   have hP:IsTh (upd (upd H2 nu (.tup [.str "num",.int 0])) pr (.tup [.ref tp,.ref nu])) (.ref pr) (prT fs nuT):=.tup Z00 (.cons (IsTh.kp (Kp.of s24) S2.pF) (.cons (.tup (s4 _ _ Z00) (.cons (.at (by decide+kernel)) (.cons (.at rfl) .nil))) .nil))
   generalize upd (upd H2 nu (.tup [.str "num",.int 0])) pr (.tup [.ref tp,.ref nu])=H4 at s4 s24 hP
   have U7:(T1++T2).length<=7:=by rw[length_append];have:=S2.t5;have:=S2.t2;omega
   have hUn:∀x∈T1++T2,Nm x:=fun x hx=>(mem_append.mp hx).elim (fun z=>(S2.N.an x z).1) (fun z=>(S2.N.bn x z).1)
   refine⟨fun σ' H'=>∃(ca:Addr) (ck:List (Key×V)),σ' = [some (.ref a),some (.ref d),some (.ref tp),some (.ref wd),some (.ref pr),some (.ref ca),none,none,none,none,none,none]/\LL H' d l wd ca pr wa T1 T2 kv kvs ck fs ns n 50 500,?_,?_⟩
   ·refine⟨_,rfl,tp,fs,T1++T2,rfl,IsTh.kp (Kp.of s24) S2.pF,S2.fo,S2.fl,fun ca ck H5 s5 hca0 hca CN=>?_⟩
    have s25:=s24.trans s5
    refine⟨ca,ck,rfl,S2.F.same s25,s25 _ _ S2.W,S2.N.go (Kp.of s25) (But2.same s25),hca,CN,IsTh.kp (Kp.of s5) hP,fun e=>?_,fun e=>?_⟩
    ·rw[e,s24 _ _ S2.F.dc.choose_spec] at hca0
     cases hca0
    ·rw[e,s24 _ _ S2.W] at hca0
     cases hca0
   have hfo:=S2.fo
   have hfl:=S2.fl
   have hT1:=S2.t1
   have hT5:=S2.t5
   have hT2:=S2.t2
   have hmB:=fun x=>Nat.le_trans (Zma _ fs rfl hfo x) (mB3 hfl)
   clear S2 s3 s4 s24 hP
   rintro σ5 H5 ⟨ca,ck,rfl,C5⟩
   refine⟨4,rfl,by decide,by decide,Z3d (n:=4) (fun i σ H'=>∃(o6 o7 o8 o9 o10 o11:Option V) (n':Nat) (r z:Int),σ = [some (.ref a),some (.ref d),some (.ref tp),some (.ref wd),some (.ref pr),some (.ref ca),o6,o7,o8,o9,o10,o11]/\n'<=50000+i*63000/\LL H' d l wd ca pr wa T1 T2 kv kvs ck fs ns n' r z)
    ⟨_,_,_,_,_,_,n,50,500,rfl,by omega,C5⟩ ?_ ?_⟩
   rotate_left
   ·rintro σ H6 _
    exact k H6
   clear C5 hn
   rintro j σ H1 hj ⟨o6,o7,o8,o9,o10,o11,n,r,z,rfl,hn,C1⟩
   have hj4:j<4:=hj
   have hn0:n<=302000:=by omega
   refine⟨fun σ' H'=>∃(pl:Addr) (Tp:List Str),σ' = [some (.ref a),some (.ref d),some (.ref tp),some (.ref wd),some (.ref pr),some (.ref ca),some (.int (0+(j:Int))),some (.ref pl),o8,o9,o10,o11]/\H' pl=some (.lst (Tp.map V.str))/\3<=Tp.length/\Tp.length<=6/\(∀t∈Tp,Nm t/\t∈T1++T2)/\LL H' d l wd ca pr wa T1 T2 kv kvs ck fs ns n r z,?_,?_⟩
   ·refine⟨_,rfl,wd,.ref wa.nm,rfl,Z3o C1.W,_,rfl,wd,.ref wa.lt,rfl,Zak C1.W,1,rfl,wa.lt,_,rfl,SqL.of C1.N.lt,fun p1 hp1=>?_⟩
    rw[Z7b (by decide)]
    have s1:=Z01 (o:=.lst ((T2.map V.str).take (Int.toNat 1))) hp1
    have C3:=C1.same s1
    refine⟨wa.nm,p1,_,_,rfl,rfl,C3.N.nm,Z00,by rw[length_take,length_map,length_map];show T1.length+min (Int.toNat 1) T2.length<=sizeLine;omega,fun p2 hp2=>?_⟩
    have s2:=Z01 (o:=.lst (T1.map V.str++(T2.map V.str).take (Int.toNat 1))) hp2
    refine⟨p2,T1++T2.take 1,rfl,?_,?_,?_,?_,C3.same s2⟩
    ·show upd _ p2 _ p2=_
     rw[Z00,map_append,map_take]
     rfl
    ·rw[length_append,length_take];omega
    ·rw[length_append,length_take];omega
    ·intro t ht
     rcases mem_append.mp ht with y|y
     ·exact C1.N.an t y
     ·exact C1.N.bn t (mem_of_mem_take y)
   clear C1
   rintro σ3 H3 ⟨pl,Tp,rfl,hpl,hp3,hp6,hpn,C3⟩
   have hplen:((Tp.map V.str).length:Int)=(Tp.length:Int):=by rw[length_map]
   refine⟨_,rfl,_,rfl,pl,_,rfl,.inl (SqL.of hpl),d,l,ns,n,_,rfl,C3.F,by omega,by omega,by omega,fun at5 n5 H5 a0 a1 hn5 F5 b5=>?_⟩
   have C5:=C3.draw b5 F5
   have hpl5:=C3.F.lst b5 hpl
   refine⟨fun σ' H'=>∃(pa:Addr) (ps:List Str) (n':Nat),σ' = [some (.ref a),some (.ref d),some (.ref tp),some (.ref wd),some (.ref pr),some (.ref ca),some (.int (0+(j:Int))),some (.ref pl),some (.int at5),some (.ref pa),o10,o11]/\H' pa=some (.lst (ps.map V.str))/\ps.length<=6/\(∀t∈ps,Nm t/\t∈T1++T2)/\n'<=n+2/\LL H' d l wd ca pr wa T1 T2 kv kvs ck fs ns n' r z,?_,?_⟩
   ·refine⟨_,rfl,_,rfl,at5,rfl,pl,_,rfl,SqL.of hpl5,fun p1 hp1=>?_⟩
    rw[Z3k a0 (by omega)]
    have s1:=Z01 (o:=.lst ((Tp.map V.str).drop at5.toNat)) hp1
    refine⟨_,rfl,_,rfl,at5,rfl,pl,_,rfl,SqL.of (s1 _ _ hpl5),fun p2 hp2=>?_⟩
    rw[Zcg a0 (by omega)]
    have s2:=Z01 (o:=.lst ((Tp.map V.str).take at5.toNat)) hp2
    refine⟨p1,p2,_,_,rfl,rfl,s2 _ _ Z00,Z00,by rw[length_drop,length_take,length_map];omega,fun p3 hp3=>?_⟩
    have s3:=Z01 (o:=.lst ((Tp.map V.str).drop at5.toNat++(Tp.map V.str).take at5.toNat)) hp3
    have C6:=C5.same ((s1.trans s2).trans s3)
    refine⟨_,rfl,d,l,ns,n5,_,rfl,C6.F,by omega,by decide,by decide,fun mm n7 H7 q0 q1 hn7 F7 b7=>?_⟩
    have C7:=C6.draw b7 F7
    refine⟨mm,rfl,p3,_,rfl,SqL.of (C6.F.lst b7 Z00),fun pa hpa=>?_⟩
    rw[Z7b q0]
    have s8:=Z01 (o:=.lst (((Tp.map V.str).drop at5.toNat++(Tp.map V.str).take at5.toNat).take mm.toNat)) hpa
    refine⟨pa,(Tp.drop at5.toNat++Tp.take at5.toNat).take mm.toNat,n7,rfl,?_,?_,?_,by omega,C7.same s8⟩
    ·show upd _ pa _ pa=_
     rw[Z00,map_take,map_append,map_drop,map_take]
    ·rw[length_take];omega
    ·intro t ht
     rcases mem_append.mp (mem_of_mem_take ht) with y|y
     ·exact hpn t (mem_of_mem_drop y)
     ·exact hpn t (mem_of_mem_take y)
   clear C3 C5 hpl hpl5 F5 b5
   rintro σ7 H7 ⟨pa,ps,n7,rfl,hpa,hps6,hpsn,hn7,C7⟩
   refine⟨_,rfl,wd,_,rfl,Z71 (q:=22) C7.W,?_⟩
   have C8:LL (upd H7 wd (.dK (Z0p wa 22 z))) d l wd ca pr wa T1 T2 kv kvs ck fs ns n7 22 z:=C7.go But2.upd (C7.F.world C7.W) Z00
   have hpa8:upd H7 wd (.dK (Z0p wa 22 z)) pa=some (.lst (ps.map V.str)):=(But2.upd (d:=d)).kp C7.F C7.W _ _ hpa (fun _ z=>by cases z)
   generalize upd H7 wd (.dK (Z0p wa 22 z))=H8 at C8 hpa8
   clear C7 hpa
   refine⟨fun σ' H'=>∃(vb:V) (t:Th) (n':Nat) (r z:Int),σ' = [some (.ref a),some (.ref d),some (.ref tp),some (.ref wd),some (.ref pr),some (.ref ca),some (.int (0+(j:Int))),some (.ref pl),some (.int at5),some (.ref pa),some vb,o11]/\H' pa=some (.lst (ps.map V.str))/\IsTh H' vb t/\BfT (nmS (T1++T2) fs) 5 t/\cnt t<=47/\n'<=n7+62200/\LL H' d l wd ca pr wa T1 T2 kv kvs ck fs ns n' r z,?_,?_⟩
   ·have X8:Ctx (nmS (T1++T2) fs) 0 H8 H8 d l wd wa ⟨T1,T2,kv,[],[],Z9i fs,kvs⟩ pa ps ns n7 22 z:=⟨C8.F,C8.W,C8.N,hpa8,by omega,hpsn,But2.refl _ _ _⟩
    have e5:=cD5
    refine⟨_,rfl,_,rfl,_,rfl,nmS (T1++T2) fs,d,l,wd,_,_,pa,ps,ns,n7,22,z,5,1,rfl,by decide,by decide,by decide,by decide,by decide,?_,by omega,by omega,X8,fun v t n9 r9 z9 H9 h9 p9 c9 y1 y2 hn9 C9=>?_⟩
    ·have:=Z94 (N:=5) (by decide)
     have:=Zcn (5+1)
     omega
    have C9':=C8.go C9.b2 C9.F C9.W
    have p9':PfT (nmS (T1++T2) fs) 5 t:=p9
    refine⟨Nat.zero_le _,fun l1 hl1=>?_⟩
    have s10:=Z01 (o:=.lst []) hl1
    refine⟨_,v,l1,t,[],rfl,IsTh.kp (Kp.of s10) h9,p9',Z00,by decide,fun vb H11 s11 hvb=>?_⟩
    obtain⟨b1,b2⟩:=Z5w 5 p9' []
    have hcn:cnt t<=47:=by have:=y2 (by decide);omega
    exact⟨vb,shT t [],n9,r9,z9,rfl,(s10.trans s11) _ _ C9.B,hvb,b1,by rw[b2];exact hcn,by omega,C9'.same (s10.trans s11)⟩
   clear C8 hpa8
   rintro σ9 H9 ⟨vb,t,n9,r9,z9,rfl,hpa,hvb,bt,hct,hn9,C9⟩
   refine⟨fun σ' H'=>∃(vb:V) (t:Th) (n':Nat),σ' = [some (.ref a),some (.ref d),some (.ref tp),some (.ref wd),some (.ref pr),some (.ref ca),some (.int (0+(j:Int))),some (.ref pl),some (.int at5),some (.ref pa),some vb,o11]/\H' pa=some (.lst (ps.map V.str))/\IsTh H' vb t/\BfT (nmS (T1++T2) fs) 6 t/\Th.sz t<=282/\n'<=n9+3/\LL H' d l wd ca pr wa T1 T2 kv kvs ck fs ns n' r9 z9,?_,?_⟩
   ·have hz:=Zoc 5 bt
    refine⟨_,rfl,d,l,ns,n9,_,rfl,C9.F,by omega,by decide,by decide,fun x n10 H10 x0 x1 hn10 F10 b10=>⟨rfl,_,rfl,Z1e (fun g=>?_) (fun _=>?_)⟩⟩
    ·have C10:=C9.draw b10 F10
     have hpa10:=C9.F.lst b10 hpa
     have hvb10:=IsTh.kp (b10.kp C9.F) hvb
     have hpos:=Zoa bt
     refine⟨_,rfl,_,rfl,_,rfl,nmS (T1++T2) fs,vb,t,rfl,hvb10,bt,fun H11 s11=>?_⟩
     have C11:=C10.same s11
     refine⟨d,l,ns,n10,_,rfl,C11.F,by omega,by omega,by omega,fun y n12 H12 y0 y1 hn12 F12 b12=>?_⟩
     have C12:=C11.draw b12 F12
     have hpa12:=C11.F.lst b12 (s11 _ _ hpa10)
     have hvb12:=IsTh.kp (b12.kp C11.F) (IsTh.kp (Kp.of s11) hvb10)
     refine⟨_,rfl,d,l,ns,n12,_,rfl,C12.F,by omega,by decide,by decide,fun u n13 H13 u0 u1 hn13 F13 b13=>?_⟩
     have C13:=C12.draw b13 F13
     have hpa13:=C12.F.lst b13 hpa12
     have hvb13:=IsTh.kp (b13.kp C12.F) hvb12
     refine⟨(by show 2<=sizeLine;decide),fun ho hho=>?_⟩
     have s14:=Z01 (o:=.tup [.str "hole",.int u]) hho
     have hh:IsTh (upd H13 ho (.tup [.str "hole",.int u])) (.ref ho) (nd "hole" [.int u] []):=.tup Z00 (.cons (.at (by decide+kernel)) (.cons (.at rfl) .nil))
     have hb1:BfT (nmS (T1++T2) fs) 1 (nd "hole" [.int u] []):=⟨"hole",[.int u],[],rfl,Nat.le_refl _,Z1o rfl,fun z=>absurd z (by decide+kernel),.hole,Nat.zero_le _,fun k hk=>by cases hk⟩
     have hsh:Th.sz (nd "hole" [.int u] [])=3:=by rw[Zio];simp [szs,Th.sz]
     refine⟨nmS (T1++T2) fs,vb,.ref ho,y,t,nd "hole" [.int u] [],rfl,IsTh.kp (Kp.of s14) hvb13,bt,hh,hb1,fun v15 t15 H15 s15 hv15 b15 hz15=>?_⟩
     refine⟨v15,t15,n13,rfl,s15 _ _ (s14 _ _ hpa13),hv15,b15,?_,by omega,(C13.same s14).same s15⟩
     unfold bdS at hz15
     rw[hsh] at hz15
     omega
    ·exact⟨vb,t,n10,rfl,C9.F.lst b10 hpa,IsTh.kp (b10.kp C9.F) hvb,bt.le (by decide),by omega,by omega,C9.draw b10 F10⟩
   clear C9 hpa hvb bt hct
   rintro σ10 H10 ⟨vb,t,n10,rfl,hpa,hvb,bt,hz,hn10,C10⟩
   have hct:=Zkc t
   have hsl:(Z33 (Z4l fs) ps t).length<=16000000:=by
    have h1:=Zde (h:=ps) (t:=t) hmB
    have h2:cnt t*(25259+1)<=282*(25259+1):=Nat.mul_le_mul_right _ (by omega)
    omega
   refine⟨fun σ' H'=>∃(du:Addr) (R:Tr),σ' = [some (.ref a),some (.ref d),some (.ref tp),some (.ref wd),some (.ref pr),some (.ref ca),some (.int (0+(j:Int))),some (.ref pl),some (.int at5),some (.ref pa),some vb,some (.ref du)]/\Same H10 H'/\IsTh H' (.ref du) (trT R)/\TrOf (Z33 (Z4l fs) ps t) R,?_,?_⟩
   ·refine⟨_,rfl,_,rfl,pa,_,rfl,.inl ⟨SqL.of hpa,fun th hth=>?_⟩⟩
    have s11:=Z01 (o:=.tup (ps.map V.str)) hth
    have C11:=C10.same s11
    refine⟨_,rfl,vb,th,ca,t,ps,fs,T1++T2,ck,rfl,hfl,⟨IsTh.kp (Kp.of s11) hvb,bt,Z00,fun x hx=>(hpsn x hx).1,C11.C,C11.K,hfo,hsl⟩,fun sa ws H12 s12 hsa hws=>?_⟩
    refine⟨sa,ws,Z33 (Z4l fs) ps t,T1++T2,rfl,hsa,hws,hsl,Zdd (S:=nmS (T1++T2) fs) (by decide) bt fun x=>Zm9 _ fs rfl hfo x,by omega,hUn,fun du R H13 s13 hdu tr=>⟨du,R,rfl,(s11.trans s12).trans s13,hdu,tr⟩⟩
   rintro σ11 H11 ⟨du,R,rfl,s11,hdu,tr⟩
   have C11:=C10.same s11
   have hpa11:=s11 _ _ hpa
   refine⟨_,rfl,_,rfl,_,rfl,pa,_,rfl,.inl ⟨SqL.of hpa11,fun th hth=>?_⟩⟩
   have s12:=Z01 (o:=.tup (ps.map V.str)) hth
   have C12:=C11.same s12
   refine⟨.ref pr,vb,th,fs,nuT,t,T1++T2,ps,rfl,C12.P,hfo,hfl,by omega,hUn,IsTh.kp (Kp.of (s11.trans s12)) hvb,bt,by omega,Z00,fun q R2 H13 s13 hq tr2=>?_⟩
   have eR:=tr2.uniq tr
   subst eR
   refine⟨_,rfl,q,du,R2,rfl,hq,IsTh.kp (Kp.of (s12.trans s13)) hdu,_,rfl,Z1e (fun g=>by cases g) (fun _=>?_)⟩
   exact⟨_,_,_,_,_,_,n10,r9,z9,rfl,by omega,C12.same s13⟩
end
end K36
namespace K36
open PySem L2
theorem Zme {P:List Value->Prop}(h:P []):∀us:List Value,us.length=0->P us:=fun us e=>by
 cases us with
 |nil=>exact h
 |cons a r=>cases e
theorem Z1s {P:List Value->Prop}(h:∀a,P [a]):∀us:List Value,us.length=1->P us:=fun us e=>by
 cases us with
 |nil=>cases e
 |cons a r=>exact Zme (P:=fun r=>P (a::r)) (h a) r (Nat.succ.inj e)
theorem Z2q {P:List Value->Prop}(h:∀a b,P [a,b]):∀us:List Value,us.length=2->P us:=fun us e=>by
 cases us with
 |nil=>cases e
 |cons a r=>exact Z1s (P:=fun r=>P (a::r)) (h a) r (Nat.succ.inj e)
theorem Z3x {P:List Value->Prop}(h:∀a b c,P [a,b,c]):∀us:List Value,us.length=3->P us:=fun us e=>by
 cases us with
 |nil=>cases e
 |cons a r=>exact Z2q (P:=fun r=>P (a::r)) (h a) r (Nat.succ.inj e)
theorem Zmf {P:List Value->Prop}(h:∀a b c d,P [a,b,c,d]):∀us:List Value,us.length=4->P us:=fun us e=>by
 cases us with
 |nil=>cases e
 |cons a r=>exact Z3x (P:=fun r=>P (a::r)) (h a) r (Nat.succ.inj e)
theorem Z9f {P:List Value->Prop}(h:∀a b c d e,P [a,b,c,d,e]):∀us:List Value,us.length=5->P us:=fun us e=>by
 cases us with
 |nil=>cases e
 |cons a r=>exact Zmf (P:=fun r=>P (a::r)) (h a) r (Nat.succ.inj e)
theorem Zhm {P:List Value->Prop}(h:∀a b c d e f,P [a,b,c,d,e,f]):∀us:List Value,us.length=6->P us:=fun us e=>by
 cases us with
 |nil=>cases e
 |cons a r=>exact Z9f (P:=fun r=>P (a::r)) (h a) r (Nat.succ.inj e)
theorem Zmg {K:W.Frag}(kt_NoneType_int:PySem.W.kitOne K (.type "NoneType") (.type "int")=some false)(kt_bool_int:PySem.W.kitOne K (.type "bool") (.type "int")=some true)(kt_int_int:PySem.W.kitOne K (.type "int") (.type "int")=some true)(kt_str_int:PySem.W.kitOne K (.type "str") (.type "int")=some false)(kt_tuple_int:PySem.W.kitOne K (.type "tuple") (.type "int")=some false)(kt_list_int:PySem.W.kitOne K (.type "list") (.type "int")=some false)(kt_NoneType_bool:PySem.W.kitOne K (.type "NoneType") (.type "bool")=some false)(kt_bool_bool:PySem.W.kitOne K (.type "bool") (.type "bool")=some true)(kt_int_bool:PySem.W.kitOne K (.type "int") (.type "bool")=some false)(kt_str_bool:PySem.W.kitOne K (.type "str") (.type "bool")=some false)(kt_tuple_bool:PySem.W.kitOne K (.type "tuple") (.type "bool")=some false)(kt_list_bool:PySem.W.kitOne K (.type "list") (.type "bool")=some false)(kt_NoneType_tuple:PySem.W.kitOne K (.type "NoneType") (.type "tuple")=some false)(kt_bool_tuple:PySem.W.kitOne K (.type "bool") (.type "tuple")=some false)(kt_int_tuple:PySem.W.kitOne K (.type "int") (.type "tuple")=some false)(kt_str_tuple:PySem.W.kitOne K (.type "str") (.type "tuple")=some false)(kt_tuple_tuple:PySem.W.kitOne K (.type "tuple") (.type "tuple")=some true)(kt_list_tuple:PySem.W.kitOne K (.type "list") (.type "tuple")=some false):Kits K:=by
 refine⟨?i,?b,?t⟩
 case i=>
  intro H v t h
  cases h with
  | «at» f =>
   cases v with
   |non=>exact kt_NoneType_int
   |bl b=>exact kt_bool_int
   |int i=>exact kt_int_int
   |str x=>exact kt_str_int
   |_=>exact absurd (show false=true from f) Bool.false_ne_true
  |tup e r=>exact kt_tuple_int
  |lst e r=>exact kt_list_int
 case b=>
  intro H v t h
  cases h with
  | «at» f =>
   cases v with
   |non=>exact kt_NoneType_bool
   |bl b=>exact kt_bool_bool
   |int i=>exact kt_int_bool
   |str x=>exact kt_str_bool
   |_=>exact absurd (show false=true from f) Bool.false_ne_true
  |tup e r=>exact kt_tuple_bool
  |lst e r=>exact kt_list_bool
 case t=>
  intro H v t h
  cases h with
  | «at» f =>
   cases v with
   |non=>exact kt_NoneType_tuple
   |bl b=>exact kt_bool_tuple
   |int i=>exact kt_int_tuple
   |str x=>exact kt_str_tuple
   |_=>exact absurd (show false=true from f) Bool.false_ne_true
  |tup e r=>exact kt_tuple_tuple
  |lst e r=>exact kt_list_tuple
theorem Zmh {K:W.Frag}{r:Addr}{vs:List V}{od:Option Addr}{its:Array Value}{n:Nat}{sl:Array (Option Value)}(l:K.lookup r=some ⟨.type "tuple",od,.seq its n,sl⟩)(v:Vals vs its.toList)(hl:vs.length<=1000):∀H,SqT K H r vs:=fun H=>by
 have hsz:its.size<=sizeLine:=by
  have h:=v.length
  have e:its.toList.length=its.size:=Array.length_toList
  have h2:=sizeLine_eq
  omega
 exact .inr ⟨_,its,n,l,rfl,rfl,hsz,v⟩
abbrev hA (K:W.Frag)(n:Str)(f:Addr):Prop:=PySem.W.nsIn K mainGlobals n=some (some (.ref f))
abbrev hL (K:W.Frag)(n:Str)(S:Stmt)(f:Addr)(oc:Value)(od:Option Addr)(kV dc pm:Value)(an:Option Addr)(cd ct:Value)(sl:Array (Option Value)):Prop:=K.lookup f=some ⟨oc,od,.func (PySem.W.fnOf n n (Z0o S) (Z0n S) (Z04 S) .none kV dc pm an cd ct),sl⟩
abbrev hC (K:W.Frag)(cd:Value)(n:Str):Prop:=PySem.W.codeIn K cd n=true
abbrev hP (K:W.Frag)(f:Addr):Prop:=PySem.W.keepIn K (.ref f)=true
abbrev hZ (K:W.Frag)(n:Str):Prop:=PySem.W.nsIn K mainGlobals n=some none
abbrev hI (K:W.Frag)(a b:String)(v:Bool):Prop:=PySem.W.kitOne K (.type a) (.type b)=some v
theorem all_mk {l:PySem.W.OpenLaw}{w:World}{K:W.Frag}{h:Heap}{mg:Str->Option Value}{fa f0 f1 f2 f3 f4 f5 f6 f7 f8 f9 f10 f11 f12 f13 f14 f15 f16 f17 f18 f19 f20 f21 f22 f23 f24 f25 f26 f27 f28 f29 f30 f31 f32 f33 f34 f35 f36 f37 f38 f39 f40 aN e1 e2:Addr}(X:K.In h)(G:h.Ns mainGlobals mg)(hfa:mg "law"=some (.ref fa))
  {od0 an0 od1 an1 od2 an2 od3 an3 od4 an4 od5 an5 od6 an6 od7 an7 od8 an8 od9 an9 od10 an10 od11 an11 od12 an12 od13 an13 od14 an14 od15 an15 od16 an16 od17 an17 od18 an18 od19 an19 od20 an20 od21 an21 od22 an22 od23 an23 od24 an24 od25 an25 od26 an26 od27 an27 od28 an28 od29 an29 od30 an30 od31 an31 od32 an32 od33 an33 od34 an34 od35 an35 od36 an36 od37 an37 od38 an38 od39 an39 od40 an40:Option Addr} {sl0 sl1 sl2 sl3 sl4 sl5 sl6 sl7 sl8 sl9 sl10 sl11 sl12 sl13 sl14 sl15 sl16 sl17 sl18 sl19 sl20 sl21 sl22 sl23 sl24 sl25 sl26 sl27 sl28 sl29 sl30 sl31 sl32 sl33 sl34 sl35 sl36 sl37 sl38 sl39 sl40:Array (Option Value)} {oc0 kV0 dc0 pm0 cd0 ct0 oc1 kV1 dc1 pm1 cd1 ct1 oc2 kV2 dc2 pm2 cd2 ct2 oc3 kV3 dc3 pm3 cd3 ct3 oc4 kV4 dc4 pm4 cd4 ct4 oc5 kV5 dc5 pm5 cd5 ct5 oc6 kV6 dc6 pm6 cd6 ct6 oc7 kV7 dc7 pm7 cd7 ct7 oc8 kV8 dc8 pm8 cd8 ct8 oc9 kV9 dc9 pm9 cd9 ct9 oc10 kV10 dc10 pm10 cd10 ct10 oc11 kV11 dc11 pm11 cd11 ct11 oc12 kV12 dc12 pm12 cd12 ct12 oc13 kV13 dc13 pm13 cd13 ct13 oc14 kV14 dc14 pm14 cd14 ct14 oc15 kV15 dc15 pm15 cd15 ct15 oc16 kV16 dc16 pm16 cd16 ct16 oc17 kV17 dc17 pm17 cd17 ct17 oc18 kV18 dc18 pm18 cd18 ct18 oc19 kV19 dc19 pm19 cd19 ct19 oc20 kV20 dc20 pm20 cd20 ct20 oc21 kV21 dc21 pm21 cd21 ct21 oc22 kV22 dc22 pm22 cd22 ct22 oc23 kV23 dc23 pm23 cd23 ct23 oc24 kV24 dc24 pm24 cd24 ct24 oc25 kV25 dc25 pm25 cd25 ct25 oc26 kV26 dc26 pm26 cd26 ct26 oc27 kV27 dc27 pm27 cd27 ct27 oc28 kV28 dc28 pm28 cd28 ct28 oc29 kV29 dc29 pm29 cd29 ct29 oc30 kV30 dc30 pm30 cd30 ct30 oc31 kV31 dc31 pm31 cd31 ct31 oc32 kV32 dc32 pm32 cd32 ct32 oc33 kV33 dc33 pm33 cd33 ct33 oc34 kV34 dc34 pm34 cd34 ct34 oc35 kV35 dc35 pm35 cd35 ct35 oc36 kV36 dc36 pm36 cd36 ct36 oc37 kV37 dc37 pm37 cd37 ct37 oc38 kV38 dc38 pm38 cd38 ct38 oc39 kV39 dc39 pm39 cd39 ct39 oc40 kV40 dc40 pm40 cd40 ct40:Value} {tkN tkO tkC:Tok} {odN odE1 odE2:Option Addr} {slN slE1 slE2:Array (Option Value)} {itsN itsE1 itsE2:Array Value} {nN nE1 nE2:Nat}
  (a0:hA K "head" f0) (l0:hL K "head" Zbc f0 oc0 od0 kV0 dc0 pm0 an0 cd0 ct0 sl0) (c0:hC K cd0 "head") (k0:hP K f0)
  (a1:hA K "parts" f1) (l1:hL K "parts" Z64 f1 oc1 od1 kV1 dc1 pm1 an1 cd1 ct1 sl1) (c1:hC K cd1 "parts") (k1:hP K f1)
  (a2:hA K "steps" f2) (l2:hL K "steps" Z6s f2 oc2 od2 kV2 dc2 pm2 an2 cd2 ct2 sl2) (c2:hC K cd2 "steps") (k2:hP K f2)
  (a3:hA K "built" f3) (l3:hL K "built" Zae f3 oc3 od3 kV3 dc3 pm3 an3 cd3 ct3 sl3) (c3:hC K cd3 "built") (k3:hP K f3)
  (a4:hA K "own_number" f4) (l4:hL K "own_number" Z3l f4 oc4 od4 kV4 dc4 pm4 an4 cd4 ct4 sl4) (c4:hC K cd4 "own_number") (k4:hP K f4)
  (a5:hA K "owned" f5) (l5:hL K "owned" Zaf f5 oc5 od5 kV5 dc5 pm5 an5 cd5 ct5 sl5) (c5:hC K cd5 "owned") (k5:hP K f5)
  (a6:hA K "bare_head" f6) (l6:hL K "bare_head" Z49 f6 oc6 od6 kV6 dc6 pm6 an6 cd6 ct6 sl6) (c6:hC K cd6 "bare_head") (k6:hP K f6)
  (a7:hA K "bare_rows" f7) (l7:hL K "bare_rows" Z3m f7 oc7 od7 kV7 dc7 pm7 an7 cd7 ct7 sl7) (c7:hC K cd7 "bare_rows") (k7:hP K f7)
  (a8:hA K "bare" f8) (l8:hL K "bare" Zfx f8 oc8 od8 kV8 dc8 pm8 an8 cd8 ct8 sl8) (c8:hC K cd8 "bare") (k8:hP K f8)
  (a9:hA K "names_together" f9) (l9:hL K "names_together" Z2z f9 oc9 od9 kV9 dc9 pm9 an9 cd9 ct9 sl9) (c9:hC K cd9 "names_together") (k9:hP K f9)
  (a10:hA K "together" f10) (l10:hL K "together" Z1z f10 oc10 od10 kV10 dc10 pm10 an10 cd10 ct10 sl10) (c10:hC K cd10 "together") (k10:hP K f10)
  (a11:hA K "node_traits" f11) (l11:hL K "node_traits" Z30 f11 oc11 od11 kV11 dc11 pm11 an11 cd11 ct11 sl11) (c11:hC K cd11 "node_traits") (k11:hP K f11)
  (a12:hA K "form_traits" f12) (l12:hL K "form_traits" Z2f f12 oc12 od12 kV12 dc12 pm12 an12 cd12 ct12 sl12) (c12:hC K cd12 "form_traits") (k12:hP K f12)
  (a13:hA K "known_traits" f13) (l13:hL K "known_traits" Z2k f13 oc13 od13 kV13 dc13 pm13 an13 cd13 ct13 sl13) (c13:hC K cd13 "known_traits") (k13:hP K f13)
  (a14:hA K "traits" f14) (l14:hL K "traits" Z6t f14 oc14 od14 kV14 dc14 pm14 an14 cd14 ct14 sl14) (c14:hC K cd14 "traits") (k14:hP K f14)
  (a15:hA K "_law_feed" f15) (l15:hL K "_law_feed" Zfy f15 oc15 od15 kV15 dc15 pm15 an15 cd15 ct15 sl15) (c15:hC K cd15 "_law_feed") (k15:hP K f15)
  (a16:hA K "_law_draw" f16) (l16:hL K "_law_draw" Zfz f16 oc16 od16 kV16 dc16 pm16 an16 cd16 ct16 sl16) (c16:hC K cd16 "_law_draw") (k16:hP K f16)
  (a17:hA K "_law_value" f17) (l17:hL K "_law_value" Z3n f17 oc17 od17 kV17 dc17 pm17 an17 cd17 ct17 sl17) (c17:hC K cd17 "_law_value") (k17:hP K f17)
  (a18:hA K "_law_spelled" f18) (l18:hL K "_law_spelled" Z5b f18 oc18 od18 kV18 dc18 pm18 an18 cd18 ct18 sl18) (c18:hC K cd18 "_law_spelled") (k18:hP K f18)
  (a19:hA K "_law_name" f19) (l19:hL K "_law_name" Z36 f19 oc19 od19 kV19 dc19 pm19 an19 cd19 ct19 sl19) (c19:hC K cd19 "_law_name") (k19:hP K f19)
  (a20:hA K "_law_names" f20) (l20:hL K "_law_names" Zag f20 oc20 od20 kV20 dc20 pm20 an20 cd20 ct20 sl20) (c20:hC K cd20 "_law_names") (k20:hP K f20)
  (a21:hA K "_law_parts" f21) (l21:hL K "_law_parts" Z2a f21 oc21 od21 kV21 dc21 pm21 an21 cd21 ct21 sl21) (c21:hC K cd21 "_law_parts") (k21:hP K f21)
  (a22:hA K "_law_with" f22) (l22:hL K "_law_with" Ze0 f22 oc22 od22 kV22 dc22 pm22 an22 cd22 ct22 sl22) (c22:hC K cd22 "_law_with") (k22:hP K f22)
  (a23:hA K "_law_nodes" f23) (l23:hL K "_law_nodes" Z6u f23 oc23 od23 kV23 dc23 pm23 an23 cd23 ct23 sl23) (c23:hC K cd23 "_law_nodes") (k23:hP K f23)
  (a24:hA K "_law_work" f24) (l24:hL K "_law_work" Z4j f24 oc24 od24 kV24 dc24 pm24 an24 cd24 ct24 sl24) (c24:hC K cd24 "_law_work") (k24:hP K f24)
  (a25:hA K "_law_right" f25) (l25:hL K "_law_right" Z7x f25 oc25 od25 kV25 dc25 pm25 an25 cd25 ct25 sl25) (c25:hC K cd25 "_law_right") (k25:hP K f25)
  (a26:hA K "_law_leaf" f26) (l26:hL K "_law_leaf" Zg0 f26 oc26 od26 kV26 dc26 pm26 an26 cd26 ct26 sl26) (c26:hC K cd26 "_law_leaf") (k26:hP K f26)
  (a27:hA K "_law_turned" f27) (l27:hL K "_law_turned" Z5r f27 oc27 od27 kV27 dc27 pm27 an27 cd27 ct27 sl27) (c27:hC K cd27 "_law_turned") (k27:hP K f27)
  (a28:hA K "_law_spoilt" f28) (l28:hL K "_law_spoilt" Z6v f28 oc28 od28 kV28 dc28 pm28 an28 cd28 ct28 sl28) (c28:hC K cd28 "_law_spoilt") (k28:hP K f28)
  (a29:hA K "_law_copied" f29) (l29:hL K "_law_copied" Z4w f29 oc29 od29 kV29 dc29 pm29 an29 cd29 ct29 sl29) (c29:hC K cd29 "_law_copied") (k29:hP K f29)
  (a30:hA K "_law_bound" f30) (l30:hL K "_law_bound" Z6w f30 oc30 od30 kV30 dc30 pm30 an30 cd30 ct30 sl30) (c30:hC K cd30 "_law_bound") (k30:hP K f30)
  (a31:hA K "_law_called" f31) (l31:hL K "_law_called" Z4x f31 oc31 od31 kV31 dc31 pm31 an31 cd31 ct31 sl31) (c31:hC K cd31 "_law_called") (k31:hP K f31)
  (a32:hA K "_law_expr" f32) (l32:hL K "_law_expr" Z8t f32 oc32 od32 kV32 dc32 pm32 an32 cd32 ct32 sl32) (c32:hC K cd32 "_law_expr") (k32:hP K f32)
  (a33:hA K "_law_world" f33) (l33:hL K "_law_world" Zah f33 oc33 od33 kV33 dc33 pm33 an33 cd33 ct33 sl33) (c33:hC K cd33 "_law_world") (k33:hP K f33)
  (a34:hA K "_law_setting" f34) (l34:hL K "_law_setting" Z3u f34 oc34 od34 kV34 dc34 pm34 an34 cd34 ct34 sl34) (c34:hC K cd34 "_law_setting") (k34:hP K f34)
  (a35:hA K "_law_bare" f35) (l35:hL K "_law_bare" Z3v f35 oc35 od35 kV35 dc35 pm35 an35 cd35 ct35 sl35) (c35:hC K cd35 "_law_bare") (k35:hP K f35)
  (a36:hA K "_law_seen" f36) (l36:hL K "_law_seen" Ze1 f36 oc36 od36 kV36 dc36 pm36 an36 cd36 ct36 sl36) (c36:hC K cd36 "_law_seen") (k36:hP K f36)
  (a37:hA K "_law_called_by" f37) (l37:hL K "_law_called_by" Z4a f37 oc37 od37 kV37 dc37 pm37 an37 cd37 ct37 sl37) (c37:hC K cd37 "_law_called_by") (k37:hP K f37)
  (a38:hA K "_law_traits" f38) (l38:hL K "_law_traits" Z1j f38 oc38 od38 kV38 dc38 pm38 an38 cd38 ct38 sl38) (c38:hC K cd38 "_law_traits") (k38:hP K f38)
  (a39:hA K "_law_alike" f39) (l39:hL K "_law_alike" Z7y f39 oc39 od39 kV39 dc39 pm39 an39 cd39 ct39 sl39) (c39:hC K cd39 "_law_alike") (k39:hP K f39)
  (a40:hA K "law" f40) (l40:hL K "law" Zl2 f40 oc40 od40 kV40 dc40 pm40 an40 cd40 ct40 sl40) (c40:hC K cd40 "law") (k40:hP K f40)
  (q_isinstance:hZ K "isinstance")
  (q_int:hZ K "int")
  (q_bool:hZ K "bool")
  (q_tuple:hZ K "tuple")
  (q_len:hZ K "len")
  (q_list:hZ K "list")
  (q_range:hZ K "range")
  (q_sum:hZ K "sum")
  (q_all:hZ K "all")
  (q_dict:hZ K "dict")
  (q_reversed:hZ K "reversed")
  (q_sorted:hZ K "sorted")
  (q_any:hZ K "any")
  (q_set:hZ K "set")
  (gN:PySem.W.nsIn K mainGlobals "NODE"=some (some (.str "node" tkN)))
  (gO:PySem.W.nsIn K mainGlobals "OPENED"=some (some (.str "opened" tkO)))
  (gC:PySem.W.nsIn K mainGlobals "CLOSED"=some (some (.str "closed" tkC)))
  (gT:hA K "NOTHING" aN)
  (lN:K.lookup aN=some ⟨.type "tuple",odN,.seq itsN nN,slN⟩)
  (vN:Vals [.ref e1,.ref e2,.bl false,.bl false,.bl false] itsN.toList)
  (lE1:K.lookup e1=some ⟨.type "tuple",odE1,.seq itsE1 nE1,slE1⟩)
  (vE1:Vals [] itsE1.toList)
  (lE2:K.lookup e2=some ⟨.type "tuple",odE2,.seq itsE2 nE2,slE2⟩)
  (vE2:Vals [] itsE2.toList)
  (kt_NoneType_int:hI K "NoneType" "int" false)
  (kt_bool_int:hI K "bool" "int" true)
  (kt_int_int:hI K "int" "int" true)
  (kt_str_int:hI K "str" "int" false)
  (kt_tuple_int:hI K "tuple" "int" false)
  (kt_list_int:hI K "list" "int" false)
  (kt_NoneType_bool:hI K "NoneType" "bool" false)
  (kt_bool_bool:hI K "bool" "bool" true)
  (kt_int_bool:hI K "int" "bool" false)
  (kt_str_bool:hI K "str" "bool" false)
  (kt_tuple_bool:hI K "tuple" "bool" false)
  (kt_list_bool:hI K "list" "bool" false)
  (kt_NoneType_tuple:hI K "NoneType" "tuple" false)
  (kt_bool_tuple:hI K "bool" "tuple" false)
  (kt_int_tuple:hI K "int" "tuple" false)
  (kt_str_tuple:hI K "str" "tuple" false)
  (kt_tuple_tuple:hI K "tuple" "tuple" true)
  (kt_list_tuple:hI K "list" "tuple" false):
  ∃fd:FuncData,(∀(s:Shared) (v:Value),BindsTo s fd ⟨[v],[]⟩ [("_law_script",v)])/\∀base:Heap,K.In base->base.Ns mainGlobals mg->FnOk l.prog w K mg base CX0 28 fa fd ["_law_script"] (Zjs K):=by
 have e:=hfa.symm.trans (PySem.W.mg_of X G a40)
 cases e
 have F0:=Z0z (st:=Zbc) l0 c0 k0
 have b0:=F0.binds (ps:=["node"]) fun _ _ _ _ _ _=>Z1s fun _=>rfl
 have m0:=PySem.W.mg_of X G a0
 have F1:=Z0z (st:=Z64) l1 c1 k1
 have b1:=F1.binds (ps:=["e"]) fun _ _ _ _ _ _=>Z1s fun _=>rfl
 have m1:=PySem.W.mg_of X G a1
 have F2:=Z0z (st:=Z6s) l2 c2 k2
 have b2:=F2.binds (ps:=["tree"]) fun _ _ _ _ _ _=>Z1s fun _=>rfl
 have m2:=PySem.W.mg_of X G a2
 have F3:=Z0z (st:=Zae) l3 c3 k3
 have b3:=F3.binds (ps:=["rows"]) fun _ _ _ _ _ _=>Z1s fun _=>rfl
 have m3:=PySem.W.mg_of X G a3
 have F4:=Z0z (st:=Z3l) l4 c4 k4
 have b4:=F4.binds (ps:=["node","lets","level"]) fun _ _ _ _ _ _=>Z3x fun _ _ _=>rfl
 have m4:=PySem.W.mg_of X G a4
 have F5:=Z0z (st:=Zaf) l5 c5 k5
 have b5:=F5.binds (ps:=["e"]) fun _ _ _ _ _ _=>Z1s fun _=>rfl
 have m5:=PySem.W.mg_of X G a5
 have F6:=Z0z (st:=Z49) l6 c6 k6
 have b6:=F6.binds (ps:=["node","own"]) fun _ _ _ _ _ _=>Z2q fun _ _=>rfl
 have m6:=PySem.W.mg_of X G a6
 have F7:=Z0z (st:=Z3m) l7 c7 k7
 have b7:=F7.binds (ps:=["e"]) fun _ _ _ _ _ _=>Z1s fun _=>rfl
 have m7:=PySem.W.mg_of X G a7
 have F8:=Z0z (st:=Zfx) l8 c8 k8
 have b8:=F8.binds (ps:=["e"]) fun _ _ _ _ _ _=>Z1s fun _=>rfl
 have m8:=PySem.W.mg_of X G a8
 have F9:=Z0z (st:=Z2z) l9 c9 k9
 have b9:=F9.binds (ps:=["rows"]) fun _ _ _ _ _ _=>Z1s fun _=>rfl
 have m9:=PySem.W.mg_of X G a9
 have F10:=Z0z (st:=Z1z) l10 c10 k10
 have b10:=F10.binds (ps:=["rows"]) fun _ _ _ _ _ _=>Z1s fun _=>rfl
 have m10:=PySem.W.mg_of X G a10
 have F11:=Z0z (st:=Z30) l11 c11 k11
 have b11:=F11.binds (ps:=["known","node","held"]) fun _ _ _ _ _ _=>Z3x fun _ _ _=>rfl
 have m11:=PySem.W.mg_of X G a11
 have F12:=Z0z (st:=Z2f) l12 c12 k12
 have b12:=F12.binds (ps:=["known","b","held"]) fun _ _ _ _ _ _=>Z3x fun _ _ _=>rfl
 have m12:=PySem.W.mg_of X G a12
 have F13:=Z0z (st:=Z2k) l13 c13 k13
 have b13:=F13.binds (ps:=["program"]) fun _ _ _ _ _ _=>Z1s fun _=>rfl
 have m13:=PySem.W.mg_of X G a13
 have F14:=Z0z (st:=Z6t) l14 c14 k14
 have b14:=F14.binds (ps:=["program","b","held"]) fun _ _ _ _ _ _=>Z3x fun _ _ _=>rfl
 have m14:=PySem.W.mg_of X G a14
 have F15:=Z0z (st:=Zfy) l15 c15 k15
 have b15:=F15.binds (ps:=["_law_script"]) fun _ _ _ _ _ _=>Z1s fun _=>rfl
 have m15:=PySem.W.mg_of X G a15
 have F16:=Z0z (st:=Zfz) l16 c16 k16
 have b16:=F16.binds (ps:=["_law_feed_here","_law_many"]) fun _ _ _ _ _ _=>Z2q fun _ _=>rfl
 have m16:=PySem.W.mg_of X G a16
 have F17:=Z0z (st:=Z3n) l17 c17 k17
 have b17:=F17.binds (ps:=["_law_feed_here"]) fun _ _ _ _ _ _=>Z1s fun _=>rfl
 have m17:=PySem.W.mg_of X G a17
 have F18:=Z0z (st:=Z5b) l18 c18 k18
 have b18:=F18.binds (ps:=["_law_number","_law_long"]) fun _ _ _ _ _ _=>Z2q fun _ _=>rfl
 have m18:=PySem.W.mg_of X G a18
 have F19:=Z0z (st:=Z36) l19 c19 k19
 have b19:=F19.binds (ps:=["_law_feed_here","_law_taken"]) fun _ _ _ _ _ _=>Z2q fun _ _=>rfl
 have m19:=PySem.W.mg_of X G a19
 have F20:=Z0z (st:=Zag) l20 c20 k20
 have b20:=F20.binds (ps:=["_law_feed_here","_law_many"]) fun _ _ _ _ _ _=>Z2q fun _ _=>rfl
 have m20:=PySem.W.mg_of X G a20
 have F21:=Z0z (st:=Z2a) l21 c21 k21
 have b21:=F21.binds (ps:=["_law_e"]) fun _ _ _ _ _ _=>Z1s fun _=>rfl
 have m21:=PySem.W.mg_of X G a21
 have F22:=Z0z (st:=Ze0) l22 c22 k22
 have b22:=F22.binds (ps:=["_law_e","_law_inner"]) fun _ _ _ _ _ _=>Z2q fun _ _=>rfl
 have m22:=PySem.W.mg_of X G a22
 have F23:=Z0z (st:=Z6u) l23 c23 k23
 have b23:=F23.binds (ps:=["_law_e"]) fun _ _ _ _ _ _=>Z1s fun _=>rfl
 have m23:=PySem.W.mg_of X G a23
 have F24:=Z0z (st:=Z4j) l24 c24 k24
 have b24:=F24.binds (ps:=["_law_e","_law_works"]) fun _ _ _ _ _ _=>Z2q fun _ _=>rfl
 have m24:=PySem.W.mg_of X G a24
 have F25:=Z0z (st:=Z7x) l25 c25 k25
 have b25:=F25.binds (ps:=["_law_e","_law_bound_here"]) fun _ _ _ _ _ _=>Z2q fun _ _=>rfl
 have m25:=PySem.W.mg_of X G a25
 have F26:=Z0z (st:=Zg0) l26 c26 k26
 have b26:=F26.binds (ps:=["_law_feed_here","_law_world_here","_law_bound_here"]) fun _ _ _ _ _ _=>Z3x fun _ _ _=>rfl
 have m26:=PySem.W.mg_of X G a26
 have F27:=Z0z (st:=Z5r) l27 c27 k27
 have b27:=F27.binds (ps:=["_law_e","_law_names_here","_law_others"]) fun _ _ _ _ _ _=>Z3x fun _ _ _=>rfl
 have m27:=PySem.W.mg_of X G a27
 have F28:=Z0z (st:=Z6v) l28 c28 k28
 have b28:=F28.binds (ps:=["_law_e","_law_at","_law_leaf_here"]) fun _ _ _ _ _ _=>Z3x fun _ _ _=>rfl
 have m28:=PySem.W.mg_of X G a28
 have F29:=Z0z (st:=Z4w) l29 c29 k29
 have b29:=F29.binds (ps:=["_law_feed_here","_law_world_here","_law_bound_here","_law_below","_law_times"]) fun _ _ _ _ _ _=>Z9f fun _ _ _ _ _=>rfl
 have m29:=PySem.W.mg_of X G a29
 have F30:=Z0z (st:=Z6w) l30 c30 k30
 have b30:=F30.binds (ps:=["_law_feed_here","_law_world_here","_law_bound_here","_law_below","_law_times","_law_kind"]) fun _ _ _ _ _ _=>Zhm fun _ _ _ _ _ _=>rfl
 have m30:=PySem.W.mg_of X G a30
 have F31:=Z0z (st:=Z4x) l31 c31 k31
 have b31:=F31.binds (ps:=["_law_feed_here","_law_world_here","_law_bound_here","_law_below","_law_times"]) fun _ _ _ _ _ _=>Z9f fun _ _ _ _ _=>rfl
 have m31:=PySem.W.mg_of X G a31
 have F32:=Z0z (st:=Z8t) l32 c32 k32
 have b32:=F32.binds (ps:=["_law_feed_here","_law_world_here","_law_bound_here","_law_below","_law_times"]) fun _ _ _ _ _ _=>Z9f fun _ _ _ _ _=>rfl
 have m32:=PySem.W.mg_of X G a32
 have F33:=Z0z (st:=Zah) l33 c33 k33
 have b33:=F33.binds (ps:=["_law_names_here","_law_lets","_law_functions","_law_works","_law_room","_law_toil"]) fun _ _ _ _ _ _=>Zhm fun _ _ _ _ _ _=>rfl
 have m33:=PySem.W.mg_of X G a33
 have F34:=Z0z (st:=Z3u) l34 c34 k34
 have b34:=F34.binds (ps:=["_law_feed_here","_law_room"]) fun _ _ _ _ _ _=>Z2q fun _ _=>rfl
 have m34:=PySem.W.mg_of X G a34
 have F35:=Z0z (st:=Z3v) l35 c35 k35
 have b35:=F35.binds (ps:=["_law_e","_law_lets"]) fun _ _ _ _ _ _=>Z2q fun _ _=>rfl
 have m35:=PySem.W.mg_of X G a35
 have F36:=Z0z (st:=Ze1) l36 c36 k36
 have b36:=F36.binds (ps:=["_law_b","_law_holds","_law_called_here"]) fun _ _ _ _ _ _=>Z3x fun _ _ _=>rfl
 have m36:=PySem.W.mg_of X G a36
 have F37:=Z0z (st:=Z4a) l37 c37 k37
 have b37:=F37.binds (ps:=["_law_functions"]) fun _ _ _ _ _ _=>Z1s fun _=>rfl
 have m37:=PySem.W.mg_of X G a37
 have F38:=Z0z (st:=Z1j) l38 c38 k38
 have b38:=F38.binds (ps:=["_law_seen_here"]) fun _ _ _ _ _ _=>Z1s fun _=>rfl
 have m38:=PySem.W.mg_of X G a38
 have F39:=Z0z (st:=Z7y) l39 c39 k39
 have b39:=F39.binds (ps:=["_law_found","_law_due"]) fun _ _ _ _ _ _=>Z2q fun _ _=>rfl
 have m39:=PySem.W.mg_of X G a39
 have F40:=Z0z (st:=Zl2) l40 c40 k40
 have z_isinstance:=PySem.W.mg_none_of X G q_isinstance
 have z_int:=PySem.W.mg_none_of X G q_int
 have z_bool:=PySem.W.mg_none_of X G q_bool
 have z_tuple:=PySem.W.mg_none_of X G q_tuple
 have z_len:=PySem.W.mg_none_of X G q_len
 have z_list:=PySem.W.mg_none_of X G q_list
 have z_range:=PySem.W.mg_none_of X G q_range
 have z_sum:=PySem.W.mg_none_of X G q_sum
 have z_all:=PySem.W.mg_none_of X G q_all
 have z_dict:=PySem.W.mg_none_of X G q_dict
 have z_reversed:=PySem.W.mg_none_of X G q_reversed
 have z_sorted:=PySem.W.mg_none_of X G q_sorted
 have z_any:=PySem.W.mg_none_of X G q_any
 have z_set:=PySem.W.mg_none_of X G q_set
 have T0:Txt0 mg:=⟨z_len,z_list,z_range⟩
 have T:TxtT mg:=⟨z_isinstance,z_int,z_bool,z_tuple,z_len⟩
 have KI:Kits K:=Zmg kt_NoneType_int kt_bool_int kt_int_int kt_str_int kt_tuple_int kt_list_int kt_NoneType_bool kt_bool_bool kt_int_bool kt_str_bool kt_tuple_bool kt_list_bool kt_NoneType_tuple kt_bool_tuple kt_int_tuple kt_str_tuple kt_tuple_tuple kt_list_tuple
 have TD:TxtD mg:=⟨⟨_,PySem.W.mg_of X G gN⟩,⟨_,PySem.W.mg_of X G gO⟩,⟨_,PySem.W.mg_of X G gC⟩⟩
 have U:Helpers K mg f16 f18 _ _:=⟨T0,F16,b16,m16,F18,b18,m18⟩
 have HWW:HW K mg f21 f22 _ _:=⟨T,KI,F21,b21,m21,F22,b22,m22⟩
 have HOO:HOw K mg f1 f2 f4 _ _ _:=⟨T,TD,KI,F1,b1,m1,F2,b2,m2,F4,b4,m4⟩
 have BB:Brp K mg ⟨f1,f2,f4,f5,f0,f6,f7,f3,_,_,_,_,_,_,_,_⟩:=⟨HOO,⟨F5,b5,m5⟩,⟨F0,b0,m0⟩,⟨F6,b6,m6⟩,⟨F7,b7,m7⟩,⟨F3,b3,m3⟩,z_reversed⟩
 have GG:Gen K mg ⟨f16,f18,f17,f26,f21,f22,f23,f24,f25,f27,f28,_,_,_,_,_,_,_,_,_,_,_⟩:=⟨U,HWW,⟨F17,b17,m17⟩,⟨F26,b26,m26⟩,⟨F23,b23,m23⟩,⟨F24,b24,m24⟩,⟨F25,b25,m25⟩,⟨F27,b27,m27⟩,⟨F28,b28,m28⟩,z_sum,z_all⟩
 have EE:Exp K mg ⟨_,f32,f30,f31,f29,_,_,_,_⟩:=⟨GG,⟨F32,b32,m32⟩,⟨F30,b30,m30⟩,⟨F31,b31,m31⟩,⟨F29,b29,m29⟩,z_dict⟩
 have PR:Pr K mg ⟨_,f20,f19,f33,_,_,_⟩:=⟨EE,⟨F20,b20,m20⟩,⟨F19,b19,m19⟩,⟨F33,b33,m33⟩⟩
 have NT:Zpy K mg:=⟨aN,PySem.W.mg_of X G gT,fun H=>⟨aN,e1,e2,rfl,Zmh lN vN (by show 5<=1000;decide) H,Zmh lE1 vE1 (Nat.zero_le _) H,Zmh lE2 vE2 (Nat.zero_le _) H⟩⟩
 have TR:Trp K mg ⟨f2,f1,f9,f11,f10,_,_,_,_,_⟩:=⟨T,TD,KI,⟨F2,b2,m2⟩,⟨F1,b1,m1⟩,⟨F9,b9,m9⟩,⟨F11,b11,m11⟩,⟨F10,b10,m10⟩,z_sorted,z_any,NT⟩
 have TV:Tvp K mg ⟨_,_,f12,f8,f13,_,_,_⟩:=⟨TR,BB,⟨F12,b12,m12⟩,⟨F8,b8,m8⟩,⟨F13,b13,m13⟩⟩
 have LW:Lw K mg ⟨_,_,f15,f34,f37,f35,f36,f38,f39,f14,_,_,_,_,_,_,_,_⟩:=⟨PR,TV,⟨F15,b15,m15⟩,⟨F34,b34,m34⟩,⟨F37,b37,m37⟩,⟨F35,b35,m35⟩,⟨F36,b36,m36⟩,⟨F38,b38,m38⟩,⟨F39,b39,m39⟩,⟨F14,b14,m14⟩,⟨z_tuple,z_sorted,z_set⟩⟩
 refine⟨PySem.W.fnOf "law" "law" (Z0o Zl2) (Z0n Zl2) (Z04 Zl2) .none kV40 dc40 pm40 an40 cd40 ct40,fun s v=>.of_eq rfl,fun base _ _=>?_⟩
 exact Zom F40 LW
theorem walk {l:PySem.W.OpenLaw}{q:Program}{loose:List Str}{XP:(Str->Option Value)->Heap->Prop}{YP:World->Heap->Prop}{d:DefRec}{K:Params->W.Frag}(hn:l.most=some 63)(hdf:d.params.defaults = [])
  (hY:∀(w:World) (h:Heap),YP w h->(K w.params).In h)
  (F:∀(w:World) (mg:Str->Option Value) (fa:Addr) (h:Heap),(K w.params).In h->h.Ns mainGlobals mg->mg d.name=some (.ref fa) →
   ∃fd:FuncData,(∀(s:Shared) (u:Value),BindsTo s fd ⟨[u],[]⟩ [("_law_script",u)])/\∀base:Heap,(K w.params).In base->base.Ns mainGlobals mg->FnOk l.prog w (K w.params) mg base CX0 28 fa fd ["_law_script"] (Zjs (K w.params))):
  PySem.W.WalkO q loose XP YP l.row.toRowW d [] (fun f vs=>PySem.call f vs):=
 L2.walk_of (n:=63) (k:=28) (x:="_law_script") (CX:=fun _=>CX0) (sp:=fun w=>Zjs (K w.params)) hn (by decide) hdf ⟨rfl,rfl,by decide,by decide⟩ hY F (fun _ _ a ns hl _ hS=>⟨a,ns,rfl,hS,hl,fun _=>rfl⟩) fun _ _ _ _ _ z=>z
end K36
open PySem PySem.W PyProof.Rows
set_option maxRecDepth 100000 in
set_option maxHeartbeats 0 in
theorem PySem.Challenge.cw_likepieces_k36_traits_told_holds : PySem.Challenge.rw_likepieces_k36_traits_told.Holds := by
 w_on
 refine holds_law K36.hdS fun sd=>?_
 refine holds_open (q:=K36.hdQ) (loose:=K36.hdL) (Yf:=K36.hdH.obs) (Ya:=K36.hdH.val)
  (XP:=XL K36.hdQ []) (YP:=InK K36.hdK) (N:=K36.hdN) K36.hdT K36.hdH.of
  K36.hdH.keeps (fun s e=>xl_of s (Bool.and_eq_true_iff.mp e).1) XL.keeps (by rfl) (by rfl)
  (by rfl) (fun s e=>recFacts_of (Bool.and_eq_true_iff.mp e).2) (by rfl) sd (by decide+kernel)
  ⟨rfl,rfl,rfl,rfl,rfl,by decide+kernel⟩ ?hw ?hc
 (case hw=>w_witness2)
 k_fill
 refine K36.walk (l:=PySem.Challenge.rw_likepieces_k36_traits_told) rfl rfl (K:=K36.hdK) (fun w h Y=>Y) ?F
 case F=>
  intro w mg fa h KX G hmg
  refine' K36.all_mk KX G hmg ?a0 ?l0 ?c0 ?k0 ?a1 ?l1 ?c1 ?k1 ?a2 ?l2 ?c2 ?k2 ?a3 ?l3 ?c3 ?k3 ?a4 ?l4 ?c4 ?k4 ?a5 ?l5 ?c5 ?k5 ?a6 ?l6 ?c6 ?k6 ?a7 ?l7 ?c7 ?k7 ?a8 ?l8 ?c8 ?k8 ?a9 ?l9 ?c9 ?k9 ?a10 ?l10 ?c10 ?k10 ?a11 ?l11 ?c11 ?k11 ?a12 ?l12 ?c12 ?k12 ?a13 ?l13 ?c13 ?k13 ?a14 ?l14 ?c14 ?k14 ?a15 ?l15 ?c15 ?k15 ?a16 ?l16 ?c16 ?k16 ?a17 ?l17 ?c17 ?k17 ?a18 ?l18 ?c18 ?k18 ?a19 ?l19 ?c19 ?k19 ?a20 ?l20 ?c20 ?k20 ?a21 ?l21 ?c21 ?k21 ?a22 ?l22 ?c22 ?k22 ?a23 ?l23 ?c23 ?k23 ?a24 ?l24 ?c24 ?k24 ?a25 ?l25 ?c25 ?k25 ?a26 ?l26 ?c26 ?k26 ?a27 ?l27 ?c27 ?k27 ?a28 ?l28 ?c28 ?k28 ?a29 ?l29 ?c29 ?k29 ?a30 ?l30 ?c30 ?k30 ?a31 ?l31 ?c31 ?k31 ?a32 ?l32 ?c32 ?k32 ?a33 ?l33 ?c33 ?k33 ?a34 ?l34 ?c34 ?k34 ?a35 ?l35 ?c35 ?k35 ?a36 ?l36 ?c36 ?k36 ?a37 ?l37 ?c37 ?k37 ?a38 ?l38 ?c38 ?k38 ?a39 ?l39 ?c39 ?k39 ?a40 ?l40 ?c40 ?k40 ?q_isinstance ?q_int ?q_bool ?q_tuple ?q_len ?q_list ?q_range ?q_sum ?q_all ?q_dict ?q_reversed ?q_sorted ?q_any ?q_set ?gN ?gO ?gC ?gT ?lN ?vN ?lE1 ?vE1 ?lE2 ?vE2 ?kt_NoneType_int ?kt_bool_int ?kt_int_int ?kt_str_int ?kt_tuple_int ?kt_list_int ?kt_NoneType_bool ?kt_bool_bool ?kt_int_bool ?kt_str_bool ?kt_tuple_bool ?kt_list_bool ?kt_NoneType_tuple ?kt_bool_tuple ?kt_int_tuple ?kt_str_tuple ?kt_tuple_tuple ?kt_list_tuple
  all_goals first|unfold K36.hA|unfold K36.hL|unfold K36.hC|unfold K36.hP|unfold K36.hZ|unfold K36.hI|skip
  (case a0|l0|c0|k0|a1|l1|c1|k1|a2|l2|c2|k2|a3|l3|c3|k3|a4|l4|c4|k4|a5|l5|c5|k5|a6|l6|c6|k6|a7|l7|c7|k7|a8|l8|c8|k8|a9|l9|c9|k9|a10|l10|c10|k10|a11|l11|c11|k11|a12|l12|c12|k12|a13|l13|c13|k13|a14|l14|c14|k14|a15|l15|c15|k15|a16|l16|c16|k16|a17|l17|c17|k17|a18|l18|c18|k18|a19|l19|c19|k19|a20|l20|c20|k20|a21|l21|c21|k21|a22|l22|c22|k22|a23|l23|c23|k23|a24|l24|c24|k24|a25|l25|c25|k25|a26|l26|c26|k26|a27|l27|c27|k27|a28|l28|c28|k28|a29|l29|c29|k29|a30|l30|c30|k30|a31|l31|c31|k31|a32|l32|c32|k32|a33|l33|c33|k33|a34|l34|c34|k34|a35|l35|c35|k35|a36|l36|c36|k36|a37|l37|c37|k37|a38|l38|c38|k38|a39|l39|c39|k39|a40|l40|c40|k40|q_isinstance|q_int|q_bool|q_tuple|q_len|q_list|q_range|q_sum|q_all|q_dict|q_reversed|q_sorted|q_any|q_set|gN|gO|gC|gT|lN=>k_is)
  (case vN=>exact .cons rfl (.cons rfl (.cons rfl (.cons rfl (.cons rfl .nil)))))
  (case lE1=>k_is)
  (case vE1=>exact .nil)
  (case lE2=>k_is)
  (case vE2=>exact .nil)
  (case kt_NoneType_int|kt_bool_int|kt_int_int|kt_str_int|kt_tuple_int|kt_list_int|kt_NoneType_bool|kt_bool_bool|kt_int_bool|kt_str_bool|kt_tuple_bool|kt_list_bool|kt_NoneType_tuple|kt_bool_tuple|kt_int_tuple|kt_str_tuple|kt_tuple_tuple|kt_list_tuple=>first|k_is|rfl|decide)
