import PyProof.Rows.All
import Wide.All
import OpenK.AllK
import Wide.FinOn
import Lean
import PyProof.EqAt
import PyProof.EqKinds
import PyProof.TupleCall
import PyProof.NeKinds
import PyProof.Rows.SortStr
import PyProof.Rows.SeqMore
import PyProof.Rows.CatFin
import PyProof.MeetsStr
import PyProof.Rows.SumAny
import PyProof.Rows.SortShell
import PyProof.Rows.SetFrom
import PyProof.DictWalks
import PyProof.Rows.SortReads
import KE.KDictSum
import PyProof.ZipIter
import PyProof.Rows.ZipGen
import PyProof.TupleOfGen
import PyProof.TupleOfStr
import KE.KIsAll
import PySem.Challenge.RW_likepieces_k10_bare_of_expressions
import PyProof.Rows.Range3
import PyProof.Rows.ReprOcc
import PyProof.Rows.StrAscii
import PyProof.Rows.StrJoin2
import PyProof.AttrMissSeq
import KE.KDictOf
open List (all_cons all_eq_true all_map any_cons append_assoc append_nil cons_append dropLast_concat_getLast drop_zero eq_nil_of_length_eq_zero filterMap_cons filter_append filter_cons flatten_cons getElem_mem getLastD_eq_getLast? length_append length_cons length_drop length_filter_le length_map length_nil length_reverse length_singleton length_take lookup_cons map_append map_cons map_map map_nil mem_append mem_append_left mem_append_right mem_cons mem_cons_of_mem mem_cons_self mem_filter mem_filterMap mem_flatten mem_map mem_of_getElem? mem_of_mem_take mem_range mem_singleton nil_append nodup_cons not_mem_nil of_mem_zip replicate_succ reverse_cons size_toArray take_add_one take_append_drop take_of_length_le take_succ_cons take_zero)
set_option Elab.async false
set_option linter.all false
set_option maxRecDepth 100000
set_option maxHeartbeats 4000000
namespace L2
open PySem
def Z0r (s:Stmt):Arguments:=match s with
 | .FunctionDef _ a _ _ _ _ _ _ _ _=>a
 |_=>{ posonlyargs:=[],args:=[],vararg:=none,kwonlyargs:=[],kw_defaults:=[],kwarg:=none,defaults:=[] }
def Z0p (s:Stmt):List Stmt:=match s with
 | .FunctionDef _ _ b _ _ _ _ _ _ _=>b
 |_=>[]
def Z06 (s:Stmt):Scope:=match s with
 | .FunctionDef _ _ _ _ _ _ sc _ _ _=>sc
 |_=>{ kind:=.function,names:=[],isGenerator:=false,isCoroutine:=false }
end L2
namespace K10
open PySem L2
def top (i:Nat):Stmt:=PySem.Challenge.pw_likepieces_k10_bare_of_expressions.main.body.getD i (.Pass ⟨0,0,0,0⟩)
abbrev eT:Obj:=⟨(.type "tuple"),none,(.seq #[] 0),#[]⟩
abbrev eF (n:Str)(i:Nat)(r:Addr):Obj:=⟨(.type "function"),none,(.func (PySem.W.fnOf n n (Z0r (top i)) (Z0p (top i)) (Z06 (top i)) .none .none .none (.str "likepieces.trees" 187) none (.ref r) .none)),#[]⟩
abbrev eC (n:Str)(a b c:Tok)(l k f:Int)(r s:Addr)(v w:Value)(t:Addr)(m:Int)(d:Tok):Obj:=⟨(.type "code"),none,(.fields #[(.str n a),(.str n b),(.str "/claim/cut.py" c),(.int l 0),(.int k 0),(.int 0 0),(.int 0 0),(.int f 0),(.ref r),(.bool true),(.int 181 0),(.ref s),.none,v,w,(.ref t),(.int m 0),(.int l 0),(.str "/claim/cut.py" d)]),#[]⟩
def hdQ:Program:={ PySem.Challenge.pw_likepieces_k10_bare_of_expressions with main:={ PySem.Challenge.pw_likepieces_k10_bare_of_expressions.main with body:=[top 1,top 2,top 3,top 4,top 5,top 6,top 7,top 9,top 10,top 12,top 13,top 14,top 15,top 17,top 18,top 19,top 20,top 21,top 22,top 23,top 24,top 25,top 26,top 27,top 28,top 29,top 30,top 31,top 32,top 33,top 34,top 35,top 36,top 37,top 38,top 39,top 40,top 41,top 42,top 43] } }
def hdK:Params->PySem.W.Frag:=fun P=>
 (nat_lit 2,⟨.none,none,(.dict #[] 0),#[]⟩) ::
 (nat_lit 3,⟨(.type "dict"),none,(.dict #[⟨(PySem.PyData.keyHash P "__name__"),(.str "__name__" 165),(.str "law_likepieces_k10_bare_of_expressions" 279)⟩,⟨(PySem.PyData.keyHash P "__doc__"),(.str "__doc__" 166),.none⟩,⟨(PySem.PyData.keyHash P "__package__"),(.str "__package__" 167),.none⟩,⟨(PySem.PyData.keyHash P "__loader__"),(.str "__loader__" 168),(.builtin "__main__.__loader__#opaque")⟩,⟨(PySem.PyData.keyHash P "__spec__"),(.str "__spec__" 169),.none⟩,⟨(PySem.PyData.keyHash P "__annotations__"),(.str "__annotations__" 170),(.ref 6)⟩,⟨(PySem.PyData.keyHash P "__builtins__"),(.str "__builtins__" 171),(.ref 4)⟩,⟨(PySem.PyData.keyHash P "__file__"),(.str "__file__" 173),(.str "/claim/cut.py" 172)⟩,⟨(PySem.PyData.keyHash P "__cached__"),(.str "__cached__" 174),.none⟩,⟨(PySem.PyData.keyHash P "NODE"),(.str "NODE" 190),(.str "node" 189)⟩,⟨(PySem.PyData.keyHash P "OPENED"),(.str "OPENED" 192),(.str "opened" 191)⟩,⟨(PySem.PyData.keyHash P "CLOSED"),(.str "CLOSED" 194),(.str "closed" 193)⟩,⟨(PySem.PyData.keyHash P "head"),(.str "head" 200),(.ref 19)⟩,⟨(PySem.PyData.keyHash P "parts"),(.str "parts" 206),(.ref 24)⟩,⟨(PySem.PyData.keyHash P "steps"),(.str "steps" 212),(.ref 29)⟩,⟨(PySem.PyData.keyHash P "built"),(.str "built" 224),(.ref 36)⟩,⟨(PySem.PyData.keyHash P "own_number"),(.str "own_number" 235),(.ref 43)⟩,⟨(PySem.PyData.keyHash P "owned"),(.str "owned" 247),(.ref 50)⟩,⟨(PySem.PyData.keyHash P "bare_head"),(.str "bare_head" 257),(.ref 57)⟩,⟨(PySem.PyData.keyHash P "bare_rows"),(.str "bare_rows" 263),(.ref 62)⟩,⟨(PySem.PyData.keyHash P "bare"),(.str "bare" 270),(.ref 69)⟩,⟨(PySem.PyData.keyHash P "same"),(.str "same" 278),(.ref 76)⟩,⟨(PySem.PyData.keyHash P "_law_feed"),(.str "_law_feed" 287),(.ref 83)⟩,⟨(PySem.PyData.keyHash P "_law_draw"),(.str "_law_draw" 299),(.ref 90)⟩,⟨(PySem.PyData.keyHash P "_law_value"),(.str "_law_value" 307),(.ref 97)⟩,⟨(PySem.PyData.keyHash P "_law_spelled"),(.str "_law_spelled" 317),(.ref 104)⟩,⟨(PySem.PyData.keyHash P "_law_name"),(.str "_law_name" 332),(.ref 111)⟩,⟨(PySem.PyData.keyHash P "_law_names"),(.str "_law_names" 342),(.ref 118)⟩,⟨(PySem.PyData.keyHash P "_law_parts"),(.str "_law_parts" 348),(.ref 123)⟩,⟨(PySem.PyData.keyHash P "_law_with"),(.str "_law_with" 354),(.ref 128)⟩,⟨(PySem.PyData.keyHash P "_law_nodes"),(.str "_law_nodes" 360),(.ref 133)⟩,⟨(PySem.PyData.keyHash P "_law_work"),(.str "_law_work" 366),(.ref 138)⟩,⟨(PySem.PyData.keyHash P "_law_right"),(.str "_law_right" 372),(.ref 143)⟩,⟨(PySem.PyData.keyHash P "_law_leaf"),(.str "_law_leaf" 383),(.ref 150)⟩,⟨(PySem.PyData.keyHash P "_law_turned"),(.str "_law_turned" 389),(.ref 155)⟩,⟨(PySem.PyData.keyHash P "_law_spoilt"),(.str "_law_spoilt" 401),(.ref 162)⟩,⟨(PySem.PyData.keyHash P "_law_copied"),(.str "_law_copied" 407),(.ref 167)⟩,⟨(PySem.PyData.keyHash P "_law_bound"),(.str "_law_bound" 413),(.ref 172)⟩,⟨(PySem.PyData.keyHash P "_law_called"),(.str "_law_called" 419),(.ref 177)⟩,⟨(PySem.PyData.keyHash P "_law_expr"),(.str "_law_expr" 425),(.ref 182)⟩,⟨(PySem.PyData.keyHash P "_law_world"),(.str "_law_world" 437),(.ref 189)⟩,⟨(PySem.PyData.keyHash P "_law_seeds"),(.str "_law_seeds" 449),(.ref 196)⟩,⟨(PySem.PyData.keyHash P "_law_free"),(.str "_law_free" 461),(.ref 203)⟩,⟨(PySem.PyData.keyHash P "_law_relet"),(.str "_law_relet" 467),(.ref 208)⟩,⟨(PySem.PyData.keyHash P "_law_bared"),(.str "_law_bared" 473),(.ref 213)⟩,⟨(PySem.PyData.keyHash P "_law_all"),(.str "_law_all" 482),(.ref 220)⟩,⟨(PySem.PyData.keyHash P "_law_changed"),(.str "_law_changed" 488),(.ref 225)⟩,⟨(PySem.PyData.keyHash P "_law_drawn"),(.str "_law_drawn" 494),(.ref 230)⟩,⟨(PySem.PyData.keyHash P "law"),(.str "law" 510),(.ref 237)⟩] 49),#[]⟩) ::
 (nat_lit 15,eT) ::
 (nat_lit 18,eC "head" 195 196 197 5 1 3 15 16 .none .none 17 198 199) ::
 (nat_lit 19,eF "head" 4 18) ::
 (nat_lit 20,eT) ::
 (nat_lit 23,eC "parts" 201 202 203 7 1 3 20 21 .none .none 22 204 205) ::
 (nat_lit 24,eF "parts" 5 23) ::
 (nat_lit 25,eT) ::
 (nat_lit 28,eC "steps" 207 208 209 9 1 3 25 26 .none .none 27 210 211) ::
 (nat_lit 29,eF "steps" 6 28) ::
 (nat_lit 30,eT) ::
 (nat_lit 32,⟨(.type "tuple"),none,(.seq #[(.str "rows" 216),(.str "done" 217),(.str "lead" 218),(.str "many" 219),(.str "start" 220),(.str "inner" 221)] 0),#[]⟩) ::
 (nat_lit 33,eT) ::
 (nat_lit 35,eC "built" 213 214 215 21 1 3 30 31 (.ref 32) (.ref 33) 34 222 223) ::
 (nat_lit 36,eF "built" 7 35) ::
 (nat_lit 37,eT) ::
 (nat_lit 39,⟨(.type "tuple"),none,(.seq #[(.str "node" 230),(.str "lets" 231),(.str "level" 232)] 0),#[]⟩) ::
 (nat_lit 40,eT) ::
 (nat_lit 42,eC "own_number" 227 228 229 30 3 3 37 38 (.ref 39) (.ref 40) 41 233 234) ::
 (nat_lit 43,⟨(.type "function"),none,(.func (PySem.W.fnOf "own_number" "own_number" (Z0r (top 9)) (Z0p (top 9)) (Z06 (top 9)) .none .none .none (.str "likepieces.names" 225) none (.ref 42) .none)),#[]⟩) ::
 (nat_lit 44,eT) ::
 (nat_lit 46,⟨(.type "tuple"),none,(.seq #[(.str "e" 239),(.str "rows" 240),(.str "lets" 241),(.str "level" 242),(.str "deed" 243),(.str "node" 244)] 0),#[]⟩) ::
 (nat_lit 47,eT) ::
 (nat_lit 49,eC "owned" 236 237 238 34 1 3 44 45 (.ref 46) (.ref 47) 48 245 246) ::
 (nat_lit 50,⟨(.type "function"),none,(.func (PySem.W.fnOf "owned" "owned" (Z0r (top 10)) (Z0p (top 10)) (Z06 (top 10)) .none .none .none (.str "likepieces.names" 225) none (.ref 49) .none)),#[]⟩) ::
 (nat_lit 51,eT) ::
 (nat_lit 53,⟨(.type "tuple"),none,(.seq #[(.str "node" 253),(.str "own" 254)] 0),#[]⟩) ::
 (nat_lit 54,eT) ::
 (nat_lit 56,eC "bare_head" 250 251 252 49 2 3 51 52 (.ref 53) (.ref 54) 55 255 256) ::
 (nat_lit 57,⟨(.type "function"),none,(.func (PySem.W.fnOf "bare_head" "bare_head" (Z0r (top 12)) (Z0p (top 12)) (Z06 (top 12)) .none .none .none (.str "likepieces.bares" 248) none (.ref 56) .none)),#[]⟩) ::
 (nat_lit 58,eT) ::
 (nat_lit 61,eC "bare_rows" 258 259 260 55 1 3 58 59 .none .none 60 261 262) ::
 (nat_lit 62,⟨(.type "function"),none,(.func (PySem.W.fnOf "bare_rows" "bare_rows" (Z0r (top 13)) (Z0p (top 13)) (Z06 (top 13)) .none .none .none (.str "likepieces.bares" 248) none (.ref 61) .none)),#[]⟩) ::
 (nat_lit 63,eT) ::
 (nat_lit 65,⟨(.type "tuple"),none,(.seq #[(.str "e" 267)] 0),#[]⟩) ::
 (nat_lit 66,eT) ::
 (nat_lit 68,eC "bare" 264 265 266 57 1 3 63 64 (.ref 65) (.ref 66) 67 268 269) ::
 (nat_lit 69,⟨(.type "function"),none,(.func (PySem.W.fnOf "bare" "bare" (Z0r (top 14)) (Z0p (top 14)) (Z06 (top 14)) .none .none .none (.str "likepieces.bares" 248) none (.ref 68) .none)),#[]⟩) ::
 (nat_lit 70,eT) ::
 (nat_lit 72,⟨(.type "tuple"),none,(.seq #[(.str "one" 274),(.str "other" 275)] 0),#[]⟩) ::
 (nat_lit 73,eT) ::
 (nat_lit 75,eC "same" 271 272 273 59 2 3 70 71 (.ref 72) (.ref 73) 74 276 277) ::
 (nat_lit 76,⟨(.type "function"),none,(.func (PySem.W.fnOf "same" "same" (Z0r (top 15)) (Z0p (top 15)) (Z06 (top 15)) .none .none .none (.str "likepieces.bares" 248) none (.ref 75) .none)),#[]⟩) ::
 (nat_lit 77,eT) ::
 (nat_lit 79,⟨(.type "tuple"),none,(.seq #[(.str "_law_script" 284)] 0),#[]⟩) ::
 (nat_lit 80,eT) ::
 (nat_lit 82,eC "_law_feed" 281 282 283 62 1 3 77 78 (.ref 79) (.ref 80) 81 285 286) ::
 (nat_lit 83,⟨(.type "function"),none,(.func (PySem.W.fnOf "_law_feed" "_law_feed" (Z0r (top 17)) (Z0p (top 17)) (Z06 (top 17)) .none .none .none (.str "law_likepieces_k10_bare_of_expressions" 279) none (.ref 82) .none)),#[]⟩) ::
 (nat_lit 84,eT) ::
 (nat_lit 86,⟨(.type "tuple"),none,(.seq #[(.str "_law_feed_here" 291),(.str "_law_many" 292),(.str "_law_found" 293),(.str "_law_at" 294),(.str "_law_cell" 295),(.str "_law_number" 296)] 0),#[]⟩) ::
 (nat_lit 87,eT) ::
 (nat_lit 89,eC "_law_draw" 288 289 290 64 2 3 84 85 (.ref 86) (.ref 87) 88 297 298) ::
 (nat_lit 90,⟨(.type "function"),none,(.func (PySem.W.fnOf "_law_draw" "_law_draw" (Z0r (top 18)) (Z0p (top 18)) (Z06 (top 18)) .none .none .none (.str "law_likepieces_k10_bare_of_expressions" 279) none (.ref 89) .none)),#[]⟩) ::
 (nat_lit 91,eT) ::
 (nat_lit 93,⟨(.type "tuple"),none,(.seq #[(.str "_law_feed_here" 303),(.str "_law_way" 304)] 0),#[]⟩) ::
 (nat_lit 94,eT) ::
 (nat_lit 96,eC "_law_value" 300 301 302 81 1 3 91 92 (.ref 93) (.ref 94) 95 305 306) ::
 (nat_lit 97,⟨(.type "function"),none,(.func (PySem.W.fnOf "_law_value" "_law_value" (Z0r (top 19)) (Z0p (top 19)) (Z06 (top 19)) .none .none .none (.str "law_likepieces_k10_bare_of_expressions" 279) none (.ref 96) .none)),#[]⟩) ::
 (nat_lit 98,eT) ::
 (nat_lit 100,⟨(.type "tuple"),none,(.seq #[(.str "_law_number" 311),(.str "_law_long" 312),(.str "_law_word" 313),(.str "_law_k" 314)] 0),#[]⟩) ::
 (nat_lit 101,eT) ::
 (nat_lit 103,eC "_law_spelled" 308 309 310 88 2 3 98 99 (.ref 100) (.ref 101) 102 315 316) ::
 (nat_lit 104,⟨(.type "function"),none,(.func (PySem.W.fnOf "_law_spelled" "_law_spelled" (Z0r (top 20)) (Z0p (top 20)) (Z06 (top 20)) .none .none .none (.str "law_likepieces_k10_bare_of_expressions" 279) none (.ref 103) .none)),#[]⟩) ::
 (nat_lit 105,eT) ::
 (nat_lit 107,⟨(.type "tuple"),none,(.seq #[(.str "_law_feed_here" 321),(.str "_law_taken" 322),(.str "_law_words" 323),(.str "_law_way" 324),(.str "_law_long" 325),(.str "_law_number" 326),(.str "_law_name_here" 327),(.str "_law_word" 328),(.str "_law_at" 329)] 0),#[]⟩) ::
 (nat_lit 108,eT) ::
 (nat_lit 110,eC "_law_name" 318 319 320 94 2 3 105 106 (.ref 107) (.ref 108) 109 330 331) ::
 (nat_lit 111,⟨(.type "function"),none,(.func (PySem.W.fnOf "_law_name" "_law_name" (Z0r (top 21)) (Z0p (top 21)) (Z06 (top 21)) .none .none .none (.str "law_likepieces_k10_bare_of_expressions" 279) none (.ref 110) .none)),#[]⟩) ::
 (nat_lit 112,eT) ::
 (nat_lit 114,⟨(.type "tuple"),none,(.seq #[(.str "_law_feed_here" 336),(.str "_law_many" 337),(.str "_law_names_here" 338),(.str "_law_k" 339)] 0),#[]⟩) ::
 (nat_lit 115,eT) ::
 (nat_lit 117,eC "_law_names" 333 334 335 116 2 3 112 113 (.ref 114) (.ref 115) 116 340 341) ::
 (nat_lit 118,⟨(.type "function"),none,(.func (PySem.W.fnOf "_law_names" "_law_names" (Z0r (top 22)) (Z0p (top 22)) (Z06 (top 22)) .none .none .none (.str "law_likepieces_k10_bare_of_expressions" 279) none (.ref 117) .none)),#[]⟩) ::
 (nat_lit 119,eT) ::
 (nat_lit 122,eC "_law_parts" 343 344 345 121 1 3 119 120 .none .none 121 346 347) ::
 (nat_lit 123,⟨(.type "function"),none,(.func (PySem.W.fnOf "_law_parts" "_law_parts" (Z0r (top 23)) (Z0p (top 23)) (Z06 (top 23)) .none .none .none (.str "law_likepieces_k10_bare_of_expressions" 279) none (.ref 122) .none)),#[]⟩) ::
 (nat_lit 124,eT) ::
 (nat_lit 127,eC "_law_with" 349 350 351 123 2 3 124 125 .none .none 126 352 353) ::
 (nat_lit 128,⟨(.type "function"),none,(.func (PySem.W.fnOf "_law_with" "_law_with" (Z0r (top 24)) (Z0p (top 24)) (Z06 (top 24)) .none .none .none (.str "law_likepieces_k10_bare_of_expressions" 279) none (.ref 127) .none)),#[]⟩) ::
 (nat_lit 129,eT) ::
 (nat_lit 132,eC "_law_nodes" 355 356 357 125 1 3 129 130 .none .none 131 358 359) ::
 (nat_lit 133,⟨(.type "function"),none,(.func (PySem.W.fnOf "_law_nodes" "_law_nodes" (Z0r (top 25)) (Z0p (top 25)) (Z06 (top 25)) .none .none .none (.str "law_likepieces_k10_bare_of_expressions" 279) none (.ref 132) .none)),#[]⟩) ::
 (nat_lit 134,eT) ::
 (nat_lit 137,eC "_law_work" 361 362 363 127 2 3 134 135 .none .none 136 364 365) ::
 (nat_lit 138,⟨(.type "function"),none,(.func (PySem.W.fnOf "_law_work" "_law_work" (Z0r (top 26)) (Z0p (top 26)) (Z06 (top 26)) .none .none .none (.str "law_likepieces_k10_bare_of_expressions" 279) none (.ref 137) .none)),#[]⟩) ::
 (nat_lit 139,eT) ::
 (nat_lit 142,eC "_law_right" 367 368 369 134 2 3 139 140 .none .none 141 370 371) ::
 (nat_lit 143,⟨(.type "function"),none,(.func (PySem.W.fnOf "_law_right" "_law_right" (Z0r (top 27)) (Z0p (top 27)) (Z06 (top 27)) .none .none .none (.str "law_likepieces_k10_bare_of_expressions" 279) none (.ref 142) .none)),#[]⟩) ::
 (nat_lit 144,eT) ::
 (nat_lit 146,⟨(.type "tuple"),none,(.seq #[(.str "_law_feed_here" 376),(.str "_law_world_here" 377),(.str "_law_bound_here" 378),(.str "_law_way" 379),(.str "_law_some" 380)] 0),#[]⟩) ::
 (nat_lit 147,eT) ::
 (nat_lit 149,eC "_law_leaf" 373 374 375 140 3 3 144 145 (.ref 146) (.ref 147) 148 381 382) ::
 (nat_lit 150,⟨(.type "function"),none,(.func (PySem.W.fnOf "_law_leaf" "_law_leaf" (Z0r (top 28)) (Z0p (top 28)) (Z06 (top 28)) .none .none .none (.str "law_likepieces_k10_bare_of_expressions" 279) none (.ref 149) .none)),#[]⟩) ::
 (nat_lit 151,eT) ::
 (nat_lit 154,eC "_law_turned" 384 385 386 148 3 3 151 152 .none .none 153 387 388) ::
 (nat_lit 155,⟨(.type "function"),none,(.func (PySem.W.fnOf "_law_turned" "_law_turned" (Z0r (top 29)) (Z0p (top 29)) (Z06 (top 29)) .none .none .none (.str "law_likepieces_k10_bare_of_expressions" 279) none (.ref 154) .none)),#[]⟩) ::
 (nat_lit 156,eT) ::
 (nat_lit 158,⟨(.type "tuple"),none,(.seq #[(.str "_law_e" 393),(.str "_law_at" 394),(.str "_law_leaf_here" 395),(.str "_law_inner" 396),(.str "_law_k" 397),(.str "_law_long" 398)] 0),#[]⟩) ::
 (nat_lit 159,eT) ::
 (nat_lit 161,eC "_law_spoilt" 390 391 392 152 3 3 156 157 (.ref 158) (.ref 159) 160 399 400) ::
 (nat_lit 162,⟨(.type "function"),none,(.func (PySem.W.fnOf "_law_spoilt" "_law_spoilt" (Z0r (top 30)) (Z0p (top 30)) (Z06 (top 30)) .none .none .none (.str "law_likepieces_k10_bare_of_expressions" 279) none (.ref 161) .none)),#[]⟩) ::
 (nat_lit 163,eT) ::
 (nat_lit 166,eC "_law_copied" 402 403 404 163 5 3 163 164 .none .none 165 405 406) ::
 (nat_lit 167,⟨(.type "function"),none,(.func (PySem.W.fnOf "_law_copied" "_law_copied" (Z0r (top 31)) (Z0p (top 31)) (Z06 (top 31)) .none .none .none (.str "law_likepieces_k10_bare_of_expressions" 279) none (.ref 166) .none)),#[]⟩) ::
 (nat_lit 168,eT) ::
 (nat_lit 171,eC "_law_bound" 408 409 410 181 6 3 168 169 .none .none 170 411 412) ::
 (nat_lit 172,⟨(.type "function"),none,(.func (PySem.W.fnOf "_law_bound" "_law_bound" (Z0r (top 32)) (Z0p (top 32)) (Z06 (top 32)) .none .none .none (.str "law_likepieces_k10_bare_of_expressions" 279) none (.ref 171) .none)),#[]⟩) ::
 (nat_lit 173,eT) ::
 (nat_lit 176,eC "_law_called" 414 415 416 192 5 3 173 174 .none .none 175 417 418) ::
 (nat_lit 177,⟨(.type "function"),none,(.func (PySem.W.fnOf "_law_called" "_law_called" (Z0r (top 33)) (Z0p (top 33)) (Z06 (top 33)) .none .none .none (.str "law_likepieces_k10_bare_of_expressions" 279) none (.ref 176) .none)),#[]⟩) ::
 (nat_lit 178,eT) ::
 (nat_lit 181,eC "_law_expr" 420 421 422 201 5 3 178 179 .none .none 180 423 424) ::
 (nat_lit 182,⟨(.type "function"),none,(.func (PySem.W.fnOf "_law_expr" "_law_expr" (Z0r (top 34)) (Z0p (top 34)) (Z06 (top 34)) .none .none .none (.str "law_likepieces_k10_bare_of_expressions" 279) none (.ref 181) .none)),#[]⟩) ::
 (nat_lit 183,eT) ::
 (nat_lit 185,⟨(.type "tuple"),none,(.seq #[(.str "_law_names_here" 429),(.str "_law_lets" 430),(.str "_law_functions" 431),(.str "_law_works" 432),(.str "_law_room" 433),(.str "_law_toil" 434)] 0),#[]⟩) ::
 (nat_lit 186,eT) ::
 (nat_lit 188,eC "_law_world" 426 427 428 228 6 3 183 184 (.ref 185) (.ref 186) 187 435 436) ::
 (nat_lit 189,⟨(.type "function"),none,(.func (PySem.W.fnOf "_law_world" "_law_world" (Z0r (top 35)) (Z0p (top 35)) (Z06 (top 35)) .none .none .none (.str "law_likepieces_k10_bare_of_expressions" 279) none (.ref 188) .none)),#[]⟩) ::
 (nat_lit 190,eT) ::
 (nat_lit 192,⟨(.type "tuple"),none,(.seq #[(.str "_law_feed_here" 441),(.str "_law_world_here" 442),(.str "_law_many" 443),(.str "_law_found" 444),(.str "_law_k" 445),(.str "_law_small" 446)] 0),#[]⟩) ::
 (nat_lit 193,eT) ::
 (nat_lit 195,eC "_law_seeds" 438 439 440 230 3 3 190 191 (.ref 192) (.ref 193) 194 447 448) ::
 (nat_lit 196,⟨(.type "function"),none,(.func (PySem.W.fnOf "_law_seeds" "_law_seeds" (Z0r (top 36)) (Z0p (top 36)) (Z06 (top 36)) .none .none .none (.str "law_likepieces_k10_bare_of_expressions" 279) none (.ref 195) .none)),#[]⟩) ::
 (nat_lit 197,eT) ::
 (nat_lit 199,⟨(.type "tuple"),none,(.seq #[(.str "_law_e" 453),(.str "_law_bound_here" 454),(.str "_law_found" 455),(.str "_law_k" 456),(.str "_law_one" 457),(.str "_law_inner" 458)] 0),#[]⟩) ::
 (nat_lit 200,eT) ::
 (nat_lit 202,eC "_law_free" 450 451 452 239 2 3 197 198 (.ref 199) (.ref 200) 201 459 460) ::
 (nat_lit 203,⟨(.type "function"),none,(.func (PySem.W.fnOf "_law_free" "_law_free" (Z0r (top 37)) (Z0p (top 37)) (Z06 (top 37)) .none .none .none (.str "law_likepieces_k10_bare_of_expressions" 279) none (.ref 202) .none)),#[]⟩) ::
 (nat_lit 204,eT) ::
 (nat_lit 207,eC "_law_relet" 462 463 464 249 4 3 204 205 .none .none 206 465 466) ::
 (nat_lit 208,⟨(.type "function"),none,(.func (PySem.W.fnOf "_law_relet" "_law_relet" (Z0r (top 38)) (Z0p (top 38)) (Z06 (top 38)) .none .none .none (.str "law_likepieces_k10_bare_of_expressions" 279) none (.ref 207) .none)),#[]⟩) ::
 (nat_lit 209,eT) ::
 (nat_lit 212,eC "_law_bared" 468 469 470 263 3 3 209 210 .none .none 211 471 472) ::
 (nat_lit 213,⟨(.type "function"),none,(.func (PySem.W.fnOf "_law_bared" "_law_bared" (Z0r (top 39)) (Z0p (top 39)) (Z06 (top 39)) .none .none .none (.str "law_likepieces_k10_bare_of_expressions" 279) none (.ref 212) .none)),#[]⟩) ::
 (nat_lit 214,eT) ::
 (nat_lit 216,⟨(.type "tuple"),none,(.seq #[(.str "_law_e" 477),(.str "_law_found" 478),(.str "_law_one" 479)] 0),#[]⟩) ::
 (nat_lit 217,eT) ::
 (nat_lit 219,eC "_law_all" 474 475 476 271 1 3 214 215 (.ref 216) (.ref 217) 218 480 481) ::
 (nat_lit 220,⟨(.type "function"),none,(.func (PySem.W.fnOf "_law_all" "_law_all" (Z0r (top 40)) (Z0p (top 40)) (Z06 (top 40)) .none .none .none (.str "law_likepieces_k10_bare_of_expressions" 279) none (.ref 219) .none)),#[]⟩) ::
 (nat_lit 221,eT) ::
 (nat_lit 224,eC "_law_changed" 483 484 485 276 3 3 221 222 .none .none 223 486 487) ::
 (nat_lit 225,⟨(.type "function"),none,(.func (PySem.W.fnOf "_law_changed" "_law_changed" (Z0r (top 41)) (Z0p (top 41)) (Z06 (top 41)) .none .none .none (.str "law_likepieces_k10_bare_of_expressions" 279) none (.ref 224) .none)),#[]⟩) ::
 (nat_lit 226,eT) ::
 (nat_lit 229,eC "_law_drawn" 489 490 491 292 2 3 226 227 .none .none 228 492 493) ::
 (nat_lit 230,⟨(.type "function"),none,(.func (PySem.W.fnOf "_law_drawn" "_law_drawn" (Z0r (top 42)) (Z0p (top 42)) (Z06 (top 42)) .none .none .none (.str "law_likepieces_k10_bare_of_expressions" 279) none (.ref 229) .none)),#[]⟩) ::
 (nat_lit 231,eT) ::
 (nat_lit 233,⟨(.type "tuple"),none,(.seq #[(.str "_law_script" 498),(.str "_law_feed_here" 499),(.str "_law_turn" 500),(.str "_law_one" 501),(.str "_law_names_here" 502),(.str "_law_due" 503),(.str "_law_other" 504),(.str "_law_leaf_here" 505),(.str "_law_third" 506),(.str "_law_found" 507)] 0),#[]⟩) ::
 (nat_lit 234,eT) ::
 (nat_lit 236,eC "law" 495 496 497 305 1 3 231 232 (.ref 233) (.ref 234) 235 508 509) ::
 (nat_lit 237,⟨(.type "function"),none,(.func (PySem.W.fnOf "law" "law" (Z0r (top 43)) (Z0p (top 43)) (Z06 (top 43)) .none .none .none (.str "law_likepieces_k10_bare_of_expressions" 279) none (.ref 236) .none)),#[]⟩) :: []
def hdA:List Addr:=[2,3,15,18,19,20,23,24,25,28,29,30,32,33,35,36,37,39,40,42,43,44,46,47,49,50,51,53,54,56,57,58,61,62,63,65,66,68,69,70,72,73,75,76,77,79,80,82,83,84,86,87,89,90,91,93,94,96,97,98,100,101,103,104,105,107,108,110,111,112,114,115,117,118,119,122,123,124,127,128,129,132,133,134,137,138,139,142,143,144,146,147,149,150,151,154,155,156,158,159,161,162,163,166,167,168,171,172,173,176,177,178,181,182,183,185,186,188,189,190,192,193,195,196,197,199,200,202,203,204,207,208,209,212,213,214,216,217,219,220,221,224,225,226,229,230,231,233,234,236,237]
abbrev hdL:List Str:=[]
abbrev hdN:Nat:=2428
abbrev hdH:PySem.W.Hook:=PySem.W.kHook hdK hdA (fun _=>by kernel_rfl)
theorem hdS:PySem.Challenge.rw_likepieces_k10_bare_of_expressions.wellSaid=true:=by decide+kernel
set_option maxHeartbeats 0 in
open PySem.W.Fast in
theorem hdT:PySem.W.LeftO (PySem.Challenge.rw_likepieces_k10_bare_of_expressions).row.toRowW.prog hdQ hdL (fun s=>PySem.W.xlAt hdQ [] s&&PySem.W.recOk (PySem.W.RowW.records (PySem.Challenge.rw_likepieces_k10_bare_of_expressions).row.toRowW) s) (PySem.W.Hook.obs hdH) (PySem.W.Hook.val hdH) hdN:=by
 intro w
 unfold PySem.W.openEnds PySem.W.fencedOpening PySem.W.topFrom
 rw[te10274390034422433532,te1435165496053646825,te14289696077712309145,te14082659384304107361,te4187177175401517315,te14364793385576792824,te8920871248978507458,te5923862056798008813]
 kernel_rfl
end K10
namespace L2
open PySem PySem.Spec PyProof.Rows
abbrev Key:=Sum Int Str
def Zbm:Key->Value->Bool
 | .inl k,v=>Value.isInt k v
 | .inr x,v=>Value.isStrOf x v
def Zn4 (w:World):Key->Int
 | .inl k=>hashInt k
 | .inr x=>hashStr w x
theorem Z1c:∀{k:Key} {v:Value},Zbm k v=true->(∃i t,k=Sum.inl i/\v=Value.int i t)∨(∃x t,k=Sum.inr x/\v=Value.str x t)
 | .inl i,v,h=>by
  obtain⟨t,e⟩:=Value.isInt_shape (k:=i) (v:=v) h
  exact .inl ⟨i,t,rfl,e⟩
 | .inr x,v,h=>by
  obtain⟨t,e⟩:=Value.isStrOf_shape (x:=x) (v:=v) h
  exact .inr ⟨x,t,rfl,e⟩
theorem Zcq (i:Int)(t:Tok):Zbm (.inl i) (.int i t)=true:=by simp [Zbm,Value.isInt]
theorem Zcr (x:Str)(t:Tok):Zbm (.inr x) (.str x t)=true:=by simp [Zbm,Value.isStrOf]
theorem Zjl (a b:Int):decide ((Sum.inl a:Key)=Sum.inl b)=(a==b):=by
 by_cases e:a=b
 ·subst e;simp
 ·have h:¬ (Sum.inl a:Key)=Sum.inl b:=fun q=>e (Sum.inl.inj q)
  rw[decide_eq_false h]
  exact(beq_eq_false_iff_ne.mpr e).symm
theorem Zjm (a b:Str):decide ((Sum.inr a:Key)=Sum.inr b)=decide (a=b):=by
 by_cases e:a=b
 ·subst e;simp
 ·have h:¬ (Sum.inr a:Key)=Sum.inr b:=fun q=>e (Sum.inr.inj q)
  rw[decide_eq_false h,decide_eq_false e]
theorem Zjn (a:Int)(b:Str):decide ((Sum.inl a:Key)=Sum.inr b)=false:=decide_eq_false (fun q=>nomatch q)
theorem Zjo (a:Str)(b:Int):decide ((Sum.inr a:Key)=Sum.inl b)=false:=decide_eq_false (fun q=>nomatch q)
def Z13 (prog:Program)(w:World):PySem.KeyKind prog w Key where
 is:=Zbm
 hash:=Zn4 w
 inj:=fun v a b ha hb=>by
  rcases Z1c ha with ⟨i,t,rfl,rfl⟩|⟨x,t,rfl,rfl⟩
  ·rcases Z1c hb with ⟨j,u,rfl,e⟩|⟨y,u,rfl,e⟩
   ·injection e with e1 _;rw[e1]
   ·exact nomatch e
  ·rcases Z1c hb with ⟨j,u,rfl,e⟩|⟨y,u,rfl,e⟩
   ·exact nomatch e
   ·injection e with e1 _;rw[e1]
 byValue:=fun k v h=>by
  rcases Z1c h with ⟨i,t,rfl,rfl⟩|⟨x,t,rfl,rfl⟩ <;> rfl
 pyHash:=fun hv h=>by
  rcases Z1c hv with ⟨i,t,rfl,rfl⟩|⟨x,t,rfl,rfl⟩
  ·exact wpAny_pyHash_int h
  ·exact wpAny_pyHash_str h
 eqBool:=fun hu hv h=>by
  rcases Z1c hu with ⟨i,t,rfl,rfl⟩|⟨x,t,rfl,rfl⟩
  ·rcases Z1c hv with ⟨j,u,rfl,rfl⟩|⟨y,u,rfl,rfl⟩
   ·rw[Zjl] at h;exact wpAny_eqBool_int h
   ·rw[Zjn] at h;exact SeqAt.EqAt.int_str i t y u _ _ _ _ h
  ·rcases Z1c hv with ⟨j,u,rfl,rfl⟩|⟨y,u,rfl,rfl⟩
   ·rw[Zjo] at h;exact SeqAt.EqAt.str_int x t j u _ _ _ _ h
   ·rw[Zjm] at h;exact wpAny_eqBool_str h
 «strs» := fun k x t v h => by
  rcases Z1c h with ⟨i,u,rfl,e⟩|⟨y,u,rfl,e⟩
  ·exact nomatch e
  ·injection e with e1 _
   subst e1
   cases v <;> rfl
theorem Z9v (prog:Program)(w:World)(i:Int)(t:Tok):(Z13 prog w).is (.inl i) (.int i t)=true:=Zcq i t
theorem Z9w (prog:Program)(w:World)(x:Str)(t:Tok):(Z13 prog w).is (.inr x) (.str x t)=true:=Zcr x t
inductive V where
 |non|bl (b:Bool)|int (i:Int)|str (x:Str)|byt (b:Array UInt8)|flt (b:UInt64)|ref (a:Addr)|ty (n:String)
 deriving DecidableEq
def RelV:V->Value->Prop
 | .non,u=>u=Value.none
 | .bl b,u=>u=Value.bool b
 | .int i,u=>∃t,u=Value.int i t
 | .str x,u=>∃t,u=Value.str x t
 | .byt b,u=>∃t,u=Value.bytes b t
 | .flt b,u=>∃t,u=Value.float b t
 | .ref a,u=>u=Value.ref a
 | .ty n,u=>u=Value.type n
abbrev Vals:List V->List Value->Prop:=Paired RelV
theorem Vals.length {xs:List V}{us:List Value}(r:Vals xs us):xs.length=us.length:=Paired.length r
theorem Vals.get:∀{xs:List V} {us:List Value} {i:Nat} {x:V},Vals xs us->xs[i]? = some x->∃u,us[i]? = some u/\RelV x u
 |_,_,_,_,.nil,e=>by simp at e
 |_,_,0,_,.cons r _,e=>by simp at e;subst e;exact⟨_,rfl,r⟩
 |_,_,i+1,x,.cons _ t,e=>by
  obtain⟨u,h1,h2⟩:=Vals.get (i:=i) (x:=x) t (by simpa using e)
  exact⟨u,by simpa using h1,h2⟩
theorem Vals.set {x:V}{u:Value}(r:RelV x u):∀{xs:List V} {us:List Value} (i:Nat),Vals xs us->Vals (xs.set i x) (us.set i u)
 |_,_,_,.nil=>.nil
 |_,_,0,.cons _ t=>.cons r t
 |_,_,i+1,.cons q t=>.cons q (Vals.set r i t)
theorem Vals.append:∀{xs ys:List V} {us ws:List Value},Vals xs us->Vals ys ws->Vals (xs++ys) (us++ws)
 |_,_,_,_,.nil,s=>s
 |_,_,_,_,.cons r t,s=>.cons r (Vals.append t s)
theorem Vals.take:∀{xs:List V} {us:List Value} (n:Nat),Vals xs us->Vals (xs.take n) (us.take n)
 |_,_,0,_=>.nil
 |_,_,_+1,.nil=>.nil
 |_,_,n+1,.cons r t=>.cons r (Vals.take n t)
theorem Vals.drop:∀{xs:List V} {us:List Value} (n:Nat),Vals xs us->Vals (xs.drop n) (us.drop n)
 |_,_,0,r=>r
 |_,_,_+1,.nil=>.nil
 |_,_,n+1,.cons _ t=>Vals.drop n t
def RelO:Option V->Option Value->Prop
 |some v,some u=>RelV v u
 |none,none=>True
 |_,_=>False
def KV {κ : Type}:List (κ × V)->List (κ × Value)->Prop:=Paired fun(p : κ × V) (q : κ × Value)=>p.1=q.1/\RelV p.2 q.2
def kV:Key->V
 | .inl i=>.int i
 | .inr x=>.str x
inductive HO where
 |lst (xs:List V)
 |tup (xs:List V)
 |dK (kvs:List (Key×V))|dT (kvs:List (List Key×V))
 |set (S:Int->Bool) (n:Nat)
 |ins (C dx:Addr) (fs:List (Str×V))
 |own (x:Addr)
 |xd (fs:List (Str×V))
 |met (f x:Addr)
 |rng (lo hi:Int)
 |frz (o:Obj) (u:HO)
 |tbl (ps:Array Value)
 |ext (φ : Heap->Prop)
abbrev Hp:=Addr->Option HO
def upd (H:Hp)(a:Addr)(o:HO):Hp:=fun b=>if b=a then some o else H b
theorem Z00 {H:Hp}{a:Addr}{o:HO}:upd H a o a=some o:=by unfold upd;rw[if_pos rfl]
theorem Z0a {H:Hp}{a b:Addr}{o:HO}(h:b≠a):upd H a o b=H b:=by unfold upd;rw[if_neg h]
theorem Z3i {H:Hp}{a b:Addr}{o u:HO}(h:H a=some o)(h':H b=some u)(d:o≠u):a≠b:=by
 intro e;subst e;rw[h] at h';exact d (Option.some.inj h')
theorem Z0g {H:Hp}{a b:Addr}{o:HO}(h:H a=some o)(h':H b=none):a≠b:=by
 intro e;subst e;rw[h] at h';cases h'
section
variable (P:Program)(w:World)
def ObjOk (H:Hp)(h:Heap)(a:Addr):HO->Prop
 | .lst xs=>xs.length<=sizeLine/\∃(its:List Value) (n:Nat),Vals xs its/\h.get? a=some { cls:=.type "list",data:=.seq its.toArray n }
 | .tup xs=>xs.length<=sizeLine/\∃its:List Value,Vals xs its/\IsTup h a its.toArray
 | .dK kvs=>kvs.length<=sizeLine/\(a==sysModules)=false/\∃vs,KV kvs vs/\h.DictOf (Z13 P w) a vs
 | .dT kvs=>kvs.length<=sizeLine/\(a==sysModules)=false/\∃xs:List (List Key×Addr×Value),
   Paired (fun(p:List Key×V) (q:List Key×Addr×Value)=>p.1=q.1/\H q.2.1=some (.tup (p.1.map kV))/\RelV p.2 q.2.2) kvs xs ∧
   ∃o es ep,h.get? a=some o/\o.ExactDict/\o.data = .dict es ep/\es.toList=xs.map (entryOfKey (tupleKind (Z13 P w)))/\(xs.map (·.1)).Nodup
 | .set S n=>h.SetOf (intKind P w) a S n
 | .ins C dx fs=>H dx=some (.own a)/\fs.length<=1000/\dx≠a/\h.get? a=some (PySem.W.instObj C dx) ∧
   ∃mA,h.Ns1 dx mA/\(∀f,RelO (fs.lookup f) (mA f))/\PySem.Within mA (fs.map (·.1))
 | .own _=>∃o,h.get? a=some o
 | .xd fs=>∃mA,h.Ns1 a mA/\∀f,RelO (fs.lookup f) (mA f)
 | .rng lo hi=>∃t u v,h.get? a=some { cls:=.type "range",data:=.fields #[.int lo t,.int hi u,.int 1 v] }
 | .frz o u=>h.get? a=some o/\ObjOk H h a u
 | .tbl ps=>h.get? a=some { cls:=.none,data:=.fields ps }
 | .met f x=>h.get? a=some (PySem.W.methodObj (.ref f) (.ref x))
 | .ext φ => φ h/\(∃o,h.get? a=some o)/\∀h1 h2:Heap,φ h1->(∀o,h1.get? a=some o->h2.get? a=some o) -> φ h2
def HOk (H:Hp)(h:Heap):Prop:=∀a o,H a=some o->ObjOk P w H h a o
end
section
variable {P:Program}{w:World}{H H':Hp}{h h':Heap}{a:Addr}{o:HO}
theorem ObjOk.lt (x:ObjOk P w H h a o):a<h.objs.size:=by
 cases o with
 |lst xs=>obtain⟨_,_,_,_,e⟩:=x;exact Heap.lt_size e
 |tup xs=>obtain⟨_,_,_,p⟩:=x;exact p.lt
 |dK kvs=>obtain⟨_,_,_,_,o,_,_,e,_⟩:=x;exact Heap.lt_size e
 |dT kvs=>obtain⟨_,_,_,_,o,_,_,e,_⟩:=x;exact Heap.lt_size e
 |set S n=>obtain⟨o,_,_,_,e,_⟩:=x;exact Heap.lt_size e
 |ins C dx fs=>obtain⟨_,_,_,e,_⟩:=x;exact Heap.lt_size e
 |own y=>obtain⟨_,e⟩:=x;exact Heap.lt_size e
 |xd fs=>obtain⟨_,⟨_,_,_,e,_⟩,_⟩:=x;exact Heap.lt_size e
 |rng lo hi=>obtain⟨_,_,_,e⟩:=x;exact Heap.lt_size e
 |frz ob u=>obtain⟨e,_⟩:=x;exact Heap.lt_size e
 |tbl ps=>exact Heap.lt_size (show h.get? a=some _ from x)
 |met f y=>exact Heap.lt_size (show h.get? a=some _ from x)
 |ext φ => obtain⟨_,⟨_,e⟩,_⟩:=x;exact Heap.lt_size e
theorem Paired.mapP {α β : Type}{F G : α -> β -> Prop}:∀{l₁:List α} {l₂:List β},Paired F l₁ l₂->(∀a b,F a b->G a b)->Paired G l₁ l₂
 |_,_,.nil,_=>.nil
 |_,_,.cons r t,f=>.cons (f _ _ r) (Paired.mapP t f)
theorem ObjOk.stay (x:ObjOk P w H h a o)(k:∀b u,(b=a∨H b=some (.own a))->h.get? b=some u->h'.get? b=some u)
  (ho:∀b,H b=some (.own a)->H' b=some (.own a)) (ht:∀b xs,H b=some (.tup xs)->H' b=some (.tup xs)):ObjOk P w H' h' a o:=by
 induction o with
 |lst xs=>obtain⟨z,its,n,r,e⟩:=x;exact⟨z,its,n,r,k _ _ (.inl rfl) e⟩
 |tup xs=>obtain⟨z,its,r,ob,e,c⟩:=x;exact⟨z,its,r,ob,k _ _ (.inl rfl) e,c⟩
 |dK kvs=>obtain⟨z,y,vs,r,ob,es,ep,e,c⟩:=x;exact⟨z,y,vs,r,ob,es,ep,k _ _ (.inl rfl) e,c⟩
 |dT kvs=>
  obtain⟨z,y,xs,r,ob,es,ep,e,c⟩:=x
  exact⟨z,y,xs,Paired.mapP r fun p q z=>⟨z.1,ht _ _ z.2.1,z.2.2⟩,ob,es,ep,k _ _ (.inl rfl) e,c⟩
 |set S n=>obtain⟨ob,es,ep,t,e,c⟩:=x;exact⟨ob,es,ep,t,k _ _ (.inl rfl) e,c⟩
 |ins C dx fs=>
  obtain⟨d,z,ne,e,mA,⟨od,es,ep,e2,c⟩,r⟩:=x
  exact⟨ho _ d,z,ne,k _ _ (.inl rfl) e,mA,⟨od,es,ep,k _ _ (.inr d) e2,c⟩,r⟩
 |own y=>obtain⟨ob,e⟩:=x;exact⟨ob,k _ _ (.inl rfl) e⟩
 |xd fs=>obtain⟨mA,⟨od,es,ep,e,c⟩,r⟩:=x;exact⟨mA,⟨od,es,ep,k _ _ (.inl rfl) e,c⟩,r⟩
 |rng lo hi=>obtain⟨t,u,v,e⟩:=x;exact⟨t,u,v,k _ _ (.inl rfl) e⟩
 |frz ob u ih=>obtain⟨e,q⟩:=x;exact⟨k _ _ (.inl rfl) e,ih q⟩
 |tbl ps=>
  have e:h.get? a=some { cls:=.none,data:=.fields ps }:=x
  show h'.get? a=some { cls:=.none,data:=.fields ps }
  exact k a _ (.inl rfl) e
 |met f y=>
  have e:h.get? a=some (PySem.W.methodObj (.ref f) (.ref y)):=x
  show h'.get? a=some (PySem.W.methodObj (.ref f) (.ref y))
  exact k a _ (.inl rfl) e
 |ext φ => obtain⟨p,⟨o,e⟩,st⟩:=x;exact⟨st _ _ p fun o q=>k _ _ (.inl rfl) q,⟨o,k _ _ (.inl rfl) e⟩,st⟩
theorem HOk.lt (x:HOk P w H h)(e:H a=some o):a<h.objs.size:=(x a o e).lt
theorem HOk.fresh (x:HOk P w H h)(e:h.objs.size<=a):H a=none:=by
 cases q:H a with
 |none=>rfl
 |some u=>exact absurd (Nat.lt_of_lt_of_le (x.lt q) e) (Nat.lt_irrefl _)
theorem HOk.kept (x:HOk P w H h)(k:∀b u,h.get? b=some u->h'.get? b=some u):HOk P w H h':=fun a o e=>
 (x a o e).stay (fun b u _ q=>k b u q) (fun _ q=>q) fun _ _ q=>q
theorem HOk.laid (x:HOk P w H h)(k:∀b u,h.get? b=some u->h'.get? b=some u)(hp:h.objs.size<=a)(new:ObjOk P w (upd H a o) h' a o):HOk P w (upd H a o) h':=fun b u e=>by
 have hn:=x.fresh hp
 by_cases hb:b=a
 ·subst hb;rw[Z00] at e;cases e;exact new
 ·rw[Z0a hb] at e
  exact(x b u e).stay (fun c v _ q=>k c v q) (fun c q=>by rw[Z0a (Z0g q hn)];exact q) fun c xs q=>by rw[Z0a (Z0g q hn)];exact q
end
def Rd (H:Hp)(a:Addr)(u:HO):Prop:=H a=some u∨∃o,H a=some (.frz o u)
theorem Rd.of {H:Hp}{a:Addr}{u:HO}(h:H a=some u):Rd H a u:=.inl h
theorem Rd.ok {P:Program}{w:World}{H:Hp}{h:Heap}{a:Addr}{u:HO}(r:Rd H a u)(x:HOk P w H h):ObjOk P w H h a u:=by
 rcases r with r|⟨o,r⟩
 ·exact x a u r
 ·obtain⟨_,q⟩:=x a _ r
  exact q
def Mut:Option HO->Prop
 |some (.lst _)=>True
 |some (.dK _)=>True
 |some (.dT _)=>True
 |some (.set _ _)=>True
 |some (.ins _ _ _)=>True
 |some (.ext _)=>True
 |_=>False
section
variable {P:Program}{w:World}{H:Hp}{h h':Heap}{x e:Addr}{o':HO}
theorem HOk.write (ok:HOk P w H h)(mu:Mut (H x))(he:e=x∨H e=some (.own x))(k:∀b u,b≠e->h.get? b=some u->h'.get? b=some u)(heo:∃u,h'.get? e=some u)
  (new:ObjOk P w (upd H x o') h' x o'):HOk P w (upd H x o') h':=fun b u q=>by
 have nown:∀c y,H c=some (.own y)->c≠x:=fun c y r z=>by subst z;rw[r] at mu;exact mu
 have ntup:∀c xs,H c=some (.tup xs)->c≠x:=fun c xs r z=>by subst z;rw[r] at mu;exact mu
 by_cases hb:b=x
 ·subst hb;rw[Z00] at q;cases q;exact new
 ·rw[Z0a hb] at q
  by_cases hbe:b=e
  ·have q':H b=some (.own x):=by
    rcases he with z|z
    ·exact absurd (hbe.trans z) hb
    ·rw[hbe];exact z
   rw[q] at q';cases q'
   obtain⟨v,hv⟩:=heo
   exact⟨v,by rw[hbe];exact hv⟩
  ·refine(ok b u q).stay (fun c v hc r=>k c v ?_ r) (fun c r=>by rw[Z0a (nown c b r)];exact r) fun c xs r=>by rw[Z0a (ntup c xs r)];exact r
   rcases hc with rfl|hc
   ·exact hbe
   ·rintro rfl
    rcases he with z|z
    ·exact nown c b hc z
    ·rw[hc] at z;cases z;exact hb rfl
end
structure Un (fs ex:List Addr)(H H':Hp)(h h':Heap):Prop where
 keep:∀b o,h.get? b=some o->H b=none->b∉fs->b∉ex->h'.get? b=some o
 slot:∀b o,h.get? b=some o->H b=none->b∈fs->b∉ex->∃sl,h'.get? b=some { o with slots:=sl }
 free:∀b o,h.get? b=some o->H b=none->b∉ex->H' b=none
 there:∀b o,h.get? b=some o->b∉ex->∃o',h'.get? b=some o'
 tups:∀b xs,H b=some (.tup xs)->H' b=some (.tup xs)
 frzs:∀b o u,H b=some (.frz o u)->H' b=some (.frz o u)
 tbls:∀b ps,H b=some (.tbl ps)->∃more,H' b=some (.tbl (ps++more))
section
variable {fs fs' ex ex':List Addr}{H H1 H2:Hp}{h h1 h2 h':Heap}{a x e:Addr}{o:HO}
theorem Un.any (u:Un fs ex H H1 h h1){b:Addr}{ob:Obj}(q:h.get? b=some ob)(n:H b=none)(hx:b∉ex):∃sl,h1.get? b=some { ob with slots:=sl }:=by
 by_cases hb:b∈fs
 ·exact u.slot b ob q n hb hx
 ·exact⟨ob.slots,u.keep b ob q n hb hx⟩
theorem Un.kept (k:∀b u,h.get? b=some u->h'.get? b=some u):Un fs ex H H h h':=
 ⟨fun b ob q _ _ _=>k b ob q,fun b ob q _ _ _=>⟨ob.slots,k b ob q⟩,fun _ _ _ n _=>n,fun b ob q _=>⟨ob,k b ob q⟩,fun _ _ q=>q,fun _ _ _ q=>q,fun _ ps q=>⟨#[],by rw[q];simp⟩⟩
theorem Un.refl:Un fs ex H H h h:=Un.kept fun _ _ q=>q
theorem Un.laid (k:∀b u,h.get? b=some u->h'.get? b=some u)(hp:h.objs.size<=a)(hn:H a=none):Un fs ex H (upd H a o) h h' where
 keep:=fun b u q _ _ _=>k b u q
 slot:=fun b u q _ _ _=>⟨u.slots,k b u q⟩
 free:=fun b u q n _=>by rw[Z0a (Nat.ne_of_lt (Nat.lt_of_lt_of_le (Heap.lt_size q) hp))];exact n
 there:=fun b u q _=>⟨u,k b u q⟩
 tups:=fun b xs q=>by rw[Z0a (Z0g q hn)];exact q
 frzs:=fun b u xs q=>by rw[Z0a (Z0g q hn)];exact q
 tbls:=fun b ps q=>⟨#[],by rw[Z0a (Z0g q hn),q];simp⟩
theorem Un.write (mu:Mut (H x))(he:e=x∨H e=some (.own x))(k:∀b u,b≠e->h.get? b=some u->h'.get? b=some u)(heo:∃u,h'.get? e=some u):Un fs ex H (upd H x o) h h':=by
 have hx:∀b,H b=none->b≠x:=fun b n z=>by subst z;rw[n] at mu;exact mu
 have hb:∀b,H b=none->b≠e:=fun b n z=>by
  subst z
  rcases he with r|r
  ·exact hx b n r
  ·rw[n] at r;cases r
 have hm:∀b u,H b=some u->¬Mut (some u)->b≠x:=fun b u q nm z=>by subst z;rw[q] at mu;exact nm mu
 refine⟨fun b u q n _ _=>k b u (hb b n) q,fun b u q n _ _=>⟨u.slots,k b u (hb b n) q⟩,fun b u q n _=>by rw[Z0a (hx b n)];exact n,fun b u q _=>?_,
  fun b xs q=>by rw[Z0a (hm b _ q fun z=>z)];exact q,fun b u xs q=>by rw[Z0a (hm b _ q fun z=>z)];exact q,fun b ps q=>⟨#[],by rw[Z0a (hm b _ q fun z=>z),q];simp⟩⟩
 by_cases hbe:b=e
 ·subst hbe;exact heo
 ·exact⟨u,k b u hbe q⟩
end
def trk (h:Heap)(H:Hp):List Addr:=(List.range h.objs.size).filter fun a=>(H a).isSome
def Zfb (h:Heap)(H:Hp):Heap:=PySem.W.hideAll h (trk h H)
theorem Zcs (h:Heap)(H:Hp):(Zfb h H).objs.size=h.objs.size:=PySem.W.hideAll_size _ _
theorem Zfc {h:Heap}{H:Hp}{b:Addr}{o:Obj}(e:h.get? b=some o)(n:H b=none):(Zfb h H).get? b=some o:=
 PySem.W.hideAll_get _ e fun hm=>by
  have q:(H b).isSome=true:=(mem_filter.mp hm).2
  rw[n] at q;simp at q
theorem Zhy {h:Heap}{H:Hp}{b:Addr}{o:Obj}(e:(Zfb h H).get? b=some o):h.get? b=some o/\H b=none:=by
 have e':h.get? b=some o:=PySem.W.of_hideAll (trk h H) e
 refine⟨e',?_⟩
 cases q:H b with
 |none=>rfl
 |some x=>
  have hm:b∈trk h H:=mem_filter.mpr ⟨mem_range.mpr (Heap.lt_size e'),by simp [q]⟩
  have z:(Zfb h H).get? b=none:=PySem.W.hideAll_none (trk h H) hm
  rw[z] at e;cases e
structure Mod (K:PySem.W.Frag)(mg:Str->Option Value)(base:Heap):Prop where
 kin:K.In base
 glob:base.Ns mainGlobals mg
 blt:∃mb,base.Ns builtinsNs mb/\∀x:Str,x≠"__name__"->mb x=bootBuiltins x
 nolimit:base.NoLimit
structure Cx where
 prog:Program
 w:World
 K:PySem.W.Frag
 mg:Str->Option Value
 base:Heap
 A:Around
 N:List Str
 s₀:Shared
 H₀:Hp
 env:Env
 outer:List Env
 stack:List Env
 ex:List Addr
 fn:Str->Bool
 calm:Bool
 pn:List (Addr×Obj)
 xe:Value->Shared->Prop
def frs (l:List Env):List Addr:=l.filterMap (·.frame)
abbrev Cx.fs (X:Cx):List Addr:=frs X.outer
def Vis (sc:Scope)(x:Str):Prop:=sc.names.lookup x=some .local∨sc.names.lookup x=some .cell∨sc.names.lookup x=some .free
def Loc (sc:Scope)(x:Str):Prop:=sc.names.lookup x=some .local∨sc.names.lookup x=some .cell
def Zn5 (env:Env)(h:Heap)(m:Str->Option Value)(x:Str)(u:Value):Prop:=
 (env.kindOf x=some .local/\m x=some u)∨((env.kindOf x=some .cell∨env.kindOf x=some .free)/\∃c,env.cells.lookup x=some c/\h.IsCell c (some u))
structure Cx.Ok (X:Cx):Prop where
 mod:Mod X.K X.mg X.base
 kind:X.env.scope.kind = .function
 glob:X.env.globals=mainGlobals
 blt:X.env.builtins=builtinsNs
 above:X.s₀.heap.objs.size<=X.env.locals
 inj:∀x y c,X.env.cells.lookup x=some c->X.env.cells.lookup y=some c->x=y
 has:∀x,(X.env.kindOf x=some .cell∨X.env.kindOf x=some .free)->∃c,X.env.cells.lookup x=some c
 cab:∀x c,X.fn x=true->X.env.cells.lookup x=some c->X.s₀.heap.objs.size<=c
 hd:X.calm=true->X.A.handled=none
 frames:X.A.frames=some X.stack
 stk:X.stack=X.outer∨(X.stack=X.env::X.outer/\X.env.frame=some X.env.locals)
 exf:∀b∈X.ex,b≠X.env.locals/\∀x c,X.env.cells.lookup x=some c->c≠b
 bs:∀b o,X.base.get? b=some o->X.s₀.heap.get? b=some o/\X.H₀ b=none
 bsz:X.base.objs.size<=X.s₀.heap.objs.size
 noex:∀b o,X.base.get? b=some o->b∉X.ex
 exfs:∀b∈X.ex,b∉X.fs
 funs:X.s₀.heap.FunFrames X.base X.outer
 frf:∀b∈X.fs,X.H₀ b=none
structure Inv (X:Cx)(pins:List (Addr×Obj))(σ:List (Option V))(H:Hp)(s:Shared):Prop where
 ok:X.Ok
 os:s.os=X.s₀.os
 bare:AllBare s.gens
 base:Un X.fs X.ex X.H₀ H X.s₀.heap s.heap
 loc:∃m,s.heap.Ns X.env.locals m/\∀(i:Nat) (x:Str) (v:V),X.N[i]? = some x->σ[i]? = some (some v)->Vis X.env.scope x->∃u,RelV v u/\Zn5 X.env s.heap m x u
 cell:∀x c,X.env.cells.lookup x=some c->∃v,s.heap.IsCell c v
 free:H X.env.locals=none
 freeC:∀x c,X.env.cells.lookup x=some c->H c=none
 pin:∀p∈X.pn++pins,s.heap.get? p.1=some p.2/\H p.1=none/\p.1≠X.env.locals/\p.1∉X.fs/\∀v,p.2.data ≠ .cell v
 hok:HOk X.prog X.w H s.heap
 len:σ.length=X.N.length
section
variable {X:Cx}{pins:List (Addr×Obj)}{σ:List (Option V)}{H H':Hp}{s:Shared}{h':Heap}
theorem Cx.Ok.nofr (ok:X.Ok){b:Addr}{o:Obj}(e:X.base.get? b=some o):b∉X.fs:=fun hb=>by
 have:=(ok.funs.mem hb).1
 rw[e] at this;cases this
theorem Inv.bs (I:Inv X pins σ H s):∀b o,X.base.get? b=some o->s.heap.get? b=some o/\H b=none:=fun b o e=>
 ⟨I.base.keep b o (I.ok.bs b o e).1 (I.ok.bs b o e).2 (I.ok.nofr e) (I.ok.noex b o e),I.base.free b o (I.ok.bs b o e).1 (I.ok.bs b o e).2 (I.ok.noex b o e)⟩
theorem Inv.bk (I:Inv X pins σ H s):∀b o,X.base.get? b=some o->s.heap.get? b=some o:=fun b o e=>(I.bs b o e).1
theorem Inv.mod (I:Inv X pins σ H s):Mod X.K X.mg X.base:=I.ok.mod
theorem Inv.kIn (I:Inv X pins σ H s):X.K.In s.heap:=I.ok.mod.kin.keeps I.bk
theorem Inv.lt (I:Inv X pins σ H s):X.env.locals<s.heap.objs.size:=let ⟨_,hn,_⟩:=I.loc;hn.lt
theorem Inv.sz (I:Inv X pins σ H s):X.s₀.heap.objs.size<=s.heap.objs.size:=Nat.le_trans I.ok.above (Nat.le_of_lt I.lt)
theorem Inv.nofs (I:Inv X pins σ H s){a:Addr}(h:s.heap.objs.size<=a):a∉X.fs:=fun hb=>by
 obtain⟨_,o,ho,_⟩:=I.ok.funs.mem hb
 exact absurd (Nat.lt_of_lt_of_le (Heap.lt_size ho) (Nat.le_trans I.sz h)) (Nat.lt_irrefl _)
theorem Inv.cne (I:Inv X pins σ H s):∀x c,X.env.cells.lookup x=some c->c≠X.env.locals:=fun x c e z=>by
 obtain⟨v,o,ho,hd⟩:=I.cell x c e
 obtain⟨m,⟨o',es,ep,ho',hd',_⟩,_⟩:=I.loc
 rw[z,ho'] at ho;cases ho;rw[hd'] at hd;cases hd
theorem Inv.funs (I:Inv X pins σ H s):s.heap.FunFrames X.base X.outer:=by
 have all:∀(l:List Env),(∀b∈frs l,b∈X.fs)->X.s₀.heap.FunFrames X.base l->s.heap.FunFrames X.base l:=by
  intro l
  induction l with
  |nil=>intro _ _;trivial
  |cons env r ih=>
   intro hs hl
   obtain⟨hk,⟨L,o,hf,hn,ho,hd⟩,hr⟩:=hl
   have hL:L∈X.fs:=hs L (by unfold frs;rw[filterMap_cons,hf];exact mem_cons_self)
   obtain⟨sl,e⟩:=I.base.slot L o ho (I.ok.frf L hL) hL fun z=>I.ok.exfs L z hL
   exact⟨hk,⟨L,_,hf,hn,e,hd⟩,ih (fun b hb=>hs b (by unfold frs;rw[filterMap_cons,hf];exact mem_cons_of_mem _ hb)) hr⟩
 exact all X.outer (fun _ hb=>hb) I.ok.funs
theorem Inv.stack (I:Inv X pins σ H s):s.heap.FunFrames X.base X.stack:=by
 rcases I.ok.stk with e|⟨e,hf⟩
 ·rw[e];exact I.funs
 ·rw[e]
  obtain⟨m,hn,_⟩:=I.loc
  refine .cons (by rw[I.ok.kind];decide) hf hn ?_ I.funs
  exact Heap.get?_none_of_le (Nat.le_trans I.ok.bsz I.ok.above)
theorem Inv.stkSub (I:Inv X pins σ H s):∀b∈frs X.stack,b∈X.env.locals::X.fs:=fun b hb=>by
 rcases I.ok.stk with e|⟨e,hf⟩
 ·rw[e] at hb;exact mem_cons_of_mem _ hb
 ·rw[e] at hb
  unfold frs at hb
  rw[filterMap_cons,hf] at hb
  exact hb
theorem Inv.stkFree (I:Inv X pins σ H s):∀b∈frs X.stack,H b=none:=fun b hb=>by
 rcases mem_cons.mp (I.stkSub b hb) with e|hb
 ·rw[e];exact I.free
 ·obtain⟨_,o,ho,_⟩:=I.ok.funs.mem hb
  exact I.base.free b o ho (I.ok.frf b hb) fun z=>I.ok.exfs b z hb
theorem Inv.step {g':Array GenState}{t':Nat}{d':Drawn}{ch:List Addr}(I:Inv X pins σ H s)
  (hch:∀b∈ch,(b∈X.ex∨X.s₀.heap.objs.size<=b)/\b≠X.env.locals/\(∀x c,X.env.cells.lookup x=some c->c≠b)/\∀p∈X.pn++pins,p.1≠b)
  (keep:∀b o,b≠X.env.locals->b∉X.fs->b∉ch->s.heap.get? b=some o->H b=none->h'.get? b=some o)
  (slot:∀b o,b≠X.env.locals->b∈X.fs->b∉ch->s.heap.get? b=some o->H b=none->∃sl,h'.get? b=some { o with slots:=sl }) (free:∀b o,b∉ch->s.heap.get? b=some o->H b=none->H' b=none)
  (there:∀b o,b∉ch->s.heap.get? b=some o->∃o',h'.get? b=some o')
  (tups:∀b xs,H b=some (.tup xs)->H' b=some (.tup xs)) (frzs:∀b o u,H b=some (.frz o u)->H' b=some (.frz o u)) (tbls:∀b ps,H b=some (.tbl ps)->∃more,H' b=some (.tbl (ps++more)))
  (ns:∀m,s.heap.Ns X.env.locals m->h'.Ns X.env.locals m) (hok:HOk X.prog X.w H' h') (hg:AllBare g'):
  Inv X pins σ H' { s with heap:=h',gens:=g',drawn:=d',toks:=t' }:=by
 have neL:∀b o,X.s₀.heap.get? b=some o->b≠X.env.locals:=fun b o e=>Nat.ne_of_lt (Nat.lt_of_lt_of_le (Heap.lt_size e) I.ok.above)
 have neC:∀b o,X.s₀.heap.get? b=some o->b∉X.ex->b∉ch:=fun b o e hx hb=>by
  rcases(hch b hb).1 with z|z
  ·exact hx z
  ·exact absurd (Nat.lt_of_lt_of_le (Heap.lt_size e) z) (Nat.lt_irrefl _)
 have cellK:∀x c,X.env.cells.lookup x=some c->∀v,s.heap.IsCell c v->h'.IsCell c v:=fun x c e v ⟨o,ho,hd⟩=>by
  have nch:c∉ch:=fun z=>(hch c z).2.2.1 x c e rfl
  by_cases hc:c∈X.fs
  ·obtain⟨sl,q⟩:=slot c o (I.cne x c e) hc nch ho (I.freeC x c e)
   exact⟨_,q,hd⟩
  ·exact⟨o,keep c o (I.cne x c e) hc nch ho (I.freeC x c e),hd⟩
 refine⟨I.ok,I.os,hg,⟨fun b o e n hb hx=>?_,fun b o e n hb hx=>?_,fun b o e n hx=>?_,fun b o e hx=>?_,fun b xs e=>tups b xs (I.base.tups b xs e),fun b o xs e=>frzs b o xs (I.base.frzs b o xs e),fun b ps e=>?_⟩,?_,fun x c e=>?_,?_,fun x c e=>?_,fun p hp=>?_,hok,I.len⟩
 ·exact keep b o (neL b o e) hb (neC b o e hx) (I.base.keep b o e n hb hx) (I.base.free b o e n hx)
 ·obtain⟨sl,e1⟩:=I.base.slot b o e n hb hx
  obtain⟨sl',e2⟩:=slot b _ (neL b o e) hb (neC b o e hx) e1 (I.base.free b o e n hx)
  exact⟨sl',e2⟩
 ·obtain⟨o',e1⟩:=I.base.there b o e hx
  exact free b o' (neC b o e hx) e1 (I.base.free b o e n hx)
 ·obtain⟨o',e1⟩:=I.base.there b o e hx
  exact there b o' (neC b o e hx) e1
 ·obtain⟨m1,e1⟩:=I.base.tbls b ps e
  obtain⟨m2,e2⟩:=tbls b _ e1
  exact⟨m1++m2,by rw[e2,Array.append_assoc]⟩
 ·obtain⟨m,hn,hl⟩:=I.loc
  refine⟨m,ns m hn,fun i x v e1 e2 e3=>?_⟩
  obtain⟨u,r,l⟩:=hl i x v e1 e2 e3
  refine⟨u,r,?_⟩
  rcases l with l|⟨k,c,e,z⟩
  ·exact .inl l
  ·exact .inr ⟨k,c,e,cellK x c e _ z⟩
 ·obtain⟨v,z⟩:=I.cell x c e
  exact⟨v,cellK x c e v z⟩
 ·obtain⟨m,⟨o,_,_,ho,_⟩,_⟩:=I.loc
  exact free _ o (fun z=>(hch _ z).2.1 rfl) ho I.free
 ·obtain⟨v,o,ho,hd⟩:=I.cell x c e
  exact free c o (fun z=>(hch c z).2.2.1 x c e rfl) ho (I.freeC x c e)
 ·obtain⟨e,n,ne,nf,d⟩:=I.pin p hp
  have nch:p.1∉ch:=fun z=>(hch p.1 z).2.2.2 p hp rfl
  exact⟨keep p.1 p.2 ne nf nch e n,free p.1 p.2 nch e n,ne,nf,d⟩
theorem Inv.un {t':Nat}(I:Inv X pins σ H s)(u:Un X.fs [] H H' s.heap h')(hok:HOk X.prog X.w H' h'):Inv X pins σ H' { s with heap:=h',toks:=t' }:=by
 obtain⟨m,⟨o,es,ep,ho,r⟩,_⟩:=id I.loc
 obtain⟨sl,hL⟩:=u.any ho I.free (by simp)
 exact I.step (g':=s.gens) (d':=s.drawn) (ch:=[]) (fun _ z=>nomatch z) (fun b o _ hb _ e n=>u.keep b o e n hb (by simp)) (fun b o _ hb _ e n=>u.slot b o e n hb (by simp)) (fun b o _ e n=>u.free b o e n (by simp)) (fun b o _ e=>u.there b o e (by simp)) u.tups u.frzs u.tbls (fun m' hm=>by
  obtain⟨o',es',ep',ho',r'⟩:=hm
  rw[ho] at ho';cases ho'
  exact⟨_,es',ep',hL,r'⟩) hok I.bare
theorem Inv.call {g':Array GenState}{t':Nat}{d':Drawn}{ch:List Addr}(I:Inv X pins σ H s)(u:Un (frs X.stack) ch H H' s.heap h')(hok:HOk X.prog X.w H' h')(hg:AllBare g')
  (hch:∀b∈ch,(b∈X.ex∨X.s₀.heap.objs.size<=b)/\b≠X.env.locals/\(∀x c,X.env.cells.lookup x=some c->c≠b)/\∀p∈X.pn++pins,p.1≠b):
  Inv X pins σ H' { s with heap:=h',gens:=g',drawn:=d',toks:=t' }:=by
 obtain⟨m,⟨o,es,ep,ho,r⟩,_⟩:=id I.loc
 obtain⟨sl,hL⟩:=u.any ho I.free fun z=>(hch _ z).2.1 rfl
 exact I.step (ch:=ch) hch (fun b o hL hb hc e n=>u.keep b o e n (fun z=>(mem_cons.mp (I.stkSub b z)).elim hL hb) hc) (fun b o _ _ hc e n=>u.any e n hc) (fun b o hc e n=>u.free b o e n hc) (fun b o hc e=>u.there b o e hc) u.tups u.frzs u.tbls (fun m' hm=>by
  obtain⟨o',es',ep',ho',r'⟩:=hm
  rw[ho] at ho';cases ho'
  exact⟨_,es',ep',hL,r'⟩) hok hg
theorem Inv.turned {t':Nat}{it:Addr}(I:Inv X pins σ H s)(k:∀b o,b≠it->s.heap.get? b=some o->h'.get? b=some o)(hn:H it=none)(hL:it≠X.env.locals)
  (h1:it∈X.ex∨X.s₀.heap.objs.size<=it) (h2:∀x c,X.env.cells.lookup x=some c->c≠it) (h3:∀p∈X.pn++pins,p.1≠it):Inv X pins σ H { s with heap:=h',toks:=t' }:=by
 have nit:∀b u,H b=some u->b≠it:=fun b u e z=>by rw[z,hn] at e;cases e
 refine I.step (g':=s.gens) (d':=s.drawn) (ch:=[it]) (fun b hb=>?_) (fun b o _ _ hc e _=>k b o (fun z=>hc (by simp [z])) e) (fun b o _ _ hc e _=>⟨o.slots,k b o (fun z=>hc (by simp [z])) e⟩) (fun _ _ _ _ n=>n)
  (fun b o hc e=>⟨o,k b o (fun z=>hc (by simp [z])) e⟩) (fun _ _ e=>e) (fun _ _ _ e=>e) (fun b ps e=>⟨#[],by rw[e];simp⟩) (fun m hm=>?_) (fun b u e=>?_) I.bare
 ·have e:b=it:=by simpa using hb
  subst e
  exact⟨h1,hL,h2,h3⟩
 ·obtain⟨o,es,ep,ho,r⟩:=hm
  exact⟨o,es,ep,k _ o (Ne.symm hL) ho,r⟩
 ·refine(I.hok b u e).stay (fun c v hc q=>k c v ?_ q) (fun _ q=>q) fun _ _ q=>q
  rcases hc with z|z
  ·rw[z];exact nit b u e
  ·exact nit c _ z
theorem Inv.tok (I:Inv X pins σ H s)(t:Nat):Inv X pins σ H { s with toks:=t }:=I.un (h':=s.heap) (t':=t) Un.refl I.hok
theorem Inv.kept {t':Nat}(I:Inv X pins σ H s)(k:∀b u,s.heap.get? b=some u->h'.get? b=some u):Inv X pins σ H { s with heap:=h',toks:=t' }:=I.un (Un.kept k) (I.hok.kept k)
theorem Inv.laid {a:Addr}{o:HO}{t':Nat}(I:Inv X pins σ H s)(k:∀b u,s.heap.get? b=some u->h'.get? b=some u)(hp:s.heap.objs.size<=a)(new:ObjOk X.prog X.w (upd H a o) h' a o):
  Inv X pins σ (upd H a o) { s with heap:=h',toks:=t' }:=I.un (Un.laid k hp (I.hok.fresh hp)) (I.hok.laid k hp new)
theorem Inv.write {x e:Addr}{o:HO}{t':Nat}(I:Inv X pins σ H s)(mu:Mut (H x))(he:e=x∨H e=some (.own x))(k:∀b u,b≠e->s.heap.get? b=some u->h'.get? b=some u)(heo:∃u,h'.get? e=some u)
  (new:ObjOk X.prog X.w (upd H x o) h' x o):Inv X pins σ (upd H x o) { s with heap:=h',toks:=t' }:=I.un (Un.write mu he k heo) (I.hok.write mu he k heo new)
theorem Inv.pins_of {pins':List (Addr×Obj)}(I:Inv X pins σ H s)(h:∀p∈pins',s.heap.get? p.1=some p.2/\H p.1=none/\p.1≠X.env.locals/\p.1∉X.fs/\∀v,p.2.data ≠ .cell v):Inv X pins' σ H s:=
 ⟨I.ok,I.os,I.bare,I.base,I.loc,I.cell,I.free,I.freeC,fun p hp=>(mem_append.mp hp).elim (fun z=>I.pin p (mem_append_left _ z)) (h p),I.hok,I.len⟩
theorem Zag {N:List Str}(hN:N.Nodup){i j:Nat}{x:Str}(a:N[i]? = some x)(b:N[j]? = some x):i=j:=by
 obtain⟨h1,e1⟩:=List.getElem?_eq_some_iff.mp a
 obtain⟨h2,e2⟩:=List.getElem?_eq_some_iff.mp b
 exact(List.getElem_inj hN).mp (e1.trans e2.symm)
theorem Z8o {M:Model}{A:Around}{E:Value->Shared->Prop}{i:Nat}{x:Str}{v:V}{u:Value}{Q:Unit->Shared->Prop}(I:Inv X pins σ H s)(hN:X.N.Nodup)(hi:X.N[i]? = some x)(hx:Loc X.env.scope x)(r:RelV v u)
  (h:∀s',Inv X pins (σ.set i (some v)) H s'->(∃a,Heap.SameBut a s.heap s'.heap/\(a=X.env.locals∨X.env.cells.lookup x=some a))->Q () s') (hf:X.fn x=true∨X.env.scope.names.lookup x=some .local:=by first|exact .inl rfl|exact .inr rfl|assumption):wpAny M A (storeName X.env x u) Q E s:=by
 obtain⟨m,hn,hl⟩:=id I.loc
 have hcls:(X.env.scope.kind == .class||(X.env.scope.kind == .module&&X.env.locals != X.env.globals))=false:=by rw[I.ok.kind];rfl
 have hiσ:i<σ.length:=by rw[I.len];exact(List.getElem?_eq_some_iff.mp hi).1
 have cne:=I.cne
 have tracked:∀{a:Addr} {h':Heap},(∃o,s.heap.get? a=some o/\H a=none)->Heap.SameBut a s.heap h'->HOk X.prog X.w H h':=fun {a h'} ha hs b ob e=>by
  obtain⟨_,_,hfree⟩:=ha
  refine(I.hok b ob e).stay (fun c w' hc q=>(hs.2 c ?_).trans q) (fun _ q=>q) fun _ _ q=>q
  rintro rfl
  rcases hc with rfl|hc
  ·rw[hfree] at e;cases e
  ·rw[hfree] at hc;cases hc
 rcases hx with hk|hk
 ·refine wpAny_storeName_local hk hn (fun h' hn' hs=>?_) hcls
  obtain⟨oL,_,_,hoL,_⟩:=id hn
  refine h _ ⟨I.ok,I.os,I.bare,⟨fun b o e n hb hx=>?_,fun b o e n hb hx=>?_,I.base.free,fun b o e hx=>?_,I.base.tups,I.base.frzs,I.base.tbls⟩,⟨_,hn',fun j y v' e1 e2 e3=>?_⟩,fun y c e=>?_,I.free,I.freeC,fun p hp=>?_,tracked ⟨oL,hoL,I.free⟩ hs,by simpa using I.len⟩ ⟨_,hs,.inl rfl⟩
  ·exact(hs.2 b (Nat.ne_of_lt (Nat.lt_of_lt_of_le (Heap.lt_size e) I.ok.above))).trans (I.base.keep b o e n hb hx)
  ·obtain⟨sl,e1⟩:=I.base.slot b o e n hb hx
   exact⟨sl,(hs.2 b (Nat.ne_of_lt (Nat.lt_of_lt_of_le (Heap.lt_size e) I.ok.above))).trans e1⟩
  ·obtain⟨o',e1⟩:=I.base.there b o e hx
   exact⟨o',(hs.2 b (Nat.ne_of_lt (Nat.lt_of_lt_of_le (Heap.lt_size e) I.ok.above))).trans e1⟩
  ·by_cases hj:j=i
   ·subst hj
    rw[hi] at e1;cases e1
    rw[List.getElem?_set_self hiσ] at e2
    cases e2
    exact⟨u,r,.inl ⟨hk,by simp⟩⟩
   ·rw[List.getElem?_set_ne (Ne.symm hj)] at e2
    obtain⟨u',r',q⟩:=hl j y v' e1 e2 e3
    refine⟨u',r',?_⟩
    rcases q with ⟨k,e⟩|⟨k,c,e,z⟩
    ·refine .inl ⟨k,?_⟩
     have:y≠x:=fun e=>hj (Zag hN e1 (e▸hi))
     simp [this,e]
    ·exact .inr ⟨k,c,e,z.sameBut hs (cne y c e)⟩
  ·obtain⟨w',z⟩:=I.cell y c e
   exact⟨w',z.sameBut hs (cne y c e)⟩
  ·obtain⟨e,n,ne,nf,d⟩:=I.pin p hp
   exact⟨(hs.2 p.1 ne).trans e,n,ne,nf,d⟩
 ·have hfn:X.fn x=true:=by
   rcases hf with z|z
   ·exact z
   ·rw[z] at hk;cases hk
  obtain⟨c,hc⟩:=I.ok.has x (.inl hk)
  obtain⟨w',z⟩:=I.cell x c hc
  refine wpAny_storeName_cell I.ok.kind hk hc z (fun h' hc' hs=>?_)
  obtain⟨oc,hoc,hocd⟩:=id z
  refine h { s with heap:=h' } ⟨I.ok,I.os,I.bare,⟨fun b o e n hb hx=>?_,fun b o e n hb hx=>?_,I.base.free,fun b o e hx=>?_,I.base.tups,I.base.frzs,I.base.tbls⟩,⟨m,hn.sameBut hs (Ne.symm (cne x c hc)),fun j y v' e1 e2 e3=>?_⟩,fun y c' e=>?_,I.free,I.freeC,fun p hp=>?_,tracked ⟨oc,hoc,I.freeC x c hc⟩ hs,by simpa using I.len⟩ ⟨c,hs,.inr hc⟩
  ·exact(hs.2 b (Nat.ne_of_lt (Nat.lt_of_lt_of_le (Heap.lt_size e) (I.ok.cab x c hfn hc)))).trans (I.base.keep b o e n hb hx)
  ·obtain⟨sl,e1⟩:=I.base.slot b o e n hb hx
   exact⟨sl,(hs.2 b (Nat.ne_of_lt (Nat.lt_of_lt_of_le (Heap.lt_size e) (I.ok.cab x c hfn hc)))).trans e1⟩
  ·obtain⟨o',e1⟩:=I.base.there b o e hx
   exact⟨o',(hs.2 b (Nat.ne_of_lt (Nat.lt_of_lt_of_le (Heap.lt_size e) (I.ok.cab x c hfn hc)))).trans e1⟩
  ·by_cases hj:j=i
   ·subst hj
    rw[hi] at e1;cases e1
    rw[List.getElem?_set_self hiσ] at e2
    cases e2
    exact⟨u,r,.inr ⟨.inl hk,c,hc,hc'⟩⟩
   ·rw[List.getElem?_set_ne (Ne.symm hj)] at e2
    obtain⟨u',r',q⟩:=hl j y v' e1 e2 e3
    refine⟨u',r',?_⟩
    rcases q with q|⟨k,c',e,z'⟩
    ·exact .inl q
    ·refine .inr ⟨k,c',e,z'.sameBut hs ?_⟩
     rintro rfl
     exact hj (Zag hN e1 (I.ok.inj _ _ _ e hc▸hi))
  ·by_cases hcc:c'=c
   ·subst hcc;exact⟨_,hc'⟩
   ·obtain⟨w2,z2⟩:=I.cell y c' e
    exact⟨w2,z2.sameBut hs hcc⟩
  ·obtain⟨e,n,ne,nf,d⟩:=I.pin p hp
   refine⟨(hs.2 p.1 ?_).trans e,n,ne,nf,d⟩
   intro q
   rw[q,hoc] at e
   have q':oc=p.2:=Option.some.inj e
   exact d w' (by rw[<- q'];exact hocd)
theorem Z7y {M:Model}{A:Around}{E:Value->Shared->Prop}{i:Nat}{x:Str}{v:V}{u:Value}{Q:Unit->Shared->Prop}(I:Inv X pins σ H s)(hN:X.N.Nodup)(hi:X.N[i]? = some x)(hx:Loc X.env.scope x)(r:RelV v u)
  (h:∀s',Inv X pins (σ.set i (some v)) H s'->Q () s') (hf:X.fn x=true∨X.env.scope.names.lookup x=some .local:=by first|exact .inl rfl|exact .inr rfl|assumption):wpAny M A (storeName X.env x u) Q E s:=
 Z8o I hN hi hx r (fun s' I' _=>h s' I') hf
theorem Inv.call' {s':Shared}{ch:List Addr}(I:Inv X pins σ H s)(ho:s'.os=s.os)(u:Un (frs X.stack) ch H H' s.heap s'.heap)(hok:HOk X.prog X.w H' s'.heap)(hg:AllBare s'.gens)
  (hch:∀b∈ch,(b∈X.ex∨X.s₀.heap.objs.size<=b)/\b≠X.env.locals/\(∀x c,X.env.cells.lookup x=some c->c≠b)/\∀p∈X.pn++pins,p.1≠b):Inv X pins σ H' s':=by
 obtain⟨h',g',d',t',o'⟩:=s'
 have e:o'=s.os:=ho
 subst e
 exact I.call (g':=g') (t':=t') (d':=d') u hok hg hch
end
abbrev XK:=Value->Option Addr->Hp->Prop
abbrev St:=List (Option V)
abbrev VK:=V->Hp->Prop
abbrev TE:=St->Hp->VK->Prop
abbrev TT:=St->Hp->(Bool->Hp->Prop)->Prop
abbrev TA:=St->Hp->(List V->Hp->Prop)->Prop
structure Ends where
 nx:St->Hp->Prop
 rt:VK
 bk:St->Hp->Prop:=fun _ _=>False
 ct:St->Hp->Prop:=fun _ _=>False
abbrev TS:=Ends->St->Hp->Prop
def EP (X:Cx)(pins:List (Addr×Obj))(σ:St)(Q:VK)(u:Value)(s':Shared):Prop:=∃v H',Inv X pins σ H' s'/\RelV v u/\Q v H'
def TP (X:Cx)(pins:List (Addr×Obj))(σ:St)(Q:Bool->Hp->Prop)(b:Bool)(s':Shared):Prop:=∃H',Inv X pins σ H' s'/\Q b H'
def AP (X:Cx)(pins:List (Addr×Obj))(σ:St)(Q:List V->Hp->Prop)(us:List Value)(s':Shared):Prop:=∃vs H',Inv X pins σ H' s'/\Vals vs us/\Q vs H'
def SP (X:Cx)(pins:List (Addr×Obj))(D:Ends)(f:Flow)(s':Shared):Prop:=
 match f with
 | .next=>∃ σ' H',Inv X pins σ' H' s'/\D.nx σ' H'
 | .brk=>∃ σ' H',Inv X pins σ' H' s'/\D.bk σ' H'
 | .cont=>∃ σ' H',Inv X pins σ' H' s'/\D.ct σ' H'
 | .ret u=>∃v σ' H',Inv X pins σ' H' s'/\RelV v u/\D.rt v H'
def PE (X:Cx)(e:Expr)(t:TE):Prop:=
 ∀(pins:List (Addr×Obj)) (s:Shared) (σ:St) (H:Hp) (Q:VK),Inv X pins σ H s->t σ H Q->wpAny (model X.prog X.w) X.A (eval e X.env) (EP X pins σ Q) X.xe s
def PT (X:Cx)(e:Expr)(t:TT):Prop:=
 ∀(pins:List (Addr×Obj)) (s:Shared) (σ:St) (H:Hp) (Q:Bool->Hp->Prop),Inv X pins σ H s->t σ H Q->wpAny (model X.prog X.w) X.A (isTrue e X.env (eval e X.env)) (TP X pins σ Q) X.xe s
def PW (X:Cx)(e:Expr)(t:TT):Prop:=
 ∀(whole:Sem Value) (pins:List (Addr×Obj)) (s:Shared) (σ:St) (H:Hp) (Q:Bool->Hp->Prop),Inv X pins σ H s->t σ H Q->wpAny (model X.prog X.w) X.A (isTrue e X.env whole) (TP X pins σ Q) X.xe s
theorem PW.pt {X:Cx}{e:Expr}{t:TT}(h:PW X e t):PT X e t:=h _
def PA (X:Cx)(es:List Expr)(t:TA):Prop:=
 ∀(pos:Pos) (pins:List (Addr×Obj)) (s:Shared) (σ:St) (H:Hp) (Q:List V->Hp->Prop),Inv X pins σ H s->t σ H Q->wpAny (model X.prog X.w) X.A (spliced (backTo pos (starEach es X.env))) (AP X pins σ Q) X.xe s
def PS (X:Cx)(st:Stmt)(t:TS):Prop:=
 ∀(pins:List (Addr×Obj)) (s:Shared) (σ:St) (H:Hp) (D:Ends),Inv X pins σ H s->t D σ H->wpAny (model X.prog X.w) X.A (exec st X.env) (SP X pins D) X.xe s
def PSs (X:Cx)(st:List Stmt)(t:TS):Prop:=
 ∀(pins:List (Addr×Obj)) (s:Shared) (σ:St) (H:Hp) (D:Ends),Inv X pins σ H s->t D σ H->wpAny (model X.prog X.w) X.A (execs st X.env) (SP X pins D) X.xe s
theorem thn {α : Type}{t:Sem α}{Q Q' : α -> Shared->Prop}{M:Model}{A:Around}{E:Value->Shared->Prop}{s:Shared}(h:wpAny M A t Q E s)(hQ:∀a s,Q a s->Q' a s):wpAny M A t Q' E s:=wpAny_mono h hQ fun _ _ x=>x
section
variable {X:Cx}
inductive tVar (i:Nat)(σ:St)(H:Hp)(Q:VK):Prop
 |mk (v:_) (_:σ[i]? = some (some v)) (_:Q v H):tVar i σ H Q
def tC (v:V):TE:=fun _ H Q=>Q v H
theorem Zjp {i:Nat}{x:Str}{pos:Pos}(hN:X.N[i]? = some x)(hv:Vis X.env.scope x)(hd:(x==("__debug__":Str))=false:=by decide)(hcd:(x==("__classdict__":Str))=false:=by decide):PE X (.Name x pos) (tVar i):=by
 intro pins s σ H Q I h
 obtain⟨v,e,h⟩:=h
 obtain⟨m,hn,hl⟩:=I.loc
 obtain⟨u,r,l⟩:=hl i x v hN e hv
 have fin:EP X pins σ Q u s:=⟨v,H,I,r,h⟩
 rcases l with ⟨hk,hm⟩|⟨hk,c,hc,hcell⟩
 ·exact wpAny_Name (wpAny_loadName_local I.ok.kind hk hn hm fin) hd
 ·rcases hk with hk|hk
  ·exact wpAny_Name (wpAny_loadName_cell I.ok.kind hk hc hcell fin) hd
  ·exact wpAny_Name (wpAny_loadName_free I.ok.kind hk hc hcell fin hcd) hd
theorem Z03 {i j pos}:PE X (.Constant (.int i) j pos) (tC (.int i)):=fun _ _ _ H _ I h=>wpAny_Constant_int ⟨.int i,H,I.tok _,⟨_,rfl⟩,h⟩
theorem Z5o {b j pos}:PE X (.Constant (.bool b) j pos) (tC (.bl b)):=fun _ _ _ H _ I h=>Constant_bool ⟨.bl b,H,I,rfl,h⟩
theorem Zjq {j pos}:PE X (.Constant .none j pos) (tC .non):=fun _ _ _ H _ I h=>Constant_none ⟨.non,H,I,rfl,h⟩
theorem Z09 {x j pos}:PE X (.Constant (.str x) j pos) (tC (.str x)):=fun _ _ _ H _ I h=>Calls.Constant_str ⟨.str x,H,I.tok _,⟨_,rfl⟩,h⟩
def Gl (X:Cx)(x:Str):Prop:=X.env.kindOf x=some .globalImplicit
theorem Zct {E:Value->Shared->Prop}{pins:List (Addr×Obj)}{s:Shared}{σ:St}{H:Hp}{x:Str}{u:Value}{pos:Pos}{Q:Value->Shared->Prop}(I:Inv X pins σ H s)(hg:Gl X x)(hm:X.mg x=some u)(h:Q u s)
  (hd:(x==("__debug__":Str))=false:=by decide):wpAny (model X.prog X.w) X.A (eval (.Name x pos) X.env) Q E s:=
 Calls.Name_function_global I.ok.kind hg (Calls.loadGlobal_global (by rw[I.ok.glob];exact I.mod.glob.keeps I.bk) hm h) hd
theorem Z76 {E:Value->Shared->Prop}{pins:List (Addr×Obj)}{s:Shared}{σ:St}{H:Hp}{x:Str}{u:Value}{pos:Pos}{Q:Value->Shared->Prop}(I:Inv X pins σ H s)(hg:Gl X x)(hm:X.mg x=none)(hv:bootBuiltins x=some u)(h:Q u s)
  (hn:x≠"__name__":=by decide) (hd:(x==("__debug__":Str))=false:=by decide):wpAny (model X.prog X.w) X.A (eval (.Name x pos) X.env) Q E s:=by
 obtain⟨mb,h1,h2⟩:=I.mod.blt
 exact Calls.Name_function_global I.ok.kind hg (Calls.loadGlobal_builtin (by rw[I.ok.glob];exact I.mod.glob.keeps I.bk) hm (by rw[I.ok.blt];exact h1.keeps I.bk) ((h2 x hn).trans hv) h) hd
theorem Z48 {x:Str}{v:V}{u:Value}{pos:Pos}(hg:Gl X x)(hm:X.mg x=some u)(r:RelV v u)(hd:(x==("__debug__":Str))=false:=by decide):PE X (.Name x pos) (tC v):=
 fun _ _ _ H _ I h=>Zct I hg hm ⟨v,H,I,r,h⟩ hd
theorem Z5v {x:Str}{v:V}{u:Value}{pos:Pos}(hg:Gl X x)(hm:X.mg x=none)(hv:bootBuiltins x=some u)(r:RelV v u)(hn:x≠"__name__":=by decide)(hd:(x==("__debug__":Str))=false:=by decide):PE X (.Name x pos) (tC v):=
 fun _ _ _ H _ I h=>Z76 I hg hm hv ⟨v,H,I,r,h⟩ hn hd
variable {a b:Expr}{ta tb:TE}{pos:Pos}
def PC (X:Cx)(op:CmpOp)(a b:Expr)(t:TE):Prop:=
 ∀(pins:List (Addr×Obj)) (s:Shared) (σ:St) (H:Hp) (Q:VK),Inv X pins σ H s->t σ H Q →
  wpAny (model X.prog X.w) X.A (eval a X.env) (fun v s₁=>wpAny (model X.prog X.w) X.A (eval b X.env) (fun u s₂=>wpAny (model X.prog X.w) X.A (compareOp op v u) (EP X pins σ Q) X.xe s₂) X.xe s₁) X.xe s
def tB (t:TE):TT:=fun σ H Q=>t σ H fun x H1=>∃c,x = .bl c/\Q c H1
theorem Zjr {op:CmpOp}{t:TE}(h:PC X op a b t)(h1:behindInMarks op b=false:=by first|exact nobehind _ (by decide) (by decide)|rfl):PT X (.Compare a [op] [b] pos) (tB t):=by
 intro pins s σ H Q I hw
 refine wpAny_isTrue_Compare1 (thn (h pins s σ H _ I hw) fun v s1 h1=>thn h1 fun u s2 h2=>thn h2 fun c s3 ⟨x,H1,I1,r1,q1⟩=>?_) h1
 obtain⟨d,rfl,q⟩:=q1
 cases r1
 exact wpAny_truthy_bool ⟨H1,I1,q⟩
theorem Z5f {e:Expr}{t:TE}(h:PE X e t)(he:∀whole,isTrue e X.env whole=(do let v ← whole;standAt e.pos;holding [v] (truthy v)):=by intro _;rfl):PT X e (tB t):=by
 intro pins s σ H Q I hw
 refine isTrue_plain (thn (h pins s σ H _ I hw) fun v s1 ⟨x,H1,I1,r1,q1⟩=>?_) (he _)
 obtain⟨d,rfl,q⟩:=q1
 cases r1
 exact wpAny_truthy_bool ⟨H1,I1,q⟩
variable {tA tB':TT}{rest:List Expr}
def Zn6 (t u:TT):TT:=fun σ H Q=>t σ H fun c H1=>if c=true then u σ H1 Q else Q false H1
def tOr (t u:TT):TT:=fun σ H Q=>t σ H fun c H1=>if c=true then Q true H1 else u σ H1 Q
def Zn7 (t:TT):TT:=fun σ H Q=>t σ H fun c H1=>Q (!c) H1
theorem Z3j (ha:PT X a tA):PW X (.BoolOp .And [a] pos) tA:=by
 intro wh pins s σ H Q I h
 refine isTrue_and (thn (ha pins s σ H Q I h) fun c s1 e=>?_)
 cases c with
 |true=>exact isTrue_and_nil e
 |false=>exact e
theorem Z5g (ha:PT X a tA):PW X (.BoolOp .Or [a] pos) tA:=by
 intro wh pins s σ H Q I h
 refine isTrue_or (thn (ha pins s σ H Q I h) fun c s1 e=>?_)
 cases c with
 |false=>exact isTrue_or_nil e
 |true=>exact e
theorem Z5h (ha:PT X a tA)(hb:PW X (.BoolOp .And (b::rest) pos) tB'):PW X (.BoolOp .And (a::b::rest) pos) (Zn6 tA tB'):=by
 intro wh pins s σ H Q I h
 refine isTrue_and (thn (ha pins s σ H _ I h) fun c s1 ⟨H1,I1,q1⟩=>?_)
 cases c with
 |true=>exact hb wh pins s1 σ H1 Q I1 q1
 |false=>exact⟨H1,I1,q1⟩
theorem Z5w (ha:PT X a tA)(hb:PW X (.BoolOp .Or (b::rest) pos) tB'):PW X (.BoolOp .Or (a::b::rest) pos) (tOr tA tB'):=by
 intro wh pins s σ H Q I h
 refine isTrue_or (thn (ha pins s σ H _ I h) fun c s1 ⟨H1,I1,q1⟩=>?_)
 cases c with
 |true=>exact⟨H1,I1,q1⟩
 |false=>exact hb wh pins s1 σ H1 Q I1 q1
theorem Z8p (ha:PT X a tA):PT X (.UnaryOp .Not a pos) (Zn7 tA):=by
 intro pins s σ H Q I h
 exact isTrue_not (ha pins s σ H (fun c H1=>Q (!c) H1) I h)
def Zlm (ta tb:TE):TE:=fun σ H Q=>ta σ H fun x H1=>∃c,x = .bl c/\if c=true then tb σ H1 Q else Q (.bl false) H1
theorem Zjs {op}{t:TE}(h:PE X a t):PE X (.BoolOp op [a] pos) t:=fun pins s σ H Q I hw=>BoolOp_one (h pins s σ H Q I hw)
theorem Zjt (ha:PE X a ta)(hb:PE X (.BoolOp .And (b::rest) pos) tb):PE X (.BoolOp .And (a::b::rest) pos) (Zlm ta tb):=by
 intro pins s σ H Q I h
 refine BoolOp_and (thn (ha pins s σ H _ I h) fun v s1 ⟨x,H1,I1,r1,q1⟩=>?_)
 obtain⟨c,rfl,q1⟩:=q1
 cases r1
 refine wpAny_truthy_bool ?_
 cases c with
 |true=>exact hb pins s1 σ H1 Q I1 q1
 |false=>exact⟨.bl false,H1,I1,rfl,q1⟩
end
def SqL (K:PySem.W.Frag)(H:Hp)(a:Addr)(xs:List V):Prop:=
 Rd H a (.lst xs) ∨
  ∃(o:Obj) (its:Array Value) (n:Nat),K.lookup a=some o/\o.cls = .type "list"/\o.dict=none/\o.data = .seq its n/\its.size<=sizeLine/\Vals xs its.toList
def SqT (K:PySem.W.Frag)(H:Hp)(a:Addr)(xs:List V):Prop:=
 Rd H a (.tup xs) ∨
  ∃(o:Obj) (its:Array Value) (n:Nat),K.lookup a=some o/\o.cls = .type "tuple"/\o.data = .seq its n/\its.size<=sizeLine/\Vals xs its.toList
def Zn8:Value->Option V
 | .none=>some .non
 | .bool b=>some (.bl b)
 | .int i _=>some (.int i)
 | .str x _=>some (.str x)
 | .bytes b _=>some (.byt b)
 | .float b _=>some (.flt b)
 | .ref a=>some (.ref a)
 | .type n=>some (.ty n)
 |_=>none
theorem RelV.abs {x:V}{u:Value}(r:RelV x u):Zn8 u=some x:=by
 cases x with
 |non=>cases r;rfl
 |bl _=>cases r;rfl
 |int _=>obtain⟨t,rfl⟩:=r;rfl
 |str _=>obtain⟨t,rfl⟩:=r;rfl
 |byt _=>obtain⟨t,rfl⟩:=r;rfl
 |flt _=>obtain⟨t,rfl⟩:=r;rfl
 |ref _=>cases r;rfl
 |ty _=>cases r;rfl
theorem RelV.inj {x y:V}{u:Value}(r:RelV x u)(q:RelV y u):x=y:=Option.some.inj (r.abs.symm.trans q.abs)
theorem Vals.inj:∀{xs ys:List V} {us:List Value},Vals xs us->Vals ys us->xs=ys
 |_,_,_,.nil,.nil=>rfl
 |_,_,_,.cons r t,.cons r' t'=>by rw[r.inj r',Vals.inj t t']
section
variable {X:Cx}{pins:List (Addr×Obj)}{σ:St}{H:Hp}{s:Shared}{a:Addr}{xs ys:List V}
theorem SqL.of {K:PySem.W.Frag}(h:H a=some (.lst xs)):SqL K H a xs:=.inl (.inl h)
theorem SqT.of {K:PySem.W.Frag}(h:H a=some (.tup xs)):SqT K H a xs:=.inl (.inl h)
theorem Inv.list (I:Inv X pins σ H s)(h:SqL X.K H a xs):∃its:List Value,Vals xs its/\PlainL s.heap a its.toArray/\xs.length<=sizeLine:=by
 rcases h with h|⟨o,its,n,hk,hc,hd,hs,hz,r⟩
 ·obtain⟨z,its,n,r,e⟩:=h.ok I.hok
  exact⟨its,r,⟨_,n,e,rfl,rfl,rfl⟩,z⟩
 ·refine⟨its.toList,r,⟨o,n,I.kIn a o hk,hc,hd,by simpa using hs⟩,?_⟩
  have e:=r.length
  simp only [Array.length_toList] at e
  omega
theorem Inv.tuple (I:Inv X pins σ H s)(h:SqT X.K H a xs):∃its:List Value,Vals xs its/\IsTup s.heap a its.toArray/\xs.length<=sizeLine:=by
 rcases h with h|⟨o,its,n,hk,hc,hs,hz,r⟩
 ·obtain⟨z,its,r,p⟩:=h.ok I.hok
  exact⟨its,r,p,z⟩
 ·refine⟨its.toList,r,⟨o,I.kIn a o hk,hc,n,by simpa using hs⟩,?_⟩
  have e:=r.length
  simp only [Array.length_toList] at e
  omega
theorem Inv.list_inj (I:Inv X pins σ H s)(h:SqL X.K H a xs)(h':SqL X.K H a ys):xs=ys:=by
 obtain⟨its,r,⟨o,n,e,_,_,d⟩,_⟩:=I.list h
 obtain⟨its',r',⟨o',n',e',_,_,d'⟩,_⟩:=I.list h'
 rw[e] at e';cases e'
 rw[d] at d'
 injection d' with d1 _
 have:its=its':=by simpa using congrArg Array.toList d1
 subst this
 exact r.inj r'
theorem Inv.tuple_inj (I:Inv X pins σ H s)(h:SqT X.K H a xs)(h':SqT X.K H a ys):xs=ys:=by
 obtain⟨its,r,⟨o,e,_,n,d⟩,_⟩:=I.tuple h
 obtain⟨its',r',⟨o',e',_,n',d'⟩,_⟩:=I.tuple h'
 rw[e] at e';cases e'
 rw[d] at d'
 injection d' with d1 _
 have:its=its':=by simpa using congrArg Array.toList d1
 subst this
 exact r.inj r'
end
abbrev Cx.wish (X:Cx)(E:Value->Shared->Prop):Cx:={ X with xe:=E }
abbrev Cx.nox (X:Cx):Cx:=X.wish fun _ _=>False
theorem Cx.Ok.wish {X:Cx}(ok:X.Ok)(E:Value->Shared->Prop):(X.wish E).Ok:=
 ⟨ok.mod,ok.kind,ok.glob,ok.blt,ok.above,ok.inj,ok.has,ok.cab,ok.hd,ok.frames,ok.stk,ok.exf,ok.bs,ok.bsz,ok.noex,ok.exfs,ok.funs,ok.frf⟩
theorem Cx.Ok.unwish {X:Cx}{E:Value->Shared->Prop}(ok:(X.wish E).Ok):X.Ok:=
 ⟨ok.mod,ok.kind,ok.glob,ok.blt,ok.above,ok.inj,ok.has,ok.cab,ok.hd,ok.frames,ok.stk,ok.exf,ok.bs,ok.bsz,ok.noex,ok.exfs,ok.funs,ok.frf⟩
section
variable {X:Cx}{pins:List (Addr×Obj)}{σ:St}{H:Hp}{s:Shared}{E:Value->Shared->Prop}
theorem Inv.wish (I:Inv X pins σ H s)(E:Value->Shared->Prop):Inv (X.wish E) pins σ H s:=⟨I.ok.wish E,I.os,I.bare,I.base,I.loc,I.cell,I.free,I.freeC,I.pin,I.hok,I.len⟩
theorem Inv.unwish (I:Inv (X.wish E) pins σ H s):Inv X pins σ H s:=⟨I.ok.unwish,I.os,I.bare,I.base,I.loc,I.cell,I.free,I.freeC,I.pin,I.hok,I.len⟩
theorem SP.unwish {D:Ends}{f:Flow}{s':Shared}(h:SP (X.wish E) pins D f s'):SP X pins D f s':=by
 cases f with
 |next=>obtain⟨σ',H',I,q⟩:=h;exact⟨σ',H',I.unwish,q⟩
 |brk=>obtain⟨σ',H',I,q⟩:=h;exact⟨σ',H',I.unwish,q⟩
 |cont=>obtain⟨σ',H',I,q⟩:=h;exact⟨σ',H',I.unwish,q⟩
 |ret u=>obtain⟨v,σ',H',I,r,q⟩:=h;exact⟨v,σ',H',I.unwish,r,q⟩
theorem PSs.nox {st:List Stmt}{t:TS}(h:PSs X.nox st t):PSs X st t:=fun pins s σ H D I hw=>
 wpAny_mono (h pins s σ H D (I.wish _) hw) (fun _ _ q=>q.unwish) fun _ _ z=>False.elim z
end
section
variable {X:Cx}{st:Stmt}{rest:List Stmt}{t u:TS}{e:Expr}{te:TE}{pos:Pos}
def tNext:TS:=fun D σ H=>D.nx σ H
def Zn9 (t u:TS):TS:=fun D σ H=>t { D with nx:=u D } σ H
theorem Z0f:PSs X [] tNext:=fun _ _ σ H _ I h=>wpAny_execs_nil ⟨σ,H,I,h⟩
theorem Z04 (h1:PS X st t)(h2:PSs X rest u):PSs X (st::rest) (Zn9 t u):=by
 intro pins s σ H D I h
 refine wpAny_execs_cons (thn (h1 pins s σ H { D with nx:=u D } I h) fun f s1 q=>?_)
 cases f with
 |next=>
  obtain⟨σ',H',I',q⟩:=q
  exact h2 pins s1 σ' H' D I' q
 |ret v=>exact q
 |brk=>exact q
 |cont=>exact q
theorem Z07 (h1:PS X st t):PSs X [st] t:=by
 intro pins s σ H D I h
 refine wpAny_execs_cons (thn (h1 pins s σ H D I h) fun f s1 q=>?_)
 cases f with
 |next=>exact wpAny_execs_nil q
 |ret v=>exact q
 |brk=>exact q
 |cont=>exact q
theorem Inv.quiet {pins:List (Addr×Obj)}{σ:St}{H:Hp}{s:Shared}(I:Inv X pins σ H s):interactive X.env=false:=by simp [interactive,I.ok.kind]
def Zln (te:TE):TS:=fun D σ H=>te σ H fun _ H1=>D.nx σ H1
theorem Z3k (he:PE X e te)(hs:swapsWith e none pos.line X.env=pure false:=by rfl):PS X (.Expr e pos) (Zln te):=by
 intro pins s σ H D I h
 exact wpAny_Expr_any (thn (he pins s σ H _ I h) fun v s1 ⟨x,H1,I1,r1,q1⟩=>⟨σ,H1,I1,q1⟩) I.quiet hs
def Zna (te:TE):TS:=fun D σ H=>te σ H D.rt
theorem Z0h (he:PE X e te):PS X (.Return (some e) pos) (Zna te):=by
 intro pins s σ H D I h
 exact wpAny_Return_some (thn (he pins s σ H _ I h) fun v s1 ⟨x,H1,I1,r1,q1⟩=>⟨x,σ,H1,I1,r1,q1⟩)
def Znb (c:TT)(t u:TS):TS:=fun D σ H=>c σ H fun b H1=>if b=true then t D σ H1 else u D σ H1
theorem Z0x {c:Expr}{a b:List Stmt}{tc:TT}(hc:PT X c tc)(ha:PSs X a t)(hb:PSs X b u):PS X (.If c a b pos) (Znb tc t u):=by
 intro pins s σ H D I h
 refine wpAny_If (thn (hc pins s σ H _ I h) fun d s1 ⟨H1,I1,q1⟩=>?_)
 cases d with
 |true=>exact ha pins s1 σ H1 D I1 q1
 |false=>exact hb pins s1 σ H1 D I1 q1
end
abbrev TG:=V->St->Hp->(St->Hp->Prop)->Prop
abbrev TGs:=List V->St->Hp->(St->Hp->Prop)->Prop
def PG (X:Cx)(target:Expr)(t:TG):Prop:=
 ∀(pins:List (Addr×Obj)) (s:Shared) (σ:St) (H:Hp) (v:V) (u:Value) (Q:St->Hp->Prop),Inv X pins σ H s->RelV v u->t v σ H Q →
  wpAny (model X.prog X.w) X.A (assign target X.env u) (fun _ s'=>∃ σ' H',Inv X pins σ' H' s'/\Q σ' H') X.xe s
def PGs (X:Cx)(ts:List Expr)(t:TGs):Prop:=
 ∀(pins:List (Addr×Obj)) (s:Shared) (σ:St) (H:Hp) (vs:List V) (us:List Value) (Q:St->Hp->Prop),Inv X pins σ H s->Vals vs us->t vs σ H Q →
  wpAny (model X.prog X.w) X.A (assignInOrder ((assignEach ts X.env).map (·.2)) us) (fun _ s'=>∃ σ' H',Inv X pins σ' H' s'/\Q σ' H') X.xe s
abbrev TSet:=V->V->V->Hp->(Hp->Prop)->Prop
def Zmu (X:Cx)(t:TSet):Prop:=
 ∀(pins:List (Addr×Obj)) (s:Shared) (σ:St) (H:Hp) (o i v:V) (ov iv u:Value) (Q:Hp->Prop),Inv X pins σ H s->RelV o ov->RelV i iv->RelV v u->t o i v H Q →
  wpAny (model X.prog X.w) X.A (setItem ov iv u) (fun _ s'=>∃H',Inv X pins σ H' s'/\Q H') X.xe s
abbrev TIp:=V->V->Hp->VK->Prop
def PIp (X:Cx)(op:Operator)(t:TIp):Prop:=
 ∀(pins:List (Addr×Obj)) (s:Shared) (σ:St) (H:Hp) (x y:V) (v u:Value) (Q:VK),Inv X pins σ H s->RelV x v->RelV y u->t x y H Q →
  wpAny (model X.prog X.w) X.A (inplaceOp op v u) (EP X pins σ Q) X.xe s
section
variable {X:Cx}{pos:Pos}
def Zbn (i:Nat):TG:=fun v σ H Q=>Q (σ.set i (some v)) H
theorem Z0s {i:Nat}{x:Str}(hN:X.N.Nodup)(hi:X.N[i]? = some x)(hx:Loc X.env.scope x)(hf:X.fn x=true∨X.env.scope.names.lookup x=some .local:=by first|exact .inl rfl|exact .inr rfl|assumption):PG X (.Name x pos) (Zbn i):=by
 intro pins s σ H v u Q I r h
 exact wpAny_assign_Name (Z7y I hN hi hx r (fun s' I'=>⟨_,H,I',h⟩) hf)
def gNil:TGs:=fun vs σ H Q=>vs = []/\Q σ H
def Zhz (t:TG)(u:TGs):TGs:=fun vs σ H Q=>∃v r,vs=v::r/\t v σ H fun σ' H'=>u r σ' H' Q
theorem Z49:PGs X [] gNil:=by
 intro pins s σ H vs us Q I r h
 obtain⟨e,h⟩:=h
 subst e
 cases r
 exact assignInOrder_nil ⟨σ,H,I,h⟩
theorem Z1j {e:Expr}{es:List Expr}{t:TG}{u:TGs}(h1:PG X e t)(h2:PGs X es u)
  (hs:(assignEach (e::es) X.env).map (·.2)=assign e X.env::(assignEach es X.env).map (·.2):=by rfl):PGs X (e::es) (Zhz t u):=by
 intro pins s σ H vs us Q I r h
 obtain⟨v,vr,e1,h⟩:=h
 subst e1
 cases r with
 |cons r rr=>
  rw[hs]
  refine assignInOrder_cons (thn (h1 pins s σ H _ _ _ I r h) fun _ s1 ⟨σ1,H1,I1,q1⟩=>?_)
  exact h2 pins s1 σ1 H1 _ _ Q I1 rr q1
inductive gTup (K:PySem.W.Frag)(n:Nat)(t:TGs)(v:V)(σ:St)(H:Hp)(Q:(St->Hp->Prop)):Prop
 |mk (a xs:_) (_:v = .ref a) (_:SqT K H a xs) (_:xs.length=n) (_:t xs σ H Q):gTup K n t v σ H Q
theorem Z5x {es:List Expr}{k:Nat}{t:TGs}{n:Nat}(hc:X.calm=true)(h:PGs X es t)
  (hn:(assignEach es X.env).length=n:=by rfl) (hst:(assignEach es X.env).findIdx? (·.1)=none:=by rfl):PG X (.Tuple es k pos) (gTup X.K n t):=by
 intro pins s σ H v u Q I r hw
 obtain⟨a,xs,e1,hq,hl,hw⟩:=hw
 subst e1
 cases r
 obtain⟨its,rv,ht,hz⟩:=I.tuple hq
 refine assign_Tuple_tuple (I.ok.hd hc) ht (by simp [hn,<- hl,rv.length]) hst fun h' hx=>?_
 have I1:Inv X pins σ H { s with heap:=h' }:=I.kept (t':=s.toks) fun b o e=>hx b o (Nat.ne_of_lt (Heap.lt_size e)) e
 exact h pins _ σ H xs _ Q I1 (by simpa using rv) hw
def Znc (to ti:TE)(t:TSet):TG:=fun v σ H Q=>to σ H fun o H1=>ti σ H1 fun i H2=>t o i v H2 fun H3=>Q σ H3
theorem Zju {o i:Expr}{to ti:TE}{t:TSet}(ho:PE X o to)(hi:PE X i ti)(hs:Zmu X t)
  (ha:∀v,assign (.Subscript o i pos) X.env v=(do
   let ov ← holding [v] (eval o X.env)
   let iv ← holding [v,ov] (eval i X.env)
   standAt pos
   holding [v,ov,iv] (setItem ov iv v)
   release [v,ov,iv] []):=by intro _;rfl):PG X (.Subscript o i pos) (Znc to ti t):=by
 intro pins s σ H v u Q I r h
 rw[ha]
 refine wpAny_bind (wpAny_holding (thn (ho pins s σ H _ I h) fun ov s1 ⟨x,H1,I1,r1,q1⟩=>?_))
 refine wpAny_bind (wpAny_holding (thn (hi pins s1 σ H1 _ I1 q1) fun iv s2 ⟨y,H2,I2,r2,q2⟩=>?_))
 refine wpAny_bind (wpAny_standAt (wpAny_bind (wpAny_holding (thn (hs pins s2 σ H2 x y v ov iv u _ I2 r1 r2 r q2) fun _ s3 ⟨H3,I3,q3⟩=>?_))))
 exact wpAny_release ⟨σ,H3,I3,q3⟩
def Zlg (te:TE)(g:TG):TS:=fun D σ H=>te σ H fun x H1=>g x σ H1 D.nx
theorem Zah {tg e:Expr}{te:TE}{g:TG}(he:PE X e te)(hg:PG X tg g)(hs:swapsWithSole [tg] e pos.line X.env=pure false:=by rfl)(hw:swappedStores [tg] e X.env=pure none:=by rfl)
  (h1:(assignEach [tg] X.env).map (·.2) = [assign tg X.env]:=by rfl):PS X (.Assign [tg] e pos) (Zlg te g):=by
 intro pins s σ H D I h
 refine wpAny_Assign_stores (thn (he pins s σ H _ I h) fun v s1 ⟨x,H1,I1,r1,q1⟩=>?_) hs hw
 rw[h1]
 exact thn (hg pins s1 σ H1 x v _ I1 r1 q1) fun _ s2 q=>q
theorem Z0c {i:Nat}{x:Str}{e:Expr}{te:TE}{pos':Pos}(hN:X.N.Nodup)(hi:X.N[i]? = some x)(hx:Loc X.env.scope x)(he:PE X e te)(hs:swapsWith e (some (.Name x pos')) pos.line X.env=pure false:=by rfl)(hf:X.fn x=true∨X.env.scope.names.lookup x=some .local:=by first|exact .inl rfl|exact .inr rfl|assumption):
  PS X (.Assign [.Name x pos'] e pos) (Zlg te (Zbn i)):=by
 intro pins s σ H D I h
 refine wpAny_Assign_Name (thn (he pins s σ H _ I h) fun v s1 ⟨y,H1,I1,r1,q1⟩=>?_) hs
 exact Z7y I1 hN hi hx r1 (fun s2 I2=>⟨_,H1,I2,q1⟩) hf
def Znd (i:Nat)(te:TE)(ti:TIp):TS:=fun D σ H=>∃x,σ[i]? = some (some x)/\te σ H fun y H1=>ti x y H1 fun z H2=>D.nx (σ.set i (some z)) H2
theorem Zh8 {i:Nat}{x:Str}{e:Expr}{te:TE}{op:Operator}{ti:TIp}{pos':Pos}(hN:X.N.Nodup)(hi:X.N[i]? = some x)(hx:Loc X.env.scope x)(he:PE X e te)(ho:PIp X op ti)(hf:X.fn x=true∨X.env.scope.names.lookup x=some .local:=by first|exact .inl rfl|exact .inr rfl|assumption):
  PS X (.AugAssign (.Name x pos') op e pos) (Znd i te ti):=by
 intro pins s σ H D I h
 obtain⟨v,e1,h⟩:=h
 obtain⟨m,hn,hl⟩:=I.loc
 have vis:Vis X.env.scope x:=by rcases hx with k|k;exact .inl k;exact .inr (.inl k)
 obtain⟨u,r,l⟩:=hl i x v hi e1 vis
 refine wpAny_AugAssign_Name ?_
 have go:wpAny (model X.prog X.w) X.A (eval e X.env) (fun w s₂=>wpAny (model X.prog X.w) X.A (inplaceOp op u w) (fun r s₃=>wpAny (model X.prog X.w) X.A (storeName X.env x r) (fun _=>SP X pins D .next) X.xe s₃) X.xe s₂) X.xe s:=by
  refine thn (he pins s σ H _ I h) fun w s1 ⟨y,H1,I1,r1,q1⟩=>?_
  refine thn (ho pins s1 σ H1 v y u w _ I1 r r1 q1) fun z s2 ⟨zv,H2,I2,r2,q2⟩=>?_
  exact Z7y I2 hN hi hx r2 (fun s3 I3=>⟨_,H2,I3,q2⟩) hf
 rcases l with ⟨hk,hm⟩|⟨hk,c,hc,hcell⟩
 ·exact wpAny_loadName_local I.ok.kind hk hn hm go
 ·rcases hk with hk|hk
  ·exact wpAny_loadName_cell I.ok.kind hk hc hcell go
  ·rcases hx with k|k
   ·have:X.env.scope.names.lookup x=some .free:=hk
    rw[k] at this;cases this
   ·have:X.env.scope.names.lookup x=some .free:=hk
    rw[k] at this;cases this
def ipI (f:Int->Int->Int):TIp:=fun x y H Q=>∃i j,x = .int i/\y = .int j/\Q (.int (f i j)) H
theorem Zjv:PIp X .Add (ipI fun i j=>i+j):=by
 intro pins s σ H x y v u Q I r1 r2 h
 obtain⟨i,j,e1,e2,q⟩:=h
 subst e1;subst e2
 obtain⟨t,rfl⟩:=r1
 obtain⟨t',rfl⟩:=r2
 exact iadd_int ⟨.int _,H,I.tok _,⟨_,rfl⟩,q⟩
theorem Zjw:PIp X .Sub (ipI fun i j=>i-j):=by
 intro pins s σ H x y v u Q I r1 r2 h
 obtain⟨i,j,e1,e2,q⟩:=h
 subst e1;subst e2
 obtain⟨t,rfl⟩:=r1
 obtain⟨t',rfl⟩:=r2
 exact isub_int ⟨.int _,H,I.tok _,⟨_,rfl⟩,q⟩
end
section
variable {X:Cx}{pos:Pos}
inductive tWhile (c:TT)(tb:TS)(D:Ends)(σ:St)(H:Hp):Prop
 |mk (W:Nat->St->Hp->Prop) (_:(∃m,W m σ H)) (_:∀m σ H,W m σ H->c σ H fun b H1=>if b=true then ∃N:St->Hp->Prop,(∀ σ' H',N σ' H'->∃m',m'<m/\W m' σ' H')/\tb { D with nx:=N,ct:=N,bk:=D.nx } σ H1 else D.nx σ H1):tWhile c tb D σ H
theorem Zai {c:Expr}{body:List Stmt}{tc:TT}{tb:TS}(hp:PassesOwn (model X.prog X.w) X.A X.env X.xe)(hc:PT X c tc)(hb:PSs X body tb):PS X (.While c body [] pos) (tWhile tc tb):=by
 intro pins s σ H D I h
 obtain⟨W,⟨m0,w0⟩,turn⟩:=h
 refine wpAny_While (codeAny_whileLoop (fun n s'=>∃ σ' H',Inv X pins σ' H' s'/\W n σ' H') ?_ m0 ⟨σ,H,I,w0⟩)
 rintro n s1 ⟨σ1,H1,I1,w1⟩
 refine wpAny_passesOwn hp (thn (hc pins s1 σ1 H1 _ I1 (turn n σ1 H1 w1)) fun b s2 ⟨H2,I2,q2⟩=>?_)
 cases b with
 |true=>
  obtain⟨N,hN,q2⟩:=q2
  rw[if_pos rfl]
  refine wpAny_passesOwn hp (thn (hb pins s2 σ1 H2 _ I2 q2) fun f s3 q3=>?_)
  cases f with
  |next=>
   obtain⟨σ3,H3,I3,n3⟩:=q3
   obtain⟨m',hm,w3⟩:=hN σ3 H3 n3
   exact⟨m',hm,σ3,H3,I3,w3⟩
  |cont=>
   obtain⟨σ3,H3,I3,n3⟩:=q3
   obtain⟨m',hm,w3⟩:=hN σ3 H3 n3
   exact⟨m',hm,σ3,H3,I3,w3⟩
  |brk=>exact q3
  |ret v=>exact q3
 |false=>
  rw[if_neg Bool.false_ne_true]
  exact wpAny_execs_nil ⟨σ1,H2,I2,q2⟩
end
structure It where
 go:Nat->Hp->Prop
 yld:Nat->Hp->V->Hp->Prop
 stop:Nat->Hp->Prop
def Z5y (X:Cx)(pins:List (Addr×Obj))(H:Hp)(b:Addr):Prop:=
 H b=none/\b≠X.env.locals/\b∉X.fs/\(b∈X.ex∨X.s₀.heap.objs.size<=b)/\(∀x c,X.env.cells.lookup x=some c->c≠b)/\∀p∈X.pn++pins,p.1≠b
theorem Inv.fpOk {X:Cx}{pins:List (Addr×Obj)}{σ:St}{H H':Hp}{s:Shared}{b:Addr}(I:Inv X pins σ H s)(hb:s.heap.objs.size<=b)(hn:H' b=none):Z5y X pins H' b:=by
 refine⟨hn,Nat.ne_of_gt (Nat.lt_of_lt_of_le I.lt hb),I.nofs hb,.inr (Nat.le_trans I.sz hb),fun x c e z=>?_,fun p hp z=>?_⟩
 ·obtain⟨v,q⟩:=I.cell x c e
  exact absurd (Nat.lt_of_lt_of_le q.lt (by rw[z];exact hb)) (Nat.lt_irrefl _)
 ·exact absurd (Nat.lt_of_lt_of_le (Heap.lt_size (I.pin p hp).1) (by rw[z];exact hb)) (Nat.lt_irrefl _)
structure Turn (P:Program)(w:World)(K:PySem.W.Frag)(tg:Expr)(J:It)(fp:List Addr)(it:Addr)(tn:Nat->Heap->Prop):Prop where
 mem:it∈fp
 obj:∀i h,tn i h->∀b∈fp,∃o,h.get? b=some o/\∀v,o.data ≠ .cell v
 keep:∀i h h',tn i h->(∀b∈fp,∀o,h.get? b=some o->h'.get? b=some o)->tn i h'
 item:∀(X:Cx),X.prog=P->X.w=w->X.K=K->X.calm=true->∀(i:Nat) (pins:List (Addr×Obj)) (s:Shared) (σ:St) (H:Hp) (E:Value->Shared->Prop),Inv X pins σ H s->(∀b∈fp,Z5y X pins H b)->tn i s.heap->J.go i H →
  wpAny (model P w) X.A (pyNext (.ref it)) (fun r s1=>∃u,r=some u ∧
   wpAny (model P w) X.A (letOwnedTupleGo tg (.ref it) u) (fun _ s2=>∃x H',Inv X pins σ H' s2/\RelV x u/\J.yld i H x H'/\tn (i+1) s2.heap/\∀b∈fp,H' b=none) E s1) E s
 done:∀(X:Cx),X.prog=P->X.w=w->X.K=K->X.calm=true->∀(i:Nat) (pins:List (Addr×Obj)) (s:Shared) (σ:St) (H:Hp) (E:Value->Shared->Prop),Inv X pins σ H s->(∀b∈fp,Z5y X pins H b)->tn i s.heap->J.stop i H →
  wpAny (model P w) X.A (pyNext (.ref it)) (fun r s1=>r=none/\Inv X pins σ H s1) E s
 self:∀(A:Around) (i:Nat) (s:Shared) (Q:Value->Shared->Prop) (E:Value->Shared->Prop),tn i s.heap->Q (.ref it) s->wpAny (model P w) A (pyIter (.ref it)) Q E s
abbrev TI:=St->Hp->(It->Hp->Prop)->Prop
def PIE (X:Cx)(pins:List (Addr×Obj))(σ:St)(tg:Expr)(R:It->Hp->Prop)(itv:Value)(s2:Shared):Prop:=
 ∃(it:Addr) (fp:List Addr) (tn:Nat->Heap->Prop) (J:It) (H':Hp),itv = .ref it/\Inv X pins σ H' s2/\Turn X.prog X.w X.K tg J fp it tn/\tn 0 s2.heap/\(∀b∈fp,Z5y X pins H' b)/\R J H'
def PI (X:Cx)(tg iter:Expr)(wi:TI):Prop:=
 ∀(pins:List (Addr×Obj)) (s:Shared) (σ:St) (H:Hp) (R:It->Hp->Prop),Inv X pins σ H s->wi σ H R →
  wpAny (model X.prog X.w) X.A (eval iter X.env) (fun v s1=>wpAny (model X.prog X.w) X.A (pyIter v) (PIE X pins σ tg R) X.xe s1) X.xe s
theorem Zfd {M:Model}{A:Around}{E:Value->Shared->Prop}{s:Shared}{tg:Expr}{it:Addr}{u:Value}{o:Obj}{n:String}{vs:Array Value}{Q:Unit->Shared->Prop}(ho:s.heap.get? it=some o)(hc:o.cls = .type n)(hd:o.data = .fields vs)
  (hn : ["enumerate","zip","dict_itemiterator","dict_reverseitemiterator","odict_iterator","itertools.zip_longest","itertools.pairwise"].contains n=false) (hQ:Q () s):wpAny M A (letOwnedTupleGo tg (.ref it) u) Q E s:=by
 unfold letOwnedTupleGo
 cases tg <;> first
  |exact wpAny_pure hQ
  | (cases u <;> first
    |exact wpAny_pure hQ
    | (refine wpAny_bind (wpAny_load ho ?_)
       rw[hc,hd]
       show wpAny M A (if (["enumerate","zip","dict_itemiterator","dict_reverseitemiterator","odict_iterator","itertools.zip_longest","itertools.pairwise"].contains n&&vs[0]? == some (rawInt _))=true then _ else _) Q E s
       rw[if_neg (by intro h;rw[hn,Bool.false_and] at h;cases h)]
       exact wpAny_pure hQ))
def Itl (K:PySem.W.Frag)(a:Addr):It:=
 ⟨fun i H=>∃xs x,SqL K H a xs/\xs[i]? = some x,fun i H x H'=>H'=H/\∀xs,SqL K H a xs->xs[i]? = some x,fun i H=>∃xs,SqL K H a xs/\xs.length<=i⟩
def Itt (K:PySem.W.Frag)(a:Addr):It:=
 ⟨fun i H=>∃xs x,SqT K H a xs/\xs[i]? = some x,fun i H x H'=>H'=H/\∀xs,SqT K H a xs->xs[i]? = some x,fun i H=>∃xs,SqT K H a xs/\xs.length<=i⟩
def Itr (lo:Int)(n:Nat):It:=⟨fun i _=>i<n,fun i H x H'=>H'=H/\x = .int (lo+i),fun i _=>n<=i⟩
theorem Zcu {P:Program}{w:World}{K:PySem.W.Frag}{tg:Expr}(a it:Addr):Turn P w K tg (Itl K a) [it] it (fun i h=>h.IsListIter it a i) where
 mem:=by simp
 obj:=fun i h st b hb=>by
  have e:b=it:=by simpa using hb
  subst e
  obtain⟨o,e,c,d⟩:=st
  exact⟨o,e,fun v z=>by rw[d] at z;cases z⟩
 keep:=fun i h h' st k=>st.at fun o e=>k it (by simp) o e
 item:=by
  intro X hP hw hK hc i pins s σ H E I hf st hg
  subst hP hw hK
  obtain⟨xs,x,hq,hx⟩:=hg
  obtain⟨its,rv,p,hz⟩:=I.list hq
  obtain⟨u,hu,ru⟩:=rv.get hx
  obtain⟨f0,f1,f2,f3,f4,f5⟩:=hf it (by simp)
  refine wpAny_pyNext_list_item st p.isList (x:=u) (by simpa using hu) fun h' st' sb=>?_
  have I1:Inv X pins σ H { s with heap:=h' }:=I.turned (t':=s.toks) (fun b o hb e=>(sb.2 b hb).trans e) f0 f1 f3 f4 f5
  obtain⟨o,e,c,d⟩:=id st'
  exact⟨u,rfl,Zfd (s:={ s with heap:=h' }) e c d (by decide) ⟨x,H,I1,ru,⟨rfl,fun ys hy=>by rw[I.list_inj hy hq];exact hx⟩,st',fun b hb=>(hf b hb).1⟩⟩
 done:=by
  intro X hP hw hK hc i pins s σ H E I hf st hg
  subst hP hw hK
  obtain⟨xs,hq,hx⟩:=hg
  obtain⟨its,rv,p,hz⟩:=I.list hq
  obtain⟨f0,f1,f2,f3,f4,f5⟩:=hf it (by simp)
  have hl:=rv.length
  exact wpAny_pyNext_list_end (I.ok.hd hc) st p.isList (by simp;omega) fun h' eb=>⟨rfl,I.turned (t':=s.toks) (fun b o hb e=>eb b o hb e) f0 f1 f3 f4 f5⟩
 self:=fun _ _ _ _ _ st h=>wpAny_pyIter_listiter st h
theorem Zbo {P:Program}{w:World}{K:PySem.W.Frag}{tg:Expr}(a it:Addr):Turn P w K tg (Itt K a) [it] it (fun i h=>h.IsTupleIter it a i) where
 mem:=by simp
 obj:=fun i h st b hb=>by
  have e:b=it:=by simpa using hb
  subst e
  obtain⟨o,e,c,d⟩:=st
  exact⟨o,e,fun v z=>by rw[d] at z;cases z⟩
 keep:=fun i h h' st k=>st.at fun o e=>k it (by simp) o e
 item:=by
  intro X hP hw hK hc i pins s σ H E I hf st hg
  subst hP hw hK
  obtain⟨xs,x,hq,hx⟩:=hg
  obtain⟨its,rv,p,hz⟩:=I.tuple hq
  obtain⟨u,hu,ru⟩:=rv.get hx
  obtain⟨f0,f1,f2,f3,f4,f5⟩:=hf it (by simp)
  refine wpAny_pyNext_tuple_item st (show s.heap.IsTuple a its.toArray from p) (x:=u) (by simpa using hu) fun h' st' sb=>?_
  have I1:Inv X pins σ H { s with heap:=h' }:=I.turned (t':=s.toks) (fun b o hb e=>(sb.2 b hb).trans e) f0 f1 f3 f4 f5
  obtain⟨o,e,c,d⟩:=id st'
  exact⟨u,rfl,Zfd (s:={ s with heap:=h' }) e c d (by decide) ⟨x,H,I1,ru,⟨rfl,fun ys hy=>by rw[I.tuple_inj hy hq];exact hx⟩,st',fun b hb=>(hf b hb).1⟩⟩
 done:=by
  intro X hP hw hK hc i pins s σ H E I hf st hg
  subst hP hw hK
  obtain⟨xs,hq,hx⟩:=hg
  obtain⟨its,rv,p,hz⟩:=I.tuple hq
  obtain⟨f0,f1,f2,f3,f4,f5⟩:=hf it (by simp)
  have hl:=rv.length
  exact wpAny_pyNext_tuple_end (I.ok.hd hc) st (show s.heap.IsTuple a its.toArray from p) (by simp;omega) fun h' eb=>⟨rfl,I.turned (t':=s.toks) (fun b o hb e=>eb b o hb e) f0 f1 f3 f4 f5⟩
 self:=fun _ _ _ _ _ st h=>wpAny_pyIter_tupleiter st h
theorem Zbp {P:Program}{w:World}{K:PySem.W.Frag}{tg:Expr}(it:Addr)(lo:Int)(n:Nat):Turn P w K tg (Itr lo n) [it] it (fun i h=>IsRangeIter h it (lo+(i:Nat)*1) ((n:Int)-(i:Nat)) 1) where
 mem:=by simp
 obj:=fun i h st b hb=>by
  have e:b=it:=by simpa using hb
  subst e
  exact⟨_,st,fun v z=>by
   have z':Data.fields _=Data.cell v:=z
   cases z'⟩
 keep:=fun i h h' st k=>k it (by simp) _ st
 item:=by
  intro X hP hw hK hc i pins s σ H E I hf st hg
  subst hP hw hK
  obtain⟨f0,f1,f2,f3,f4,f5⟩:=hf it (by simp)
  have W:=Walks.range (prog:=X.prog) (w:=X.w) (I.ok.hd hc) it lo 1 n
  refine W.item i s _ _ hg st fun v h' tk hv st' kk=>?_
  obtain⟨t,rfl⟩:=hv
  have I1:Inv X pins σ H { s with heap:=h',toks:=tk }:=I.turned (fun b o hb e=>kk b o (by simpa using hb) e) f0 f1 f3 f4 f5
  refine⟨_,rfl,Zfd (s:={ s with heap:=h',toks:=tk }) (n:="range_iterator") st' rfl rfl (by decide) ⟨.int (lo+i),H,I1,⟨t,?_⟩,⟨rfl,rfl⟩,st',fun b hb=>(hf b hb).1⟩⟩
  rw[Int.mul_one]
 done:=by
  intro X hP hw hK hc i pins s σ H E I hf st hg
  subst hP hw hK
  obtain⟨f0,f1,f2,f3,f4,f5⟩:=hf it (by simp)
  exact wpAny_pyNext_range_end (I.ok.hd hc) st (by have:n<=i:=hg;omega) fun h' eb=>⟨rfl,I.turned (t':=s.toks) (fun b o hb e=>eb b o hb e) f0 f1 f3 f4 f5⟩
 self:=fun _ _ _ _ _ st h=>wpAny_pyIter_rangeiter st h
section
variable {X:Cx}{tg:Expr}
def Zlo (K:PySem.W.Frag)(tl:TE):TI:=fun σ H R=>tl σ H fun x H1=>∃a,x = .ref a/\(∃xs,SqL K H1 a xs)/\R (Itl K a) H1
def Zne (K:PySem.W.Frag)(tl:TE):TI:=fun σ H R=>tl σ H fun x H1=>∃a,x = .ref a/\(∃xs,SqT K H1 a xs)/\R (Itt K a) H1
theorem Z1v {l:Expr}{tl:TE}(hl:PE X l tl):PI X tg l (Zlo X.K tl):=by
 intro pins s σ H R I h
 refine thn (hl pins s σ H _ I h) fun v s1 ⟨x,H1,I1,r1,q1⟩=>?_
 obtain⟨a,e,⟨xs,hq⟩,q⟩:=q1
 subst e
 cases r1
 obtain⟨its,rv,p,hz⟩:=I1.list hq
 refine wpAny_pyIter_list p.isList ?_
 refine⟨s1.heap.objs.size,[s1.heap.objs.size],_,_,H1,rfl,I1.kept (t':=s1.toks) fun b o e=>Heap.get?_push_of_some _ e,Zcu a _,⟨_,Heap.get?_push_size _ rfl,rfl,rfl⟩,fun b hb=>?_,q⟩
 have e:b=s1.heap.objs.size:=by simpa using hb
 subst e
 exact I1.fpOk (Nat.le_refl _) (I1.hok.fresh (Nat.le_refl _))
theorem Z8q {l:Expr}{tl:TE}(hl:PE X l tl):PI X tg l (Zne X.K tl):=by
 intro pins s σ H R I h
 refine thn (hl pins s σ H _ I h) fun v s1 ⟨x,H1,I1,r1,q1⟩=>?_
 obtain⟨a,e,⟨xs,hq⟩,q⟩:=q1
 subst e
 cases r1
 obtain⟨its,rv,p,hz⟩:=I1.tuple hq
 refine wpAny_pyIter_tuple (show s1.heap.IsTuple a its.toArray from p) ?_
 refine⟨s1.heap.objs.size,[s1.heap.objs.size],_,_,H1,rfl,I1.kept (t':=s1.toks) fun b o e=>Heap.get?_push_of_some _ e,Zbo a _,⟨_,Heap.get?_push_size _ rfl,rfl,rfl⟩,fun b hb=>?_,q⟩
 have e:b=s1.heap.objs.size:=by simpa using hb
 subst e
 exact I1.fpOk (Nat.le_refl _) (I1.hok.fresh (Nat.le_refl _))
theorem Zfe {pins:List (Addr×Obj)}{σ:St}{H:Hp}{s:Shared}{R:It->Hp->Prop}{E:Value->Shared->Prop}{lo hi:Int}{t u v:Tok}{tk:Nat}(I:Inv X pins σ H s)(h1 : -(2 ^ 62)<=lo)(h2:lo<2 ^ 62)(h3 : -(2 ^ 62)<=hi)(h4:hi<2 ^ 62)
  (q:R (Itr lo (hi-lo).toNat) H):wpAny (model X.prog X.w) X.A (pyIter (.ref s.heap.objs.size)) (PIE X pins σ tg R) E { s with heap:=s.heap.push { cls:=.type "range",data:=.fields #[.int lo t,.int hi u,.int 1 v] },toks:=tk }:=by
 refine wpAny_pyIter_range (IsRange.new ..) (small_one h1 h2 h3 h4) ?_
 have I1:Inv X pins σ H { s with heap:=s.heap.push { cls:=.type "range",data:=.fields #[.int lo t,.int hi u,.int 1 v] },toks:=tk }:=I.kept fun b o e=>Heap.get?_push_of_some _ e
 refine⟨(s.heap.push { cls:=.type "range",data:=.fields #[.int lo t,.int hi u,.int 1 v] }).objs.size,[(s.heap.push { cls:=.type "range",data:=.fields #[.int lo t,.int hi u,.int 1 v] }).objs.size],_,_,H,rfl,
  I1.kept (t':=tk) fun b o e=>Heap.get?_push_of_some _ e,Zbp _ lo (hi-lo).toNat,?_,fun b hb=>?_,q⟩
 ·have e1:lo+((0:Nat):Int)*1=lo:=by simp
  have e2:(((hi-lo).toNat:Nat):Int)-((0:Nat):Int)=Builtin.Range.rangeSize lo hi 1:=by rw[rangeSize_one];split <;> omega
  show IsRangeIter _ _ (lo+((0:Nat):Int)*1) ((((hi-lo).toNat:Nat):Int)-((0:Nat):Int)) 1
  rw[e1,e2]
  exact Heap.get?_push_size _ rfl
 ·have e:b=(s.heap.push { cls:=.type "range",data:=.fields #[.int lo t,.int hi u,.int 1 v] }).objs.size:=by simpa using hb
  subst e
  exact I1.fpOk (Nat.le_refl _) (I1.hok.fresh (Nat.le_refl _))
def Zlp (ta:TA):TI:=fun σ H R=>ta σ H fun vs H1=>∃j:Int,vs = [.int j] /\ -(2 ^ 62)<=j/\j<2 ^ 62/\R (Itr 0 j.toNat) H1
theorem Z1y {a:Expr}{ta:TA}{p pos:Pos}(hg:Gl X "range")(hm:X.mg "range"=none)(ha:PA X [a] ta)(hs:starEach [a] X.env = [(false,eval a X.env)]:=by rfl):PI X tg (.Call (.Name "range" p) [a] [] pos) (Zlp ta):=by
 intro pins s σ H R I h
 refine Call_ (Z76 I hg hm boot_range (PyProof.Rows.callWith_type1 (thn (ha pos pins s σ H _ I h) fun us s1 ⟨vs,H1,I1,r1,q1⟩=>?_) hs rfl))
 obtain⟨j,e,q1,q2,q⟩:=q1
 subst e
 cases r1 with
 |cons r rr=>
  cases rr
  obtain⟨t,rfl⟩:=r
  exact call_range_1 (Zfe I1 (by omega) (by omega) q1 q2 (by simpa using q))
def Znf (wi:TI)(g:TG)(tb:TS):TS:=fun D σ H=>wi σ H fun J H1=>∃W:Nat->Nat->St->Hp->Prop,(∃m,W 0 m σ H1)/\∀i m σ H,W i m σ H →
 (J.stop i H/\D.nx σ H)∨(J.go i H/\∃N:St->Hp->Prop,(∀ σ' H',N σ' H'->∃m',m'<m/\W (i+1) m' σ' H')/\∀x H',J.yld i H x H'->g x σ H' fun σ2 H2=>tb { D with nx:=N,ct:=N,bk:=D.nx } σ2 H2)
def Z8r (fp:List Addr)(h:Heap):List (Addr×Obj):=fp.filterMap fun b=>(h.get? b).map fun o=>(b,o)
theorem Z3v {fp:List Addr}{h:Heap}{b:Addr}{o:Obj}(hb:b∈fp)(e:h.get? b=some o):(b,o)∈Z8r fp h:=mem_filterMap.mpr ⟨b,hb,by rw[e];rfl⟩
theorem Zcv {fp:List Addr}{h:Heap}{p:Addr×Obj}(hp:p∈Z8r fp h):p.1∈fp/\h.get? p.1=some p.2:=by
 obtain⟨b,hb,e⟩:=mem_filterMap.mp hp
 cases q:h.get? b with
 |none=>rw[q] at e;cases e
 |some o=>
  rw[q] at e
  have e':(b,o)=p:=Option.some.inj e
  subst e'
  exact⟨hb,q⟩
theorem Inv.pinned {pins:List (Addr×Obj)}{σ:St}{H:Hp}{s:Shared}{fp:List Addr}(I:Inv X pins σ H s)(hf:∀b∈fp,Z5y X pins H b)(ho:∀b∈fp,∃o,s.heap.get? b=some o/\∀v,o.data ≠ .cell v):Inv X (pins++Z8r fp s.heap) σ H s:=
 I.pins_of fun p hp=>(mem_append.mp hp).elim (fun z=>I.pin p (mem_append_right _ z)) fun z=>by
  obtain⟨hb,e⟩:=Zcv z
  obtain⟨f0,f1,f2,_⟩:=hf p.1 hb
  obtain⟨o,e',d⟩:=ho p.1 hb
  rw[e] at e';cases e'
  exact⟨e,f0,f1,f2,d⟩
theorem Inv.unpinned {pins pl:List (Addr×Obj)}{σ:St}{H:Hp}{s:Shared}(I:Inv X (pins++pl) σ H s):Inv X pins σ H s:=I.pins_of fun p hp=>I.pin p (mem_append_right _ (mem_append_left _ hp))
theorem Z43 {iter:Expr}{body:List Stmt}{wi:TI}{g:TG}{tb:TS}{pos:Pos}(hp:PassesOwn (model X.prog X.w) X.A X.env X.xe)(hc:X.calm=true)(hi:PI X tg iter wi)(hg:PG X tg g)(hb:PSs X body tb)
  (hs:∀x,foldedSetIterable iter X.env x=pure x:=by intro _;rfl):PS X (.For tg iter body [] pos) (Znf wi g tb):=by
 intro pins s σ H D I h
 refine wpAny_For (thn (hi pins s σ H _ I h) fun v s1 h1=>thn h1 fun itv s2 h2=>?_) hs
 obtain⟨it,fp,tn,J,H2,e,I2,T,st2,f2,W,⟨m0,w0⟩,turn⟩:=h2
 subst e
 have stat:∀{H':Hp},(∀b∈fp,H' b=none)->∀b∈fp,Z5y X pins H' b:=fun hn b hb=>⟨hn b hb,(f2 b hb).2⟩
 refine codeAny_forLoop_any (fun n s'=>∃i σ' H',Inv X pins σ' H' s'/\tn i s'.heap/\(∀b∈fp,H' b=none)/\W i n σ' H') ?_ m0 ⟨0,σ,H2,I2,st2,fun b hb=>(f2 b hb).1,w0⟩
 rintro n s3 ⟨i,σ3,H3,I3,st3,fr3,w3⟩
 rcases turn i n σ3 H3 w3 with ⟨stop,qn⟩|⟨go,N,hN,step⟩
 ·refine wpAny_passesOwn hp (thn (T.done X rfl rfl rfl hc i pins s3 σ3 H3 X.xe I3 (stat fr3) st3 stop) fun r s4 ⟨hr,I4⟩=>?_)
  subst hr
  exact wpAny_execs_nil ⟨σ3,H3,I4,qn⟩
 ·refine wpAny_passesOwn hp (thn (T.item X rfl rfl rfl hc i pins s3 σ3 H3 X.xe I3 (stat fr3) st3 go) fun r s4 ⟨u,hr,h4⟩=>?_)
  subst hr
  refine wpAny_passesOwn hp (thn h4 fun _ s5 ⟨x,H5,I5,r5,y5,st5,fr5⟩=>?_)
  have I5':=I5.pinned (stat fr5) (T.obj _ _ st5)
  refine wpAny_passesOwn hp (thn (hg _ s5 σ3 H5 x u _ I5' r5 (step x H5 y5)) fun _ s6 ⟨σ6,H6,I6,q6⟩=>?_)
  refine wpAny_passesOwn hp (thn (hb _ s6 σ6 H6 _ I6 q6) fun f s7 q7=>?_)
  have again:∀{σ7:St} {H7:Hp},Inv X (pins++Z8r fp s5.heap) σ7 H7 s7->N σ7 H7->∃m,m<n/\∃i σ' H',Inv X pins σ' H' s7/\tn i s7.heap/\(∀b∈fp,H' b=none)/\W i m σ' H':=fun {σ7 H7} I7 n7=>by
   obtain⟨m',hm,w7⟩:=hN σ7 H7 n7
   refine⟨m',hm,i+1,σ7,H7,I7.unpinned,T.keep _ _ _ st5 fun b hb o e=>(I7.pin (b,o) (mem_append_right _ (mem_append_right _ (Z3v hb e)))).1,fun b hb=>?_,w7⟩
   obtain⟨o,e,d⟩:=T.obj _ _ st5 b hb
   exact(I7.pin (b,o) (mem_append_right _ (mem_append_right _ (Z3v hb e)))).2.1
  cases f with
  |next=>obtain⟨σ7,H7,I7,n7⟩:=q7;exact again I7 n7
  |cont=>obtain⟨σ7,H7,I7,n7⟩:=q7;exact again I7 n7
  |brk=>obtain⟨σ7,H7,I7,q7⟩:=q7;exact⟨σ7,H7,I7.unpinned,q7⟩
  |ret v=>obtain⟨x7,σ7,H7,I7,r7,q7⟩:=q7;exact⟨x7,σ7,H7,I7.unpinned,r7,q7⟩
end
theorem Zaj {K:PySem.W.Frag}{a:Addr}{xs:List V}{g:TG}{tb:TS}{D:Ends}{σ:St}{H:Hp}(Pv:Nat->St->Hp->Prop)(h0:Pv 0 σ H)(hl:∀i σ H,i<=xs.length->Pv i σ H->SqL K H a xs)
  (hs:∀i x σ H,xs[i]? = some x->Pv i σ H->g x σ H fun σ2 H2=>tb { D with nx:=Pv (i+1),ct:=Pv (i+1),bk:=D.nx } σ2 H2) (hd:∀ σ H,Pv xs.length σ H->D.nx σ H):
  ∃W:Nat->Nat->St->Hp->Prop,(∃m,W 0 m σ H)/\∀i m σ H,W i m σ H →
   ((Itl K a).stop i H/\D.nx σ H)∨((Itl K a).go i H/\∃N:St->Hp->Prop,(∀ σ' H',N σ' H'->∃m',m'<m/\W (i+1) m' σ' H')/\∀x H',(Itl K a).yld i H x H'->g x σ H' fun σ2 H2=>tb { D with nx:=N,ct:=N,bk:=D.nx } σ2 H2):=by
 refine⟨fun i m σ H=>m=xs.length-i/\i<=xs.length/\Pv i σ H,⟨xs.length,by simp,Nat.zero_le _,h0⟩,?_⟩
 rintro i m σ H ⟨rfl,hi,p⟩
 have q:=hl i σ H hi p
 by_cases hlt:i<xs.length
 ·refine .inr ⟨⟨xs,xs[i],q,by simp [hlt]⟩,Pv (i+1),fun σ' H' p'=>⟨xs.length-(i+1),by omega,rfl,hlt,p'⟩,fun x H' y=>?_⟩
  obtain⟨e,y⟩:=y
  subst e
  exact hs i x σ _ (y xs q) p
 ·have e:i=xs.length:=by omega
  subst e
  exact .inl ⟨⟨xs,q,Nat.le_refl _⟩,hd σ H p⟩
theorem Z31 {lo:Int}{n:Nat}{g:TG}{tb:TS}{D:Ends}{σ:St}{H:Hp}(Pv:Nat->St->Hp->Prop)(h0:Pv 0 σ H)
  (hs:∀i σ H,i<n->Pv i σ H->g (.int (lo+i)) σ H fun σ2 H2=>tb { D with nx:=Pv (i+1),ct:=Pv (i+1),bk:=D.nx } σ2 H2) (hd:∀ σ H,Pv n σ H->D.nx σ H):
  ∃W:Nat->Nat->St->Hp->Prop,(∃m,W 0 m σ H)/\∀i m σ H,W i m σ H →
   ((Itr lo n).stop i H/\D.nx σ H)∨((Itr lo n).go i H/\∃N:St->Hp->Prop,(∀ σ' H',N σ' H'->∃m',m'<m/\W (i+1) m' σ' H')/\∀x H',(Itr lo n).yld i H x H'->g x σ H' fun σ2 H2=>tb { D with nx:=N,ct:=N,bk:=D.nx } σ2 H2):=by
 refine⟨fun i m σ H=>m=n-i/\i<=n/\Pv i σ H,⟨n,by simp,Nat.zero_le _,h0⟩,?_⟩
 rintro i m σ H ⟨rfl,hi,p⟩
 by_cases hlt:i<n
 ·refine .inr ⟨hlt,Pv (i+1),fun σ' H' p'=>⟨n-(i+1),by omega,rfl,hlt,p'⟩,fun x H' y=>?_⟩
  obtain⟨e,y⟩:=y
  subst e y
  exact hs i σ _ hlt p
 ·have e:i=n:=by omega
  subst e
  exact .inl ⟨Nat.le_refl _,hd σ H p⟩
theorem Zff {c:TT}{tb:TS}{D:Ends}{σ:St}{H:Hp}(Pv:St->Hp->Prop)(μ : St->Hp->Nat)(h0:Pv σ H)
  (hs:∀ σ H,Pv σ H->c σ H fun b H1=>if b=true then tb { D with nx:=fun σ' H'=>Pv σ' H' /\ μ σ' H' < μ σ H,ct:=fun σ' H'=>Pv σ' H' /\ μ σ' H' < μ σ H,bk:=D.nx } σ H1 else D.nx σ H1)
  (mono:∀ σ H Q Q',(∀b H1,Q b H1->Q' b H1)->c σ H Q->c σ H Q'):tWhile c tb D σ H:=by
 refine⟨fun m σ H=>m = μ σ H/\Pv σ H,⟨_,rfl,h0⟩,?_⟩
 rintro m σ H ⟨rfl,p⟩
 refine mono σ H _ _ (fun b H1 q=>?_) (hs σ H p)
 cases b with
 |true=>exact⟨_,fun σ' H' ⟨p',l⟩=>⟨_,l,rfl,p'⟩,q⟩
 |false=>exact q
abbrev R2:=V->V->Hp->VK->Prop
def OpR (X:Cx)(f:Value->Value->Sem Value)(r:R2):Prop:=
 ∀(pins:List (Addr×Obj)) (s:Shared) (σ:St) (H:Hp) (x y:V) (v u:Value) (Q:VK),Inv X pins σ H s->RelV x v->RelV y u->r x y H Q →
  wpAny (model X.prog X.w) X.A (f v u) (EP X pins σ Q) X.xe s
def UnR (X:Cx)(f:Value->Sem Value)(r:V->Hp->VK->Prop):Prop:=
 ∀(pins:List (Addr×Obj)) (s:Shared) (σ:St) (H:Hp) (x:V) (v:Value) (Q:VK),Inv X pins σ H s->RelV x v->r x H Q →
  wpAny (model X.prog X.w) X.A (f v) (EP X pins σ Q) X.xe s
def Z3l (X:Cx)(f:Value)(r:List V->Hp->VK->Prop):Prop:=
 ∀(pins:List (Addr×Obj)) (s:Shared) (σ:St) (H:Hp) (xs:List V) (us:List Value) (Q:VK),Inv X pins σ H s->Vals xs us->r xs H Q →
  wpAny (model X.prog X.w) X.A (call f us) (EP X pins σ Q) X.xe s
def Zng (X:Cx)(r:V->Hp->(Bool->Hp->Prop)->Prop):Prop:=
 ∀(pins:List (Addr×Obj)) (s:Shared) (σ:St) (H:Hp) (x:V) (v:Value) (Q:Bool->Hp->Prop),Inv X pins σ H s->RelV x v->r x H Q →
  wpAny (model X.prog X.w) X.A (truthy v) (TP X pins σ Q) X.xe s
def tOp (r:R2)(ta tb:TE):TE:=fun σ H Q=>ta σ H fun x H1=>tb σ H1 fun y H2=>r x y H2 Q
def tUn (r:V->Hp->VK->Prop)(ta:TE):TE:=fun σ H Q=>ta σ H fun x H1=>r x H1 Q
inductive rI (C:Int->Int->Prop)(g:Int->Int->V)(x:V)(y:V)(H:Hp)(Q:VK):Prop
 |mk (i j:_) (_:x = .int i) (_:y = .int j) (_:C i j) (_:Q (g i j) H):rI C g x y H Q
inductive rI0 (g:Int->Int->V)(x:V)(y:V)(H:Hp)(Q:VK):Prop
 |mk (i j:_) (_:x = .int i) (_:y = .int j) (_:Q (g i j) H):rI0 g x y H Q
inductive rU (g:Int->V)(x:V)(H:Hp)(Q:VK):Prop
 |mk (i:_) (_:x = .int i) (_:Q (g i) H):rU g x H Q
section
variable {X:Cx}{a b c:Expr}{ta tb tc:TE}{pos:Pos}
theorem Zlq (ha:PE X a ta)(hb:PE X b tb){pins:List (Addr×Obj)}{s:Shared}{σ:St}{H:Hp}{R:V->V->Hp->Prop}(I:Inv X pins σ H s)
  (h:ta σ H fun x H1=>tb σ H1 fun y H2=>R x y H2) {Q:Value->Shared->Prop} {f:Value->Value->Sem Value}
  (hf:∀v u s2 x y H2,Inv X pins σ H2 s2->RelV x v->RelV y u->R x y H2->wpAny (model X.prog X.w) X.A (f v u) Q X.xe s2):
  wpAny (model X.prog X.w) X.A (eval a X.env) (fun v s₁=>wpAny (model X.prog X.w) X.A (eval b X.env) (fun u s₂=>wpAny (model X.prog X.w) X.A (f v u) Q X.xe s₂) X.xe s₁) X.xe s:=by
 refine thn (ha pins s σ H _ I h) fun v s1 ⟨x,H1,I1,r1,q1⟩=>?_
 refine thn (hb pins s1 σ H1 _ I1 q1) fun u s2 ⟨y,H2,I2,r2,q2⟩=>?_
 exact hf v u s2 x y H2 I2 r1 r2 q2
theorem Z0i {op:Operator}{r:R2}(ho:OpR X (binaryOp op) r)(ha:PE X a ta)(hb:PE X b tb):PE X (.BinOp a op b pos) (tOp r ta tb):=by
 intro pins s σ H Q I h
 exact wpAny_BinOp (Zlq ha hb I h fun v u s2 x y H2 I2 rx ry q=>ho pins s2 σ H2 x y v u Q I2 rx ry q)
theorem Zfg {op:UnaryOp}{r:V->Hp->VK->Prop}(ho:UnR X (unaryOp op) r)(ha:PE X a ta):PE X (.UnaryOp op a pos) (tUn r ta):=by
 intro pins s σ H Q I h
 exact UnaryOp_ (thn (ha pins s σ H _ I h) fun v s1 ⟨x,H1,I1,r1,q1⟩=>ho pins s1 σ H1 x v Q I1 r1 q1)
theorem opI {f:Value->Value->Sem Value}{C:Int->Int->Prop}{g:Int->Int->Int}
  (rule:∀(i j:Int) (t u:Tok) (s:Shared) (Q:Value->Shared->Prop) (E:Value->Shared->Prop),C i j->Q (.int (g i j) s.toks) { s with toks:=s.toks+1 }->wpAny (model X.prog X.w) X.A (f (.int i t) (.int j u)) Q E s):
  OpR X f (rI C fun i j=>.int (g i j)):=by
 intro pins s σ H x y v u Q I rx ry h
 obtain⟨i,j,rfl,rfl,hc,q⟩:=h
 obtain⟨t,rfl⟩:=rx
 obtain⟨t',rfl⟩:=ry
 exact rule i j t t' s _ _ hc ⟨.int (g i j),H,I.tok _,⟨_,rfl⟩,q⟩
theorem Zmv {f:Value->Value->Sem Value}{g:Int->Int->Int}
  (rule:∀(i j:Int) (t u:Tok) (s:Shared) (Q:Value->Shared->Prop) (E:Value->Shared->Prop),Q (.int (g i j) s.toks) { s with toks:=s.toks+1 }->wpAny (model X.prog X.w) X.A (f (.int i t) (.int j u)) Q E s):
  OpR X f (rI0 fun i j=>.int (g i j)):=by
 intro pins s σ H x y v u Q I rx ry h
 obtain⟨i,j,rfl,rfl,q⟩:=h
 obtain⟨t,rfl⟩:=rx
 obtain⟨t',rfl⟩:=ry
 exact rule i j t t' s _ _ ⟨.int (g i j),H,I.tok _,⟨_,rfl⟩,q⟩
theorem Zlh {f:Value->Value->Sem Value}{g:Int->Int->Bool}
  (rule:∀(i j:Int) (t u:Tok) (s:Shared) (Q:Value->Shared->Prop) (E:Value->Shared->Prop),Q (.bool (g i j)) s->wpAny (model X.prog X.w) X.A (f (.int i t) (.int j u)) Q E s):
  OpR X f (rI0 fun i j=>.bl (g i j)):=by
 intro pins s σ H x y v u Q I rx ry h
 obtain⟨i,j,rfl,rfl,q⟩:=h
 obtain⟨t,rfl⟩:=rx
 obtain⟨t',rfl⟩:=ry
 exact rule i j t t' s _ _ ⟨.bl (g i j),H,I,rfl,q⟩
def Znh (i j:Int):Prop:=0<=j/\j<=1000000/\i.natAbs<2 ^ 64
def CMul (i j:Int):Prop:=(-(2 ^ 64)<i/\i<2 ^ 64)∨(-(2 ^ 64)<j/\j<2 ^ 64)
theorem CMul.ok {i j:Int}(h:CMul i j):IntMulOk i j:=by
 rcases h with ⟨h1,h2⟩|⟨h1,h2⟩
 ·exact .of_left (intBits_le_64 h1 h2)
 ·exact .of_right (intBits_le_64 h1 h2)
theorem Z1h:OpR X (binaryOp .Add) (rI0 fun i j=>.int (i+j)):=Zmv fun _ _ _ _ _ _ _ q=>add_int q
theorem Z1l:OpR X (binaryOp .Sub) (rI0 fun i j=>.int (i-j)):=Zmv fun _ _ _ _ _ _ _ q=>sub_int q
theorem Z1x:OpR X (binaryOp .Mult) (rI CMul fun i j=>.int (i*j)):=opI fun _ _ _ _ _ _ _ hc q=>mul_int q hc.ok
theorem Z32:OpR X (binaryOp .Mod) (rI (fun _ j=>0<j) fun i j=>.int (i % j)):=opI fun i j _ _ _ _ _ hc q=>by
 have h1:(0:Int)<j:=hc
 exact mod_int' (by omega) (by rw[Int.fmod_eq_emod_of_nonneg i (by omega)];exact q)
theorem Zh9:OpR X (binaryOp .Pow) (rI Znh fun i j=>.int (i ^ j.toNat)):=opI fun _ _ _ _ _ _ _ hc q=>pow_int_small hc.1 hc.2.1 hc.2.2 q
theorem unI {f:Value->Sem Value}{g:Int->Int}
  (rule:∀(i:Int) (t:Tok) (s:Shared) (Q:Value->Shared->Prop) (E:Value->Shared->Prop),Q (.int (g i) s.toks) { s with toks:=s.toks+1 }->wpAny (model X.prog X.w) X.A (f (.int i t)) Q E s):
  UnR X f (rU fun i=>.int (g i)):=by
 intro pins s σ H x v Q I rx h
 obtain⟨i,rfl,q⟩:=h
 obtain⟨t,rfl⟩:=rx
 exact rule i t s _ _ ⟨.int (g i),H,I.tok _,⟨_,rfl⟩,q⟩
theorem Zak:UnR X (unaryOp .USub) (rU fun i=>.int (-i)):=unI fun _ _ _ _ _ q=>neg_int q
end
def Zmw:V->V->Bool
 | .non,.non=>true | .non,.int _=>true | .int _,.non=>true | .non,.bl _=>true | .bl _,.non=>true | .non,.str _=>true | .str _,.non=>true
 | .int _,.int _=>true | .bl _,.bl _=>true | .str _,.str _=>true | .byt _,.byt _=>true
 | .int _,.str _=>true | .str _,.int _=>true | .bl _,.str _=>true | .str _,.bl _=>true
 |_,_=>false
def rEq:R2:=fun x y H Q=>Zmw x y=true/\Q (.bl (decide (x=y))) H
def rNe:R2:=fun x y H Q=>Zmw x y=true/\Q (.bl (!decide (x=y))) H
theorem Zcw {i j:Int}:decide (V.int i=V.int j)=(i==j):=by
 rw[Bool.eq_iff_iff]
 simp
theorem Zha {i j:Bool}:decide (V.bl i=V.bl j)=(i==j):=by
 rw[Bool.eq_iff_iff]
 simp
theorem Zcx {i j:Str}:decide (V.str i=V.str j)=(i==j):=by
 rw[Bool.eq_iff_iff]
 simp
theorem Zcy {i j:Array UInt8}:decide (V.byt i=V.byt j)=(i.toList==j.toList):=by
 rw[Bool.eq_iff_iff]
 cases i
 cases j
 simp
section
variable {X:Cx}{a b c:Expr}{ta tb tc:TE}{pos:Pos}
theorem Z0z {pins:List (Addr×Obj)}{σ:St}{H:Hp}{s:Shared}{Q:VK}{k k':Bool}(I:Inv X pins σ H s)(q:Q (.bl k) H)(e:k=k'):EP X pins σ Q (.bool k') s:=by
 subst e
 exact⟨.bl k,H,I,rfl,q⟩
theorem Z1d:OpR X (compareOp .Eq) rEq:=by
 intro pins s σ H x y v u Q I rx ry h
 obtain⟨hs,q⟩:=h
 cases x with
 |non=>
  cases rx
  cases y with
  |non=>cases ry;exact PySem.EqNone.eq_none_none (Z0z I q (by simp))
  |bl j=>cases ry;exact PySem.EqNone.eq_none_bool (Z0z I q (by simp))
  |int j=>obtain⟨t',rfl⟩:=ry;exact PySem.EqNone.eq_none_int (Z0z I q (by simp))
  |str j=>obtain⟨t',rfl⟩:=ry;exact PySem.EqNone.eq_none_str (Z0z I q (by simp))
  |_=>exact absurd (show false=true from hs) Bool.false_ne_true
 |bl i=>
  cases rx
  cases y with
  |non=>cases ry;exact PySem.EqNone.eq_bool_none (Z0z I q (by simp))
  |bl j=>cases ry;exact eq_bool (Z0z I q Zha)
  |str j=>obtain⟨t',rfl⟩:=ry;exact PySem.EqMixed.eq_bool_str (Z0z I q (by simp))
  |_=>exact absurd (show false=true from hs) Bool.false_ne_true
 |int i=>
  obtain⟨t,rfl⟩:=rx
  cases y with
  |non=>cases ry;exact PySem.EqNone.eq_int_none (Z0z I q (by simp))
  |int j=>obtain⟨t',rfl⟩:=ry;exact eq_int (Z0z I q Zcw)
  |str j=>obtain⟨t',rfl⟩:=ry;exact PySem.EqMixed.eq_int_str (Z0z I q (by simp))
  |_=>exact absurd (show false=true from hs) Bool.false_ne_true
 |str i=>
  obtain⟨t,rfl⟩:=rx
  cases y with
  |non=>cases ry;exact PySem.EqNone.eq_str_none (Z0z I q (by simp))
  |bl j=>cases ry;exact PySem.EqMixed.eq_str_bool (Z0z I q (by simp))
  |int j=>obtain⟨t',rfl⟩:=ry;exact PySem.EqMixed.eq_str_int (Z0z I q (by simp))
  |str j=>obtain⟨t',rfl⟩:=ry;exact eq_str (Z0z I q Zcx)
  |_=>exact absurd (show false=true from hs) Bool.false_ne_true
 |byt i=>
  obtain⟨t,rfl⟩:=rx
  cases y with
  |byt j=>obtain⟨t',rfl⟩:=ry;exact PySem.W.eq_bytes (Z0z I q Zcy)
  |_=>exact absurd (show false=true from hs) Bool.false_ne_true
 |_=>cases y <;> exact absurd (show false=true from hs) Bool.false_ne_true
theorem Zbq:OpR X (compareOp .NotEq) rNe:=by
 intro pins s σ H x y v u Q I rx ry h
 obtain⟨hs,q⟩:=h
 cases x with
 |non=>
  cases rx
  cases y with
  |non=>cases ry;exact PySem.EqNone.ne_none_none (Z0z I q (by simp))
  |bl j=>cases ry;exact PySem.EqNone.ne_none_bool (Z0z I q (by simp))
  |int j=>obtain⟨t',rfl⟩:=ry;exact PySem.EqNone.ne_none_int (Z0z I q (by simp))
  |str j=>obtain⟨t',rfl⟩:=ry;exact PySem.EqNone.ne_none_str (Z0z I q (by simp))
  |_=>exact absurd (show false=true from hs) Bool.false_ne_true
 |bl i=>
  cases rx
  cases y with
  |non=>cases ry;exact PySem.EqNone.ne_bool_none (Z0z I q (by simp))
  |bl j=>cases ry;exact ne_bool (Z0z I q (congrArg not Zha))
  |str j=>obtain⟨t',rfl⟩:=ry;exact PySem.EqMixed.ne_bool_str (Z0z I q (by simp))
  |_=>exact absurd (show false=true from hs) Bool.false_ne_true
 |int i=>
  obtain⟨t,rfl⟩:=rx
  cases y with
  |non=>cases ry;exact PySem.EqNone.ne_int_none (Z0z I q (by simp))
  |int j=>obtain⟨t',rfl⟩:=ry;exact ne_int (Z0z I q (congrArg not Zcw))
  |str j=>obtain⟨t',rfl⟩:=ry;exact PySem.EqMixed.ne_int_str (Z0z I q (by simp))
  |_=>exact absurd (show false=true from hs) Bool.false_ne_true
 |str i=>
  obtain⟨t,rfl⟩:=rx
  cases y with
  |non=>cases ry;exact PySem.EqNone.ne_str_none (Z0z I q (by simp))
  |bl j=>cases ry;exact PySem.EqMixed.ne_str_bool (Z0z I q (by simp))
  |int j=>obtain⟨t',rfl⟩:=ry;exact PySem.EqMixed.ne_str_int (Z0z I q (by simp))
  |str j=>obtain⟨t',rfl⟩:=ry;exact ne_str (Z0z I q (congrArg not Zcx))
  |_=>exact absurd (show false=true from hs) Bool.false_ne_true
 |byt i=>
  obtain⟨t,rfl⟩:=rx
  cases y with
  |byt j=>obtain⟨t',rfl⟩:=ry;exact PySem.W.ne_bytes (Z0z I q (congrArg not Zcy))
  |_=>exact absurd (show false=true from hs) Bool.false_ne_true
 |_=>cases y <;> exact absurd (show false=true from hs) Bool.false_ne_true
theorem Z9x:OpR X (compareOp .Lt) (rI0 fun i j=>.bl (decide (i<j))):=Zlh fun _ _ _ _ _ _ _ q=>lt_int q
theorem Zlr:OpR X (compareOp .LtE) (rI0 fun i j=>.bl (decide (i<=j))):=Zlh fun _ _ _ _ _ _ _ q=>le_int q
theorem Zi0:OpR X (compareOp .Gt) (rI0 fun i j=>.bl (decide (j<i))):=Zlh fun _ _ _ _ _ _ _ q=>gt_int q
theorem Zjx:OpR X (compareOp .GtE) (rI0 fun i j=>.bl (decide (j<=i))):=Zlh fun _ _ _ _ _ _ _ q=>ge_int q
theorem Z0k (b:Expr){op:CmpOp}(h:op ≠ .In:=by decide)(h2:op ≠ .NotIn:=by decide):behindInMarks op b=false:=by
 have e1:(op==CmpOp.In)=false:=by cases op <;> first|rfl|exact absurd rfl h
 have e2:(op==CmpOp.NotIn)=false:=by cases op <;> first|rfl|exact absurd rfl h2
 cases b <;> simp [behindInMarks,e1,e2]
theorem Z5z {op:CmpOp}{r:R2}(ho:OpR X (compareOp op) r)(ha:PE X a ta)(hb:PE X b tb)(hm:behindInMarks op b=false):PE X (.Compare a [op] [b] pos) (tOp r ta tb):=by
 intro pins s σ H Q I h
 exact wpAny_Compare1 (Zlq ha hb I h fun v u s2 x y H2 I2 rx ry q=>ho pins s2 σ H2 x y v u Q I2 rx ry q) hm
def Zjy (t:TE):TT:=fun σ H Q=>t σ H fun x H'=>∃k,x = .bl k/\Q k H'
theorem Z0b {op:CmpOp}{r:R2}(ho:OpR X (compareOp op) r)(ha:PE X a ta)(hb:PE X b tb)(hm:behindInMarks op b=false):PT X (.Compare a [op] [b] pos) (Zjy (tOp r ta tb)):=by
 intro pins s σ H Q I h
 refine wpAny_isTrue_Compare1 (thn (ha pins s σ H _ I h) fun v s1 ⟨x,H1,I1,r1,q1⟩=>thn (hb pins s1 σ H1 _ I1 q1) fun u s2 ⟨y,H2,I2,r2,q2⟩=>
  thn (ho pins s2 σ H2 x y v u _ I2 r1 r2 q2) fun c s3 ⟨z,H3,I3,r3,k,e,q3⟩=>?_) hm
 subst e
 cases r3
 exact wpAny_truthy_bool ⟨H3,I3,q3⟩
def Zjz (r r':R2)(ta tb tc:TE):TE:=fun σ H Q=>ta σ H fun x H1=>tb σ H1 fun y H2=>r x y H2 fun z H3=>∃k,z = .bl k ∧
 (if k=true then tc σ H3 fun w' H4=>r' y w' H4 Q else Q (.bl false) H3)
theorem Zfh {op op':CmpOp}{r r':R2}(ho:OpR X (compareOp op) r)(ho':OpR X (compareOp op') r')(ha:PE X a ta)(hb:PE X b tb)(hc:PE X c tc)
  (hm:lastMarks [op,op'] [b,c]=false:=by with_unfolding_all rfl):PT X (.Compare a [op,op'] [b,c] pos) (Zjy (Zjz r r' ta tb tc)):=by
 intro pins s σ H Q I h
 refine isTrue_chain (thn (ha pins s σ H _ I h) fun v s1 ⟨x,H1,I1,r1,q1⟩=>test_link (thn (hb pins s1 σ H1 _ I1 q1) fun u s2 ⟨y,H2,I2,r2,q2⟩=>
  thn (ho pins s2 σ H2 x y v u _ I2 r1 r2 q2) fun d s3 ⟨z,H3,I3,r3,k,e,q3⟩=>?_)) hm
 subst e
 cases r3
 refine wpAny_truthy_bool ?_
 cases k with
 |false=>
  obtain⟨k',e',q'⟩:=q3
  cases e'
  exact ite_ff ⟨H3,I3,q'⟩
 |true=>
  refine ite_tt (test_last (thn (hc pins s3 σ H3 _ I3 q3) fun w' s4 ⟨z',H4,I4,r4,q4⟩=>thn (ho' pins s4 σ H4 y z' u w' _ I4 r2 r4 q4) fun d' s5 ⟨z2,H5,I5,r5,k2,e2,q5⟩=>?_))
  subst e2
  cases r5
  exact wpAny_truthy_bool ⟨H5,I5,q5⟩
def Zmx (K:PySem.W.Frag)(x:V)(H:Hp)(k:Bool):Prop:=
 match x with
 | .non=>k=false
 | .bl b=>k=b
 | .int i=>k=(i != 0)
 | .str y=>y.length<=sizeLine/\k=((y.length:Int) != 0)
 | .byt y=>y.size<=sizeLine/\k=((y.size:Int) != 0)
 | .ref p=>(∃xs,SqL K H p xs/\k = !xs.isEmpty)∨(∃xs,SqT K H p xs/\k = !xs.isEmpty)∨∃kvs,H p=some (.dK kvs)/\k = !kvs.isEmpty
 |_=>False
theorem Zbr {κ : Type}{kvs:List (κ × V)}{vs:List (κ × Value)}(r:KV kvs vs):(!vs.isEmpty) = !kvs.isEmpty:=by
 cases r <;> rfl
theorem Z77 {xs:List V}{its:List Value}(r:Vals xs its):(!its.toArray.isEmpty) = !xs.isEmpty:=by
 cases r <;> simp
theorem Z60:(sizeLine:Nat)<2 ^ 63:=by rw[sizeLine_eq];decide
theorem Zk0:Zng X (fun x H Q=>∃k,Zmx X.K x H k/\Q k H):=by
 intro pins s σ H x v Q I rx h
 obtain⟨k,e,q⟩:=h
 have hl:=Z60
 have hs:sizeLine=16777216:=sizeLine_eq
 cases x with
 |non=>
  cases rx
  have e':k=false:=e
  subst e'
  exact truthy_none ⟨H,I,q⟩
 |bl b=>
  cases rx
  have e':k=b:=e
  subst e'
  exact wpAny_truthy_bool ⟨H,I,q⟩
 |int i=>
  obtain⟨t,rfl⟩:=rx
  have e':k=(i != 0):=e
  subst e'
  exact PySem.P.truthy_int ⟨H,I,q⟩
 |str y=>
  obtain⟨t,rfl⟩:=rx
  obtain⟨hy,e'⟩:y.length<=sizeLine/\k=((y.length:Int) != 0):=e
  subst e'
  exact PySem.P.truthy_str (by omega) ⟨H,I.tok _,q⟩
 |byt y=>
  obtain⟨t,rfl⟩:=rx
  obtain⟨hy,e'⟩:y.size<=sizeLine/\k=((y.size:Int) != 0):=e
  subst e'
  exact PySem.W.truthy_bytes (by omega) ⟨H,I.tok _,q⟩
 |ref p=>
  cases rx
  have e':(∃xs,SqL X.K H p xs/\k = !xs.isEmpty)∨(∃xs,SqT X.K H p xs/\k = !xs.isEmpty)∨∃kvs,H p=some (.dK kvs)/\k = !kvs.isEmpty:=e
  rcases e' with ⟨xs,hx,e'⟩|⟨xs,hx,e'⟩|⟨kvs,hx,e'⟩
  ·subst e'
   obtain⟨its,r,pl,hz⟩:=I.list hx
   have hlen:=r.length
   exact wpAny_truthy_list pl.isList (by simp only [size_toArray];omega) ⟨H,I.tok _,by rw[Z77 r];exact q⟩
  ·subst e'
   obtain⟨its,r,pl,hz⟩:=I.tuple hx
   have hlen:=r.length
   exact truthy_tuple pl (by simp only [size_toArray];omega) ⟨H,I.tok _,by rw[Z77 r];exact q⟩
  ·subst e'
   obtain⟨hz,hS,vs,r,m⟩:kvs.length<=sizeLine/\(p==sysModules)=false/\∃vs,KV kvs vs/\s.heap.DictOf (Z13 X.prog X.w) p vs:=I.hok p _ hx
   have hlen:kvs.length=vs.length:=Paired.length r
   exact wpAny_truthy_dict hS m (by omega) ⟨H,I.tok _,by rw[Zbr r];exact q⟩
 |_=>exact(show False from e).elim
theorem Zal (ha:PE X a ta)(he:∀whole,isTrue a X.env whole=(do let v ← whole;standAt a.pos;holding [v] (truthy v))):
  PT X a (fun σ H Q=>ta σ H fun x H'=>∃k,Zmx X.K x H' k/\Q k H'):=by
 intro pins s σ H Q I h
 exact isTrue_plain (thn (ha pins s σ H _ I h) fun v s1 ⟨x,H1,I1,r1,q1⟩=>Zk0 pins s1 σ H1 x v Q I1 r1 q1) (he _)
theorem Z33:OpR X (binaryOp .Add) (fun x y H Q=>∃i j,x = .str i/\y = .str j/\i.length+j.length<=sizeLine/\Q (.str (i++j)) H):=by
 intro pins s σ H x y v u Q I rx ry h
 obtain⟨i,j,rfl,rfl,hz,q⟩:=h
 obtain⟨t,rfl⟩:=rx
 obtain⟨t',rfl⟩:=ry
 exact add_str (fun t' tk=>⟨.str (i++j),H,I.tok _,⟨_,rfl⟩,q⟩) hz
theorem Z61 {x:V}{us:List Value}(r:Vals [x] us):∃u,us = [u]/\RelV x u:=by
 cases r with
 |cons r1 r2=>cases r2;exact⟨_,rfl,r1⟩
theorem Zk1 {x y:V}{us:List Value}(r:Vals [x,y] us):∃u w',us = [u,w']/\RelV x u/\RelV y w':=by
 cases r with
 |cons r1 r2=>
  cases r2 with
  |cons r3 r4=>cases r4;exact⟨_,_,rfl,r1,r3⟩
theorem Z8s (hc:X.calm=true):Z3l X (.builtin "max") (fun xs H Q=>∃i j,xs = [.int i,.int j]/\Q (.int (if j>i then j else i)) H):=by
 intro pins s σ H xs us Q I r h
 obtain⟨i,j,rfl,q⟩:=h
 obtain⟨u,w',rfl,⟨t,rfl⟩,⟨t',rfl⟩⟩:=Zk1 r
 refine max_two_ints (I.ok.hd hc) fun h' tk k=>⟨_,H,I.kept k,?_,q⟩
 by_cases hj:j>i
 ·rw[if_pos hj,if_pos hj];exact⟨_,rfl⟩
 ·rw[if_neg hj,if_neg hj];exact⟨_,rfl⟩
theorem Z62:Z3l X (.type "int") (fun xs H Q=>(∃i,xs = [.int i]/\Q (.int i) H)∨∃k,xs = [.bl k]/\Q (.int (if k then 1 else 0)) H):=by
 intro pins s σ H xs us Q I r h
 rcases h with ⟨i,rfl,q⟩|⟨k,rfl,q⟩
 ·obtain⟨u,rfl,t,rfl⟩:=Z61 r
  exact call_int_int ⟨.int i,H,I,⟨_,rfl⟩,q⟩
 ·obtain⟨u,rfl,r1⟩:=Z61 r
  cases r1
  exact call_int_bool ⟨.int (if k then 1 else 0),H,I.tok _,⟨_,rfl⟩,q⟩
end
structure ObjM (h:Heap)(x dx C:Addr)(mA:Str->Option Value):Prop where
 obj:h.get? x=some (PySem.W.instObj C dx)
 ns:h.Ns1 dx mA
 ne:dx≠x
theorem Zcz {h:Heap}{dx:Addr}{mA:Str->Option Value}(n:h.Ns1 dx mA):∃od,h.get? dx=some od/\∀name,PySem.W.lookIn name od=some (mA name):=by
 obtain⟨o,es,ep,ho,hd,hk,_,hm⟩:=n
 refine⟨o,ho,fun name=>?_⟩
 have e:=hm name
 unfold nsFind findBy at e
 rw[<- Array.find?_toList] at e
 unfold PySem.W.lookIn
 rw[hd]
 dsimp only
 split
 ·rename_i y q
  rw[q] at e
  exact congrArg some e
 ·rename_i q
  rw[q] at e
  have a:es.toList.any (·.refKey)=false:=by
   rw[List.any_eq_false]
   intro y hy
   obtain⟨z,t,hkey⟩:=hk y (Array.mem_toList_iff.mp hy)
   simp [DictEntry.refKey,hkey]
  have a':¬es.toList.any (·.refKey)=true:=by rw[a];exact Bool.false_ne_true
  rw[if_neg a']
  exact congrArg some e
theorem ObjM.look {h:Heap}{x dx C:Addr}{mA:Str->Option Value}(I:ObjM h x dx C mA):∃od,PySem.W.InstAt h x (PySem.W.instObj C dx) C (some od)/\∀name,PySem.W.lookIn name od=some (mA name):=
 let ⟨od,ho,hl⟩:=Zcz I.ns
 ⟨od,⟨I.obj,rfl,rfl,ho⟩,hl⟩
theorem RelO.some_of {v:V}{o:Option Value}(r:RelO (some v) o):∃u,o=some u/\RelV v u:=by
 cases o with
 |none=>exact(show False from r).elim
 |some u=>exact⟨u,rfl,r⟩
theorem RelO.none_of {o:Option Value}(r:RelO none o):o=none:=by
 cases o with
 |none=>rfl
 |some u=>exact(show False from r).elim
section
variable {P:Program}{w:World}{H H':Hp}{h h':Heap}{a C dx:Addr}{fs fs':List (Str×V)}
theorem Zi1 (hok:HOk P w H h)(e:H a=some (.ins C dx fs)):∃mA,ObjM h a dx C mA/\(∀f,RelO (fs.lookup f) (mA f))/\PySem.Within mA (fs.map (·.1))/\fs.length<=1000/\H dx=some (.own a):=by
 obtain⟨d,z,ne,ob,mA,n,r,q⟩:=(show ObjOk P w H h a (.ins C dx fs) from hok a _ e)
 exact⟨mA,⟨ob,n,ne⟩,r,q,z,d⟩
end
structure Cls (K:PySem.W.Frag)(C:Addr):Prop where
 pg:PySem.W.plainGet K C Str.empty=true
 hd:PySem.W.hasDictIn K C=true
 po:PySem.W.plainOver K C=true
 sa:PySem.W.findIn K (.ref C) "__setattr__"=some (some (.builtin "object.__setattr__"))
theorem Cls.get {K:PySem.W.Frag}{C:Addr}(c:Cls K C)(f:Str):PySem.W.plainGet K C f=true:=c.pg
section
variable {X:Cx}{pins:List (Addr×Obj)}{σ:St}{H:Hp}{s:Shared}{A:Around}{E:Value->Shared->Prop}{Q:Value->Shared->Prop}{c:Value}{b:Bool}
inductive TyOf (K:PySem.W.Frag)(H:Hp):V->Value->Prop where
 |non:TyOf K H .non (.type "NoneType")
 |bl (x:Bool):TyOf K H (.bl x) (.type "bool")
 |int (i:Int):TyOf K H (.int i) (.type "int")
 |str (x:Str):TyOf K H (.str x) (.type "str")
 |flt (x:UInt64):TyOf K H (.flt x) (.type "float")
 |lst {a:Addr} {xs:List V} (e:H a=some (.lst xs)):TyOf K H (.ref a) (.type "list")
 |frz {a:Addr} {o:Obj} {xs:List V} (e:H a=some (.frz o (.lst xs))):TyOf K H (.ref a) (.type "list")
 |tup {a:Addr} {xs:List V} (e:H a=some (.tup xs)):TyOf K H (.ref a) (.type "tuple")
 |dK {a:Addr} {kvs:List (Key×V)} (e:H a=some (.dK kvs)):TyOf K H (.ref a) (.type "dict")
 |dT {a:Addr} {kvs:List (List Key×V)} (e:H a=some (.dT kvs)):TyOf K H (.ref a) (.type "dict")
 |ins {a C dx:Addr} {fs:List (Str×V)} (e:H a=some (.ins C dx fs)) (cl:Cls K C) (ha:PySem.W.findIn K (.ref C) "__class__"=some (some (.builtin "object.__class__")))
   (hn:PySem.W.specialIn K (.builtin "object.__class__") "__get__"=some (some (.builtin "getset_descriptor.__get__"))) (htk:PySem.W.takesIn K (.builtin "object.__class__")=some true)
   (hm:PySem.W.mroIn K C (.type "object")=some true):TyOf K H (.ref a) (.ref C)
theorem Zd0 {x:V}{u t:Value}(I:Inv X pins σ H s)(rx:RelV x u)(ty:TyOf X.K H x t)(e:PySem.W.kitOne X.K t c=some b)(h:∀tk,Q (.bool b) { s with toks:=tk }):
  wpAny (model X.prog X.w) A (call (.builtin "isinstance") [u,c]) Q E s:=by
 cases ty with
 |non=>cases (show u=Value.none from rx);exact PySem.W.kia_one PySem.W.kitx_none I.kIn True.intro e (fun z=>nomatch z) h
 |bl y=>cases (show u=Value.bool y from rx);exact PySem.W.kia_one PySem.W.kitx_bool I.kIn True.intro e (fun z=>nomatch z) h
 |int i=>obtain⟨t,q⟩:=(show ∃t,u=Value.int i t from rx);cases q;exact PySem.W.kia_one PySem.W.kitx_int I.kIn True.intro e (fun z=>nomatch z) h
 |str y=>obtain⟨t,q⟩:=(show ∃t,u=Value.str y t from rx);cases q;exact PySem.W.kia_one PySem.W.kitx_str I.kIn True.intro e (fun z=>nomatch z) h
 |flt y=>obtain⟨t,q⟩:=(show ∃t,u=Value.float y t from rx);cases q;exact PySem.W.kia_one PySem.W.kitx_float I.kIn True.intro e (fun z=>nomatch z) h
 | @lst a xs ea=>
  cases (show u=Value.ref a from rx)
  obtain⟨_,_,n,_,h1⟩:=(show ObjOk X.prog X.w H s.heap a (.lst xs) from I.hok a _ ea)
  exact PySem.W.kia_one PySem.W.kitx_list I.kIn ⟨_,h1,rfl⟩ e (fun z=>nomatch z) h
 | @frz a ob xs ea=>
  cases (show u=Value.ref a from rx)
  obtain⟨_,_,_,n,_,h1⟩:=(show ObjOk X.prog X.w H s.heap a (.frz ob (.lst xs)) from I.hok a _ ea)
  exact PySem.W.kia_one PySem.W.kitx_list I.kIn ⟨_,h1,rfl⟩ e (fun z=>nomatch z) h
 | @tup a xs ea=>
  cases (show u=Value.ref a from rx)
  obtain⟨_,_,_,p⟩:=(show ObjOk X.prog X.w H s.heap a (.tup xs) from I.hok a _ ea)
  obtain⟨o,h1,h2,_⟩:=p
  exact PySem.W.kia_one PySem.W.kitx_tuple I.kIn ⟨o,h1,h2⟩ e (fun z=>nomatch z) h
 | @dK a kvs ea=>
  cases (show u=Value.ref a from rx)
  obtain⟨_,_,vs,_,p⟩:=(show ObjOk X.prog X.w H s.heap a (.dK kvs) from I.hok a _ ea)
  obtain⟨o,es,ep,h1,h2,_⟩:=p
  exact PySem.W.kia_one PySem.W.kitx_dict I.kIn ⟨o,h1,h2.1⟩ e (fun z=>nomatch z) h
 | @dT a kvs ea=>
  cases (show u=Value.ref a from rx)
  obtain⟨_,_,xs,_,o,es,ep,h1,h2,_⟩:=(show ObjOk X.prog X.w H s.heap a (.dT kvs) from I.hok a _ ea)
  exact PySem.W.kia_one PySem.W.kitx_dict I.kIn ⟨o,h1,h2.1⟩ e (fun z=>nomatch z) h
 | @ins a C dx fs ea cl ha hn htk hm=>
  cases (show u=Value.ref a from rx)
  obtain⟨mA,O,_⟩:=Zi1 I.hok ea
  obtain⟨od,J,_⟩:=O.look
  exact PySem.W.kia_one (PySem.W.kitx_own (cl.get _) cl.hd ha hn htk hm) I.kIn J e (fun z=>nomatch z) h
end
structure Room (k:Nat)(A:Around):Prop where
 hd:A.handled=none
 gd:A.guards=some []
 dp:A.depth+3*k+5<recursionLimit
 un:A.units+16*k+200<cLine
theorem Room.mono {j k:Nat}{A:Around}(r:Room k A)(h:j<=k):Room j A:=⟨r.hd,r.gd,by have:=r.dp;omega,by have:=r.un;omega⟩
theorem Room.deeper {k:Nat}{A:Around}(r:Room (k+1) A)(env:Env):Room k (A.deeper env):=
 ⟨r.hd,r.gd,by have:=r.dp;show A.depth+1+3*k+5<_;omega,by have:=r.un;show A.units+3+16*k+200<_;omega⟩
theorem Room.depth {k:Nat}{A:Around}(r:Room k A):A.depth<recursionLimit:=by have:=r.dp;omega
theorem Room.units {k:Nat}{A:Around}(r:Room k A):A.units+64<cLine:=by have:=r.un;omega
theorem Room.units0 {k:Nat}{A:Around}(r:Room k A):A.units<cLine:=by have:=r.un;omega
def tNil:TA:=fun _ H Q=>Q [] H
def Zd1 (ta:TE)(tr:TA):TA:=fun σ H Q=>ta σ H fun x H1=>tr σ H1 fun xs H2=>Q (x::xs) H2
section
variable {X:Cx}{e:Expr}{es:List Expr}{te:TE}{t:TA}{pos:Pos}
theorem Z01:PA X [] tNil:=fun _ _ _ _ H Q I h=>Calls.spliced_nil ⟨[],H,I,.nil,h⟩
theorem Z08 (ha:PE X e te)(hr:PA X es t)(hs:starEach (e::es) X.env=(false,eval e X.env)::starEach es X.env:=by rfl):PA X (e::es) (Zd1 te t):=by
 intro pos pins s σ H Q I h
 rw[hs]
 show wpAny _ _ (spliced ((false,eval e X.env)::backTo pos (starEach es X.env))) _ _ s
 refine Calls.spliced_cons (thn (ha pins s σ H _ I h) fun u s1 ⟨x,H1,I1,r1,q1⟩=>?_)
 exact thn (hr pos pins s1 σ H1 _ I1 q1) fun us s2 ⟨xs,H2,I2,r2,q2⟩=>⟨x::xs,H2,I2,.cons r1 r2,q2⟩
def Zni (t:TA):TE:=fun σ H Q=>t σ H fun xs H1=>xs.length<=sizeLine/\∀p,H1 p=none->Q (.ref p) (upd H1 p (.tup xs))
def Zmy (t:TA):TE:=fun σ H Q=>t σ H fun xs H1=>xs.length<=sizeLine/\∀p,H1 p=none->Q (.ref p) (upd H1 p (.lst xs))
theorem Z12 {x1}(h:PA X es t):PE X (.Tuple es x1 pos) (Zni t):=by
 intro pins s σ H Q I hq
 refine wpAny_Tuple_spliced (thn (h pos pins s σ H _ I hq) fun us s1 ⟨xs,H1,I1,r,z,q⟩=>⟨by rw[<- r.length];exact z,?_⟩)
 have hf:H1 s1.heap.objs.size=none:=I1.hok.fresh (Nat.le_refl _)
 refine⟨.ref s1.heap.objs.size,upd H1 s1.heap.objs.size (.tup xs),I1.laid (t':=s1.toks) (fun b u e=>Heap.get?_push_of_some _ e) (Nat.le_refl _) ?_,rfl,q _ hf⟩
 exact⟨z,us,r,⟨_,Heap.get?_push_size _ rfl,rfl,_,rfl⟩⟩
theorem Z0y (h:PA X es t):PE X (.List es pos) (Zmy t):=by
 intro pins s σ H Q I hq
 refine wpAny_List_spliced (thn (h pos pins s σ H _ I hq) fun us s1 ⟨xs,H1,I1,r,z,q⟩=>⟨by rw[<- r.length];exact z,?_⟩)
 have hf:H1 s1.heap.objs.size=none:=I1.hok.fresh (Nat.le_refl _)
 refine⟨.ref s1.heap.objs.size,upd H1 s1.heap.objs.size (.lst xs),I1.laid (t':=s1.toks) (fun b u e=>Heap.get?_push_of_some _ e) (Nat.le_refl _) ?_,rfl,q _ hf⟩
 exact⟨z,us,0,r,Heap.get?_push_size _ rfl⟩
end
abbrev Sp:=List V->Hp->VK->XK->Prop
abbrev CXT:=List Env->Hp->Shared->XK->Value->Shared->Prop
structure Env0 (P:Program)(w:World)(K:PySem.W.Frag)(mg:Str->Option Value)(base:Heap)(A:Around)(outer:List Env)(s:Shared)(H:Hp):Prop where
 frames:A.frames=some outer
 mod:Mod K mg base
 bs:∀b o,base.get? b=some o->s.heap.get? b=some o/\H b=none
 bsz:base.objs.size<=s.heap.objs.size
 funs:s.heap.FunFrames base outer
 frf:∀b∈frs outer,H b=none
 hok:HOk P w H s.heap
 bare:AllBare s.gens
def CE (outer:List Env)(P:Program)(w:World)(H:Hp)(s:Shared)(Q:VK)(u:Value)(s':Shared):Prop:=
 ∃v H',s'.os=s.os/\AllBare s'.gens/\Un (frs outer) [] H H' s.heap s'.heap/\HOk P w H' s'.heap/\RelV v u/\Q v H'
def CR (CX:CXT)(outer:List Env)(P:Program)(w:World)(H:Hp)(s:Shared)(Q:VK)(E:XK)(r:Result)(s':Shared):Prop:=
 match r with
 | .ok (.ret u)=>CE outer P w H s Q u s'
 | .ok _=>False
 | .error e=>CX outer H s E e s'
structure FnOk (P:Program)(w:World)(K:PySem.W.Frag)(mg:Str->Option Value)(base:Heap)(CX:CXT)(k:Nat)(f:Addr)(fd:FuncData)(ps:List Str)(sp:Sp):Prop where
 len:∀vs H Q E,sp vs H Q E->vs.length=ps.length
 run:∀(A:Around) (outer:List Env) (s:Shared) (H:Hp) (args:Args) (us:List Value) (vs:List V) (Q:VK) (E:XK),Room k A->Env0 P w K mg base A outer s H->BindsTo s fd args (ps.zip us)->Vals vs us->sp vs H Q E →
  codeAny (model P w) A (.call (.ref f) args) (CR CX outer P w H s Q E) s
section
variable {X:Cx}{pins:List (Addr×Obj)}{σ:St}{H:Hp}{s s':Shared}
theorem Inv.env0 (I:Inv X pins σ H s):Env0 X.prog X.w X.K X.mg X.base X.A X.stack s H:=
 ⟨I.ok.frames,I.ok.mod,I.bs,Nat.le_trans I.ok.bsz I.sz,I.stack,I.stkFree,I.hok,I.bare⟩
theorem Inv.after {Q:VK}{u:Value}(I:Inv X pins σ H s)(h:CE X.stack X.prog X.w H s Q u s'):EP X pins σ Q u s':=by
 obtain⟨v,H',os,bare,un,hok,r,q⟩:=h
 obtain⟨hh,g,d,t,os'⟩:=s'
 obtain rfl:os'=s.os:=os
 exact⟨v,H',I.call (h':=hh) (g':=g) (d':=d) (t':=t) (ch:=[]) un hok bare (fun b z=>absurd z (by simp)),r,q⟩
end
def Zls (sp:Sp)(dvs:List V)(E:XK)(t:TA):TE:=fun σ H Q=>t σ H fun vs H1=>sp (vs++dvs) H1 Q E
def Binds (K:PySem.W.Frag)(fd:FuncData)(ps:List Str)(ds:List Value):Prop:=
 ∀(s:Shared) (us:List Value),K.In s.heap->(us++ds).length=ps.length->BindsTo s fd ⟨us,[]⟩ (ps.zip (us++ds))
theorem Binds.all {K:PySem.W.Frag}{fd:FuncData}{ps:List Str}(h:∀us:List Value,us.length=ps.length->bindArgs fd ⟨us,[]⟩=pure (ps.zip us)):Binds K fd ps []:=fun s us _ hl=>by
 rw[append_nil] at hl ⊢
 exact .of_eq (h us hl)
def Zd2 (CX:CXT)(X:Cx)(E:XK):Prop:=∀(pins:List (Addr×Obj)) (σ:St) (H:Hp) (s:Shared) (e:Value) (s':Shared),Inv X pins σ H s->CX X.stack H s E e s'->X.xe e s'
section
variable {X:Cx}{CX:CXT}{k:Nat}{f C:Addr}{fd:FuncData}{ps:List Str}{sp:Sp}{dvs:List V}{ds:List Value}{E:XK}{x m:Str}{p pos apos:Pos}{e o:Expr}{es:List Expr}{ta:TE}{t:TA}
theorem Zk2 {pins:List (Addr×Obj)}{σ:St}{H:Hp}{s:Shared}{Q:VK}{us:List Value}{vs:List V}(F:FnOk X.prog X.w X.K X.mg X.base CX k f fd ps sp)(hr:Room k X.A)(hb:Binds X.K fd ps ds)(hd:Vals dvs ds)(hx:Zd2 CX X E)
  (I:Inv X pins σ H s) (r:Vals vs us) (h:sp (vs++dvs) H Q E):wpAny (model X.prog X.w) X.A (call (.ref f) us) (EP X pins σ Q) X.xe s:=by
 have r2:Vals (vs++dvs) (us++ds):=r.append hd
 have hl:(us++ds).length=ps.length:=by rw[<- r2.length];exact F.len _ _ _ _ h
 refine wpAny_call (codeAny_mono (F.run X.A X.stack s H ⟨us,[]⟩ (us++ds) (vs++dvs) Q E hr I.env0 (hb s us I.kIn hl) r2 h) fun r s' hq=>?_)
 cases r with
 |error e=>exact hx pins σ H s e s' I hq
 |ok fl=>
  cases fl with
  |ret u=>exact I.after hq
  |next=>exact False.elim hq
  |brk=>exact False.elim hq
  |cont=>exact False.elim hq
theorem Z05 (F:FnOk X.prog X.w X.K X.mg X.base CX k f fd ps sp)(hr:Room k X.A)(hg:Gl X x)(hm:X.mg x=some (.ref f))(hk:PySem.W.keepIn X.K (.ref f)=true)(hb:Binds X.K fd ps ds)(hd:Vals dvs ds)(hx:Zd2 CX X E)
  (ha:PA X (e::es) t) (hdb:(x==("__debug__":Str))=false:=by decide) (he:starEach (e::es) X.env=(false,eval e X.env)::starEach es X.env:=by rfl) (hpl:(backTo pos (starEach es X.env)).any (·.1)=false:=by rfl):
  PE X (.Call (.Name x p) (e::es) [] pos) (Zls sp dvs E t):=by
 intro pins s σ H Q I h
 refine wpAny_Call_Name_kw (Zct I hg hm ?_ hdb)
 refine PySem.W.callWith_K (h₀:=X.base) I.ok.mod.kin hk (thn (ha pos pins s σ H _ I h) fun us s1 ⟨vs,H1,I1,r,q⟩=>⟨I1.kIn,?_⟩) he hpl
 exact Zk2 F hr hb hd hx I1 r q
end
structure FnScope (N P:List Str)(sc:Scope):Prop where
 kind:sc.kind = .function
 co:sc.isCoroutine=false
 gen:sc.isGenerator=false
 nd:N.Nodup
 pre:N.take P.length=P
 par:∀x∈P,sc.names.lookup x=some .local∨sc.names.lookup x=some .cell
 nofree:∀y∈sc.names,y.2 ≠ .free
theorem Z8t {kindOf:Str->Option NameKind}{x:Str}:∀{binds:List (Str×Value)} {m:Str->Option Value},(∀v,(x,v)∉binds)->bindL kindOf binds m x=m x
 |[],_,_=>rfl
 | (n,v)::r,m,h=>by
  unfold bindL
  rw[Z8t fun w hw=>h w (mem_cons_of_mem _ hw)]
  split
  ·have:x≠n:=by rintro rfl;exact h v mem_cons_self
   simp [this]
  ·rfl
theorem Z8u {kindOf:Str->Option NameKind}{x:Str}:∀{binds:List (Str×Value)} {m:Str->Option Value},(∀v,(x,v)∉binds)->bindC kindOf binds m x=m x
 |[],_,_=>rfl
 | (n,v)::r,m,h=>by
  unfold bindC
  rw[Z8u fun w hw=>h w (mem_cons_of_mem _ hw)]
  split
  ·rfl
  ·have:x≠n:=by rintro rfl;exact h v mem_cons_self
   simp [this]
theorem Z8v {kindOf:Str->Option NameKind}{x:Str}{v:Value}:∀{P:List Str} {vs:List Value} {i:Nat} {m:Str->Option Value},P.Nodup->P[i]? = some x->vs[i]? = some v->kindOf x=some .local →
  bindL kindOf (P.zip vs) m x=some v
 |[],_,_,_,_,h,_,_=>by simp at h
 |_::_,[],_,_,_,_,h,_=>by simp at h
 |p::P,w::vs,0,m,nd,h1,h2,hk=>by
  simp at h1 h2;subst h1;subst h2
  show bindL kindOf ((p,w)::P.zip vs) m p=_
  unfold bindL
  rw[Z8t fun v hv=>(nodup_cons.mp nd).1 (of_mem_zip hv).1,if_pos hk]
  simp
 |p::P,w::vs,i+1,m,nd,h1,h2,hk=>by
  show bindL kindOf ((p,w)::P.zip vs) m x=_
  unfold bindL
  exact Z8v (i:=i) (nodup_cons.mp nd).2 (by simpa using h1) (by simpa using h2) hk
theorem Z8w {kindOf:Str->Option NameKind}{x:Str}{v:Value}:∀{P:List Str} {vs:List Value} {i:Nat} {m:Str->Option Value},P.Nodup->P[i]? = some x->vs[i]? = some v->kindOf x≠some .local →
  bindC kindOf (P.zip vs) m x=some v
 |[],_,_,_,_,h,_,_=>by simp at h
 |_::_,[],_,_,_,_,h,_=>by simp at h
 |p::P,w::vs,0,m,nd,h1,h2,hk=>by
  simp at h1 h2;subst h1;subst h2
  show bindC kindOf ((p,w)::P.zip vs) m p=_
  unfold bindC
  rw[Z8u fun v hv=>(nodup_cons.mp nd).1 (of_mem_zip hv).1,if_neg hk]
  simp
 |p::P,w::vs,i+1,m,nd,h1,h2,hk=>by
  show bindC kindOf ((p,w)::P.zip vs) m x=_
  unfold bindC
  exact Z8w (i:=i) (nodup_cons.mp nd).2 (by simpa using h1) (by simpa using h2) hk
def Z8x (N:List Str)(vs:List V):St:=vs.map some++List.replicate (N.length-vs.length) none
def Zfi (CX:CXT)(P:Program)(w:World)(K:PySem.W.Frag)(mg:Str->Option Value)(base:Heap)(N:List Str)(qual:Str)(scope:Scope)(f:Addr)(cd:Value)(A:Around)(outer:List Env)(s:Shared)(H:Hp)(E:XK):Cx where
 prog:=P
 w:=w
 K:=K
 mg:=mg
 base:=base
 A:=A.deeper (envOfC qual scope s.heap.objs.size f cd)
 N:=N
 s₀:=s
 H₀:=H
 env:=envOfC qual scope s.heap.objs.size f cd
 outer:=outer
 stack:=envOfC qual scope s.heap.objs.size f cd::outer
 ex:=[]
 calm:=true
 fn:=fun _=>true
 pn:=[]
 xe:=fun e s'=>wpAny (model P w) (A.deeper (envOfC qual scope s.heap.objs.size f cd)) (leaving (envOfC qual scope s.heap.objs.size f cd) e) (fun _ s''=>CX outer H s E e s'') (fun e' s''=>CX outer H s E e' s'') s'
theorem Zam {sc:Scope}{n:Nat}{x:Str}(h:sc.names.lookup x=some .cell):∃c,(cellsFrom n sc.names []).lookup x=some c:=by
 have q:=PySem.W.cellsFrom_some sc.names n [] (.inl h)
 exact Option.isSome_iff_exists.mp q
theorem Zd3 {CX:CXT}{P:Program}{w:World}{K:PySem.W.Frag}{mg:Str->Option Value}{base:Heap}{N ps:List Str}{qual:Str}{scope:Scope}{f:Addr}{cd:Value}{A:Around}{outer:List Env}{s s1:Shared}{H:Hp}{E:XK}{us:List Value}{vs:List V}
  (S:FnScope N ps scope) (hd:A.handled=none) (e0:Env0 P w K mg base A outer s H) (hl:vs.length=ps.length) (r:Vals vs us)
  (x:InCallC s s.heap.objs.size (bindL (envOfC qual scope s.heap.objs.size f cd).kindOf (ps.zip us) fun _=>none) (cellsFrom (s.heap.objs.size+1) scope.names []) (bindC (envOfC qual scope s.heap.objs.size f cd).kindOf (ps.zip us) fun _=>none) s1):
  Inv (Zfi CX P w K mg base N qual scope f cd A outer s H E) [] (Z8x N vs) H s1:=by
 have hpl:ps.length<=N.length:=by have:=congrArg List.length S.pre;rw[length_take] at this;omega
 obtain⟨h1,tk,rfl,hk⟩:=x.done
 have noA:∀b:Addr,b∉(Zfi CX P w K mg base N qual scope f cd A outer s H E).ex:=fun b z=>absurd (show b∈([]:List Addr) from z) (by simp)
 refine⟨⟨e0.mod,S.kind,rfl,rfl,Nat.le_refl _,fun y z c h1 h2=>?_,fun y hy=>?_,fun y c _ h=>?_,fun _=>hd,Around.frames_deeper e0.frames,.inr ⟨rfl,rfl⟩,fun b z=>absurd z (noA b),e0.bs,e0.bsz,fun b _ _=>noA b,fun b z=>absurd z (noA b),e0.funs,e0.frf⟩,
  rfl,e0.bare,Un.kept hk,⟨_,x.toInCall.ns,fun i y v h1 h2 h3=>?_⟩,fun y c h=>⟨_,x.cell y c h⟩,e0.hok.fresh (Nat.le_refl _),fun y c h=>?_,fun p hp=>absurd (show p∈([]:List (Addr×Obj)) from hp) (by simp),e0.hok.kept hk,?_⟩
 ·exact name_of_addr x.apart (PySem.mem_of_lookup h1) (PySem.mem_of_lookup h2)
 ·have hy:scope.names.lookup y=some .cell∨scope.names.lookup y=some .free:=hy
  rcases hy with hy|hy
  ·exact Zam hy
  ·exact absurd rfl (S.nofree _ (PySem.mem_of_lookup hy))
 ·exact Nat.le_of_lt (x.above y c (PySem.mem_of_lookup h))
 ·have hi:i<vs.length:=by
   unfold Z8x at h2
   by_cases hi:i<vs.length
   ·exact hi
   ·rw[List.getElem?_append_right (by simpa using hi)] at h2
    rw[List.getElem?_replicate] at h2
    split at h2 <;> cases h2
  have ha:vs[i]? = some v:=by
   unfold Z8x at h2
   rw[List.getElem?_append_left (by simpa using hi),List.getElem?_map] at h2
   cases e:vs[i]? with
   |none=>rw[e] at h2;cases h2
   |some a=>rw[e] at h2;cases h2;rfl
  obtain⟨u,hu,rv⟩:=r.get ha
  have hp:ps[i]? = some y:=by
   rw[<- S.pre,List.getElem?_take_of_lt (by omega)];exact h1
  have ndP:ps.Nodup:=by rw[<- S.pre];exact S.nd.sublist (List.take_sublist _ _)
  refine⟨u,rv,?_⟩
  rcases S.par y (mem_of_getElem? hp) with k|k
  ·exact .inl ⟨k,Z8v ndP hp hu k⟩
  ·obtain⟨c,e⟩:=Zam (n:=s.heap.objs.size+1) k
   refine .inr ⟨.inl k,c,e,?_⟩
   have q:=x.cell y c e
   rw[Z8w ndP hp hu (by show scope.names.lookup y≠_;rw[k];decide)] at q
   exact q
 ·exact e0.hok.fresh (Nat.le_of_lt (x.above y c (PySem.mem_of_lookup h)))
 ·unfold Z8x
  show _=N.length
  rw[length_append,length_map,List.length_replicate]
  omega
theorem Zlt {CX:CXT}{P:Program}{w:World}{K:PySem.W.Frag}{mg:Str->Option Value}{base:Heap}{k:Nat}{f:Addr}{name qual:Str}{params:Arguments}{body:List Stmt}{scope:Scope}{dV kV doc pm cdv ct oc:Value}{an od:Option Addr}
  {osl:Array (Option Value)} {N ps:List Str} {sp:Sp} (lk:K.lookup f=some ⟨oc,od,.func (PySem.W.fnOf name qual params body scope dV kV doc pm an cdv ct),osl⟩) (hcd:PySem.W.codeIn K cdv qual=true) (S:FnScope N ps scope)
  (len:∀vs H Q E,sp vs H Q E->vs.length=ps.length)
  (hbody:∀(A:Around) (outer:List Env) (s:Shared) (H:Hp) (vs:List V) (Q:VK) (E:XK),Room k (A.deeper (envOfC qual scope s.heap.objs.size f cdv))->sp vs H Q E →
   ∃t,PSs (Zfi CX P w K mg base N qual scope f cdv A outer s H E) body t/\t { nx:=fun _ H'=>Q .non H',rt:=Q } (Z8x N vs) H):
  FnOk P w K mg base CX (k+1) f (PySem.W.fnOf name qual params body scope dV kV doc pm an cdv ct) ps sp:=by
 refine⟨len,fun A outer s H args us vs Q E hr e0 hb r hsp=>?_⟩
 have hl:=len _ _ _ _ hsp
 have KX:K.In s.heap:=e0.mod.kin.keeps fun b o e=>(e0.bs b o e).1
 have lim:s.heap.NoLimit:=e0.mod.nolimit.keeps fun b o e=>(e0.bs b o e).1
 have hkind:∀y∈ps.zip us,scope.names.lookup y.1=some .local∨(scope.names.lookup y.1=some .cell/\((cellsFrom (s.heap.objs.size+1) scope.names []).lookup y.1).isSome=true):=fun⟨n,v⟩ hy=>by
  rcases S.par n (of_mem_zip hy).1 with q|q
  ·exact .inl q
  ·exact .inr ⟨q,PySem.W.cellsFrom_some _ _ _ (.inl q)⟩
 refine codeAny_call_function hr.depth (KX _ _ lk) rfl S.co S.gen rfl (PySem.W.codeRec_of KX hcd) (hb _ _ _ _ ?_)
 refine wpAny_newFunctionEnv_cells S.kind hkind fun env he s1 x=>?_
 subst he
 refine⟨lim.keeps x.toInCall.keep,codeAny_func ?_⟩
 obtain⟨t,ht,hq⟩:=hbody A outer s H vs Q E (hr.deeper _) hsp
 have I:Inv (Zfi CX P w K mg base N qual scope f cdv A outer s H E) [] (Z8x N vs) H s1:=Zd3 S hr.hd e0 hl r x
 refine wpAny_mono (ht [] s1 (Z8x N vs) H _ I hq) (fun fl s' hs=>?_) fun e s' hs=>hs
 have fin:∀{σ':St} {H':Hp} {v:V} {u:Value},Inv (Zfi CX P w K mg base N qual scope f cdv A outer s H E) [] σ' H' s'->RelV v u->Q v H'->CE outer P w H s Q u s':=
  fun {σ' H' v u} J rv q=>⟨v,H',J.os,J.bare,J.base,J.hok,rv,q⟩
 cases fl with
 |ret u=>
  obtain⟨v,σ',H',J,rv,q⟩:=hs
  exact fin J rv q
 |next=>
  obtain⟨σ',H',J,q⟩:=hs
  exact fin (v:=V.non) (u:=Value.none) J rfl q
 |brk=>
  obtain⟨_,_,_,q⟩:=hs
  exact False.elim q
 |cont=>
  obtain⟨_,_,_,q⟩:=hs
  exact False.elim q
section
variable {X:Cx}{x:Str}{p pos:Pos}{e:Expr}{es:List Expr}{t:TA}{id T:String}{r:List V->Hp->VK->Prop}
def tCB (r:List V->Hp->VK->Prop)(t:TA):TE:=fun σ H Q=>t σ H fun vs H1=>r vs H1 Q
theorem Z0n (hc:Z3l X (.builtin id) r)(hg:Gl X x)(hm:X.mg x=none)(hv:bootBuiltins x=some (.builtin id))(ha:PA X (e::es) t)(hn:x≠"__name__":=by decide)(hdb:(x==("__debug__":Str))=false:=by decide)
  (he:starEach (e::es) X.env=(false,eval e X.env)::starEach es X.env:=by rfl) (hpl:(backTo pos (starEach es X.env)).any (·.1)=false:=by rfl):PE X (.Call (.Name x p) (e::es) [] pos) (tCB r t):=by
 intro pins s σ H Q I h
 refine wpAny_Call_Name_kw (Z76 I hg hm hv ?_ hn hdb)
 exact PyProof.Rows.callWith_builtin1 (thn (ha pos pins s σ H _ I h) fun us s1 ⟨vs,H1,I1,r1,q1⟩=>hc pins s1 σ H1 vs us Q I1 r1 q1) he hpl
theorem Z14 (hc:Z3l X (.type T) r)(hg:Gl X x)(hm:X.mg x=none)(hv:bootBuiltins x=some (.type T))(ha:PA X (e::es) t)(hn:x≠"__name__":=by decide)(hdb:(x==("__debug__":Str))=false:=by decide)
  (he:starEach (e::es) X.env=(false,eval e X.env)::starEach es X.env:=by rfl) (hpl:(backTo pos (starEach es X.env)).any (·.1)=false:=by rfl):PE X (.Call (.Name x p) (e::es) [] pos) (tCB r t):=by
 intro pins s σ H Q I h
 refine wpAny_Call_Name_kw (Z76 I hg hm hv ?_ hn hdb)
 exact PyProof.Rows.callWith_type1 (thn (ha pos pins s σ H _ I h) fun us s1 ⟨vs,H1,I1,r1,q1⟩=>hc pins s1 σ H1 vs us Q I1 r1 q1) he hpl
end
end L2
namespace HT
open PySem PyProof.Rows
section
variable {prog:Program}{w:World}{A:Around}{E:Value->Shared->Prop}{s:Shared}
theorem cat_tup {t b:Addr}{vs ws:List Value}{Q:Value->Shared->Prop}(ht:IsTup s.heap t vs.toArray)(hb:IsTup s.heap b ws.toArray)(hv:vs ≠ [])
  (h1:ws = []->Q (.ref t) s) (h2:ws ≠ []->Q (.ref s.heap.objs.size) { s with heap:=s.heap.push { cls:=.type "tuple",data:=.seq (vs++ws).toArray } })
  (hsz:vs.length+ws.length<=sizeLine):wpAny (model prog w) A (binaryOp .Add (.ref t) (.ref b)) Q E s:=by
 obtain⟨⟨cls,dd,data,sl⟩,ho,hc,n,hd⟩:=id ht
 obtain⟨⟨cls2,dd2,data2,sl2⟩,ho2,hc2,n2,hd2⟩:=id hb
 simp only at hc hd hc2 hd2
 subst hc hd hc2 hd2
 have e:vs.toArray++ws.toArray=(vs++ws).toArray:=by simp
 by_cases hw:ws = []
 ·exact concat_meets ⟨_,ho,rfl⟩ ⟨_,ho2,rfl⟩ noFill_tuple_add seq_tuple_add PySem.F.slot_tuple_add PySem.F.entry_tuple_add (PySem.F.args_tuple_add_2 _ _)
   (tuple_addW1 t b vs.toArray ws.toArray n n2 dd dd2 sl sl2 (by simpa using hv) (by simp [hw])) ⟨ho,ho2,h1 hw⟩
 ·refine concat_meets ⟨_,ho,rfl⟩ ⟨_,ho2,rfl⟩ noFill_tuple_add seq_tuple_add PySem.F.slot_tuple_add PySem.F.entry_tuple_add (PySem.F.args_tuple_add_2 _ _)
   (tuple_addW2 t b vs.toArray ws.toArray n n2 dd dd2 sl sl2 (by simpa using hv) (by simpa using hw) (by rw[size_toArray,size_toArray];exact hsz)) ⟨ho,ho2,?_⟩
  rw[e]
  exact h2 hw
def sIx (n d:Nat):Option Int->Nat
 |none=>d
 |some v=>if v<0 then (v+(n:Int)).toNat else min v.toNat n
theorem Zk3 (n d:Nat)(hd:d<=n)(o:Option Int):sIx n d o<=n:=by
 cases o with
 |none=>exact hd
 |some v=>
  show(if v<0 then (v+(n:Int)).toNat else min v.toNat n)<=n
  by_cases hv:v<0
  ·rw[if_pos hv];omega
  ·rw[if_neg hv];exact Nat.min_le_right _ _
theorem Zd4 (v:Int)(n d:Nat):(if v<0 then max (v+(n:Int)) 0 else min v (n:Int))=((sIx n d (some v):Nat):Int):=by
 show(if v<0 then max (v+(n:Int)) 0 else min v (n:Int))=(((if v<0 then (v+(n:Int)).toNat else min v.toNat n):Nat):Int)
 by_cases hv:v<0
 ·simp only [if_pos hv];omega
 ·simp only [if_neg hv];omega
theorem Zbs (lo hi:Option Int)(n:Nat):Builtin.Slice.sliceAdjust lo hi 1 (n:Int)=(((sIx n 0 lo:Nat):Int),((sIx n n hi:Nat):Int)):=by
 have h1:¬ ((1:Int)<0):=by omega
 unfold Builtin.Slice.sliceAdjust
 simp only [h1,if_false]
 refine Prod.ext ?_ ?_
 ·cases lo with
  |none=>rfl
  |some v=>exact Zd4 v n 0
 ·cases hi with
  |none=>rfl
  |some v=>exact Zd4 v n n
theorem Zbt (i j:Nat):Builtin.Slice.slicePlaces (i:Int) (j:Int) 1=j-i:=by
 unfold Builtin.Slice.slicePlaces
 have h1:(1:Int)>0:=by omega
 simp only [h1,if_true,Int.ediv_one]
 split <;> omega
theorem Z78 {v:Value}{o:Option Int}{Q:Option Int->Shared->Prop}(p:IsPart v o)(h:Q o s):wpAny (model prog w) A (Builtin.Slice.slicePartIndex v) Q E s:=by
 cases p with
 |none=>exact slicePart_none h
 |int i t=>exact slicePart_int h
theorem Z3g {sl:Addr}{vl vu:Value}{lo hi:Option Int}{n:Nat}{Q:Int×Int×Nat->Shared->Prop}(hs:s.heap.IsSliceOf sl vl vu .none)(pl:IsPart vl lo)(pu:IsPart vu hi)
  (h:Q (((sIx n 0 lo:Nat):Int),1,sIx n n hi-sIx n 0 lo) s):wpAny (model prog w) A (Builtin.Slice.sliceApplied (.ref sl) (pure (n:Int))) Q E s:=by
 obtain⟨os,hos,hcs,hds⟩:=id hs
 unfold Builtin.Slice.sliceApplied Builtin.Slice.sliceFields
 refine wpAny_bind (wpAny_bind (wpAny_field hos hds (x:=vl) rfl (wpAny_bind (wpAny_field hos hds (x:=vu) rfl (wpAny_bind (wpAny_field hos hds (x:=.none) rfl (wpAny_pure ?_)))))))
 refine wpAny_bind (slicePart_none ?_)
 show wpAny _ _ (if ((1:Int)==0)=true then _ else _) _ _ s
 rw[if_neg (by decide)]
 refine wpAny_bind (Z78 pl (wpAny_bind (Z78 pu (wpAny_bind (wpAny_pure ?_)))))
 show wpAny _ _ (match Builtin.Slice.sliceAdjust lo hi 1 (n:Int) with | (lo,hi)=>pure (lo,(1:Int),Builtin.Slice.slicePlaces lo hi 1)) _ _ s
 rw[Zbs lo hi n]
 show wpAny _ _ (pure (((sIx n 0 lo:Nat):Int),(1:Int),Builtin.Slice.slicePlaces ((sIx n 0 lo:Nat):Int) ((sIx n n hi:Nat):Int) 1)) _ _ s
 rw[Zbt]
 exact wpAny_pure h
theorem Zfj (xs:Array Value)(i k:Nat):((List.range k).filterMap fun(m:Nat)=>xs[((i:Int)+(m:Int)*1).toNat]?).toArray=((xs.toList.drop i).take k).toArray:=by
 have e:(fun(m:Nat)=>xs[((i:Int)+(m:Int)*1).toNat]?)=fun m=>xs[i+m]? := by
  funext m
  have:((i:Int)+(m:Int)*1).toNat=i+m:=by omega
  rw[this]
 rw[e]
 have:=pick_run xs i k
 rw[List.filterMap_map] at this
 have e2:((fun x=>xs[x]?)∘fun x=>i+x)=fun m=>xs[i+m]? := rfl
 rw[e2] at this
 rw[this]
theorem getItem_tuple_cut {t sl:Addr}{items:Array Value}{vl vu:Value}{lo hi:Option Int}{Q:Value->Shared->Prop}(ht:IsTup s.heap t items)(hs:s.heap.IsSliceOf sl vl vu .none)(pl:IsPart vl lo)(pu:IsPart vu hi)
  (hw:¬ (sIx items.size 0 lo=0/\sIx items.size items.size hi=items.size))
  (h:Q (.ref s.heap.objs.size) { s with heap:=s.heap.push { cls:=.type "tuple",data:=.seq ((items.toList.drop (sIx items.size 0 lo)).take (sIx items.size items.size hi-sIx items.size 0 lo)).toArray } })
  (hsz:items.size<=sizeLine):wpAny (model prog w) A (getItem (.ref t) (.ref sl)) Q E s:=by
 have htake:sizeOk (.seq ((items.toList.drop (sIx items.size 0 lo)).take (sIx items.size items.size hi-sIx items.size 0 lo)).toArray):=by
  show((items.toList.drop (sIx items.size 0 lo)).take (sIx items.size items.size hi-sIx items.size 0 lo)).toArray.size<=sizeLine
  rw[size_toArray,length_take,length_drop,Array.length_toList]
  omega
 have hj:sIx items.size items.size hi<=items.size:=Zk3 _ _ (Nat.le_refl _) hi
 obtain⟨os,hos,hcs,hds⟩:=id hs
 have hTs:s.TypeIs (.ref sl) "slice":=⟨os,hos,hcs⟩
 unfold getItem
 try with_reducible refine wpAny_holding ?_
 first|refine wpAny_bind (wpAny_pure ?_)|skip
 refine wpAny_bind (wpAny_sequenceKey ht.typeIs (by decide) ?_)
 refine wpAny_bind (wpAny_callSpecial?_slot (name:=Str.ofString "__getitem__") ht.typeIs PyProof.Rows.slot_tuple_getitem
  (wpAny_call_entry PyProof.Rows.slot_tuple_getitem ht.typeIs entry_tuple_getitem ?_ (args_tuple_getitem _ _)))
 show wpAny _ _ (Builtin.Tuple.tupleItemsOf (.ref t) >>= _) _ _ s
 refine wpAny_bind (tupleItemsOf_ ht ?_)
 refine wpAny_bind (wpAny_typeOf hTs ?_)
 rw[if_pos (by decide)]
 refine wpAny_bind (Z3g hs pl pu ?_)
 have hno:¬ ((((sIx items.size 0 lo:Nat):Int)==0&&(1:Int)==1&&(sIx items.size items.size hi-sIx items.size 0 lo)==items.size)=true):=by
  intro q
  rw[Bool.and_eq_true,Bool.and_eq_true] at q
  have q1:((sIx items.size 0 lo:Nat):Int)=0:=eq_of_beq q.1.1
  have q2:sIx items.size items.size hi-sIx items.size 0 lo=items.size:=eq_of_beq q.2
  exact hw ⟨by omega,by omega⟩
 show wpAny _ _ (if (((sIx items.size 0 lo:Nat):Int)==0&&(1:Int)==1&&(sIx items.size items.size hi-sIx items.size 0 lo)==items.size)=true then _ else _) _ _ s
 rw[if_neg hno,Zfj]
 first
  |exact wpAny_bind (m:=Builtin.Tuple.tupleExact _) (wpAny_newObj_type (wpAny_pure ⟨_,rfl,wpAny_pure h⟩) htake)
  |exact wpAny_bind (m:=Builtin.Tuple.tupleExact _) (wpAny_newObj_type (wpAny_bind (wpAny_pure (wpAny_pure ⟨_,rfl,wpAny_pure h⟩))) htake)
  |exact wpAny_bind (wpAny_bind (m:=Builtin.Tuple.tupleExact _) (wpAny_newObj_type (wpAny_pure (wpAny_pure ⟨_,rfl,wpAny_pure h⟩)) htake))
  |exact wpAny_bind (wpAny_bind (m:=Builtin.Tuple.tupleExact _) (wpAny_newObj_type (wpAny_pure ⟨_,rfl,wpAny_pure h⟩) htake))
end
end HT
namespace L2
open PySem PySem.Spec PyProof.Rows
abbrev TO:=St->Hp->(Option Int->Hp->Prop)->Prop
def PO (X:Cx)(e:Option Expr)(t:TO):Prop:=
 ∀(pins:List (Addr×Obj)) (s:Shared) (σ:St) (H:Hp) (Q:Option Int->Hp->Prop),Inv X pins σ H s->t σ H Q →
  wpAny (model X.prog X.w) X.A (evalPart e X.env) (fun u s'=>∃o H',Inv X pins σ H' s'/\IsPart u o/\Q o H') X.xe s
def tNoPart:TO:=fun _ H Q=>Q none H
def Zlu (t:TE):TO:=fun σ H Q=>t σ H fun x H1=>∃i,x = .int i/\Q (some i) H1
theorem Zbu {ns:List Int}:∀{us:List Value},Vals (ns.map V.int) us->IntsAre us ns:=by
 induction ns with
 |nil=>intro us r;rw[map_nil] at r;cases r;exact .nil
 |cons n ns ih=>
  intro us r
  rw[map_cons] at r
  cases r with
  |cons r1 r2=>
   obtain⟨t,e⟩:=r1
   subst e
   exact .cons n t (ih r2)
section
variable {X:Cx}{e:Expr}{te:TE}{lo hi:Option Expr}{tl th:TO}{pos p2:Pos}
theorem Z1z:PO X none tNoPart:=by
 intro pins s σ H Q I h
 rw[evalPart_none]
 exact wpAny_pure ⟨none,H,I,.none,h⟩
theorem Z1m (h:PE X e te):PO X (some e) (Zlu te):=by
 intro pins s σ H Q I hw
 rw[evalPart_some]
 refine thn (h pins s σ H _ I hw) fun u s1 ⟨x,H1,I1,r1,q1⟩=>?_
 obtain⟨i,rfl,q⟩:=q1
 obtain⟨t,rfl⟩:=r1
 exact⟨some i,H1,I1,.int i t,q⟩
def SlR (X:Cx)(r:V->Option Int->Option Int->Hp->VK->Prop):Prop:=
 ∀(pins:List (Addr×Obj)) (s:Shared) (σ:St) (H:Hp) (x:V) (v vl vu:Value) (lo hi:Option Int) (sl:Addr) (Q:VK),Inv X pins σ H s->RelV x v->s.heap.IsSliceOf sl vl vu .none->IsPart vl lo->IsPart vu hi->r x lo hi H Q →
  ∃T id,typeLookup (.type T) "__getitem__"=pure (some (.builtin id))/\s.TypeIs v T/\wpAny (model X.prog X.w) X.A (getItem v (.ref sl)) (EP X pins σ Q) X.xe s
def tSl (r:V->Option Int->Option Int->Hp->VK->Prop)(te:TE)(tl th:TO):TE:=fun σ H Q=>te σ H fun x H1=>tl σ H1 fun l H2=>th σ H2 fun u H3=>r x l u H3 Q
theorem Z1e {r:V->Option Int->Option Int->Hp->VK->Prop}(hr:SlR X r)(he:PE X e te)(hl:PO X lo tl)(hu:PO X hi th):PE X (.Subscript e (.Slice lo hi none p2) pos) (tSl r te tl th):=by
 intro pins s σ H Q I h
 refine Subscript_ (thn (he pins s σ H _ I h) fun v s1 ⟨x,H1,I1,r1,q1⟩=>?_)
 refine wpAny_Slice (thn (hl pins s1 σ H1 _ I1 q1) fun vl s2 ⟨l,H2,I2,pl,q2⟩=>thn (hu pins s2 σ H2 _ I2 q2) fun vu s3 ⟨u,H3,I3,pu,q3⟩=>?_)
 rw[evalPart_none]
 refine wpAny_pure ?_
 have I4:Inv X pins σ H3 { s3 with heap:=s3.heap.push { cls:=.type "slice",data:=.fields #[vl,vu,.none] } }:=I3.kept (t':=s3.toks) fun b ob q=>Heap.get?_push_of_some _ q
 obtain⟨T,id,hT,ht,hg⟩:=hr pins { s3 with heap:=s3.heap.push { cls:=.type "slice",data:=.fields #[vl,vu,.none] } } σ H3 x v vl vu l u s3.heap.objs.size Q I4 r1 (Heap.IsSliceOf.new ..) pl pu q3
 show wpAny (model X.prog X.w) X.A (subscriptTail e (.Slice lo hi none p2) v (.ref s3.heap.objs.size)) (EP X pins σ Q) X.xe { s3 with heap:=s3.heap.push { cls:=.type "slice",data:=.fields #[vl,vu,.none] } }
 exact tail_any (ops:=[.ref s3.heap.objs.size,v]) ht hT hg (by with_unfolding_all rfl)
def Z79 (xs:List V)(lo hi:Option Int):List V:=(xs.drop (HT.sIx xs.length 0 lo)).take (HT.sIx xs.length xs.length hi-HT.sIx xs.length 0 lo)
theorem Z4a (xs:List V)(lo hi:Option Int):(Z79 xs lo hi).length<=xs.length:=by
 unfold Z79
 rw[length_take,length_drop]
 omega
inductive rSlT (K:PySem.W.Frag)(x:V)(lo:Option Int)(hi:Option Int)(H:Hp)(Q:VK):Prop
 |mk (a xs:_) (_:x = .ref a) (_:SqT K H a xs) (_:¬ (HT.sIx xs.length 0 lo=0/\HT.sIx xs.length xs.length hi=xs.length)) (_:∀p,H p=none->Q (.ref p) (upd H p (.tup (Z79 xs lo hi)))):rSlT K x lo hi H Q
theorem Zk4:SlR X (rSlT X.K):=by
 intro pins s σ H x v vl vu lo hi sl Q I rx hs pl pu h
 obtain⟨a,xs,rfl,hx,hw,q⟩:=h
 cases rx
 obtain⟨its,r,ht,hz⟩:=I.tuple hx
 have hlen:its.toArray.size=xs.length:=by rw[size_toArray];exact r.length.symm
 refine⟨"tuple",_,PyProof.Rows.slot_tuple_getitem.lookup,ht.typeIs,?_⟩
 refine HT.getItem_tuple_cut ht hs pl pu (by rw[hlen];exact hw) ?_ (by rw[hlen];exact hz)
 rw[hlen]
 refine⟨.ref s.heap.objs.size,_,I.laid (t':=s.toks) (o:=.tup (Z79 xs lo hi)) (fun b ob q=>Heap.get?_push_of_some _ q) (Nat.le_refl _) ?_,rfl,q _ (I.hok.fresh (Nat.le_refl _))⟩
 exact⟨Nat.le_trans (Z4a xs lo hi) hz,_,(r.drop (HT.sIx xs.length 0 lo)).take (HT.sIx xs.length xs.length hi-HT.sIx xs.length 0 lo),IsTup.new _ _⟩
inductive rCatT (K:PySem.W.Frag)(x:V)(y:V)(H:Hp)(Q:VK):Prop
 |mk (a b xs ys:_) (_:x = .ref a) (_:y = .ref b) (_:SqT K H a xs) (_:SqT K H b ys) (_:xs ≠ []) (_:xs.length+ys.length<=sizeLine) (_:(ys = []->Q (.ref a) H)) (_:(ys ≠ []->∀p,H p=none->Q (.ref p) (upd H p (.tup (xs++ys))))):rCatT K x y H Q
theorem Vals.nil_iff {xs:List V}{us:List Value}(r:Vals xs us):us = []↔xs = []:=by
 cases r with
 |nil=>simp
 |cons _ _=>simp
theorem Zi2:OpR X (binaryOp .Add) (rCatT X.K):=by
 intro pins s σ H x y v u Q I rx ry h
 obtain⟨a,b,xs,ys,rfl,rfl,ha,hb,hx,hz,q1,q2⟩:=h
 cases rx
 cases ry
 obtain⟨its,r1,p1,_⟩:=I.tuple ha
 obtain⟨its2,r2,p2,_⟩:=I.tuple hb
 refine HT.cat_tup p1 p2 (fun z=>hx (r1.nil_iff.mp z)) (fun z=>⟨.ref a,H,I,rfl,q1 (r2.nil_iff.mp z)⟩) (fun z=>?_) (by rw[<- r1.length,<- r2.length];exact hz)
 refine⟨.ref s.heap.objs.size,_,I.laid (t':=s.toks) (o:=.tup (xs++ys)) (fun b ob q=>Heap.get?_push_of_some _ q) (Nat.le_refl _) ?_,rfl,q2 (fun w=>z (r2.nil_iff.mpr w)) _ (I.hok.fresh (Nat.le_refl _))⟩
 exact⟨by rw[length_append];exact hz,_,r1.append r2,IsTup.new _ _⟩
end
def ixN (n:Nat)(i:Int):Option Nat:=if 0<=i then (if i<n then some i.toNat else none) else if -(n:Int)<=i then some (i+n).toNat else none
def atI {α : Type}(xs:List α)(i:Int):Option α := (ixN xs.length i).bind fun j=>xs[j]?
theorem Zd5 {n:Nat}{i:Int}{j:Nat}(h:ixN n i=some j):seqIndex? i n=some j/\j<n /\ -(n:Int)<=i/\i<n:=by
 unfold ixN at h
 by_cases h0:0<=i
 ·rw[if_pos h0] at h
  by_cases h1:i<n
  ·rw[if_pos h1] at h
   have e:i.toNat=j:=Option.some.inj h
   exact⟨by rw[seqIndex_of h0 h1,e],by omega,by omega,h1⟩
  ·rw[if_neg h1] at h;cases h
 ·rw[if_neg h0] at h
  by_cases h1 : -(n:Int)<=i
  ·rw[if_pos h1] at h
   have e:(i+n).toNat=j:=Option.some.inj h
   exact⟨by rw[seqIndex_neg (by omega) h1,e],by omega,h1,by omega⟩
  ·rw[if_neg h1] at h;cases h
theorem Z63 {α : Type}{xs:List α}{i:Int}{v : α}(h:atI xs i=some v):∃j,seqIndex? i xs.length=some j/\xs[j]? = some v/\j<xs.length /\ -(xs.length:Int)<=i/\i<xs.length:=by
 unfold atI at h
 cases e:ixN xs.length i with
 |none=>rw[e] at h;cases h
 |some j=>
  rw[e] at h
  obtain⟨h1,h2,h3,h4⟩:=Zd5 e
  exact⟨j,h1,h,h2,h3,h4⟩
theorem Z1r {α : Type}{xs:List α}{j:Nat}{v : α}(h:xs[j]? = some v):atI xs (j:Int)=some v:=by
 have hj:j<xs.length:=(List.getElem?_eq_some_iff.mp h).1
 have e:ixN xs.length (j:Int)=some j:=by
  unfold ixN
  rw[if_pos (by omega),if_pos (by omega)];simp
 unfold atI;rw[e];exact h
theorem Zfk {α : Type}(xs:List α)(v : α):atI (xs ++ [v]) (-1)=some v:=by
 have hl:(xs ++ [v]).length=xs.length+1:=by simp
 have e:ixN (xs ++ [v]).length (-1)=some xs.length:=by
  unfold ixN
  rw[hl,if_neg (by decide),if_pos (by omega)]
  congr 1
  omega
 unfold atI
 rw[e]
 show(xs ++ [v])[xs.length]? = some v
 simp
def Zi3 (b:Expr):Prop:=∀o i,subscripted b false o i=operate [o,i] (getItem o i)
def IxR (X:Cx)(r:R2):Prop:=
 ∀(value slice:Expr) (pins:List (Addr×Obj)) (s:Shared) (σ:St) (H:Hp) (x y:V) (v u:Value) (Q:VK),Inv X pins σ H s->RelV x v->RelV y u->r x y H Q →
  subscripted slice false v u=operate [v,u] (getItem v u)->wpAny (model X.prog X.w) X.A (subscriptTail value slice v u) (EP X pins σ Q) X.xe s
def MtR (X:Cx)(id:String)(r:V->List V->Hp->VK->Prop):Prop:=
 ∀(pins:List (Addr×Obj)) (s:Shared) (σ:St) (H:Hp) (x:V) (xs:List V) (v:Value) (us:List Value) (Q:VK),Inv X pins σ H s->RelV x v->Vals xs us->r x xs H Q →
  wpAny (model X.prog X.w) X.A (call (.builtin id) (v::us)) (EP X pins σ Q) X.xe s
section
variable {X:Cx}{a b:Expr}{ta tb:TE}{pos:Pos}
theorem Z0q {r:R2}(hr:IxR X r)(ha:PE X a ta)(hb:PE X b tb)(hs:Zi3 b):PE X (.Subscript a b pos) (tOp r ta tb):=by
 intro pins s σ H Q I h
 exact Subscript_ (Zlq ha hb I h fun v u s2 x y H2 I2 rx ry q=>hr a b pins s2 σ H2 x y v u Q I2 rx ry q (hs _ _))
inductive rIxL (K:PySem.W.Frag)(x:V)(y:V)(H:Hp)(Q:VK):Prop
 |mk (p xs i v:_) (_:x = .ref p) (_:y = .int i) (_:SqL K H p xs) (_:atI xs i=some v) (_:Q v H):rIxL K x y H Q
inductive rIxT (K:PySem.W.Frag)(x:V)(y:V)(H:Hp)(Q:VK):Prop
 |mk (p xs i v:_) (_:x = .ref p) (_:y = .int i) (_:SqT K H p xs) (_:atI xs i=some v) (_:Q v H):rIxT K x y H Q
inductive rIxS (x:V)(y:V)(H:Hp)(Q:VK):Prop
 |mk (z i c:_) (_:x = .str z) (_:y = .int i) (_:z.length<=sizeLine) (_:atI z.cps.toList i=some c) (_:Q (.str ⟨#[c]⟩) H):rIxS x y H Q
theorem Z0w:IxR X (rIxL X.K):=by
 intro value slice pins s σ H x y v u Q I rx ry h hs
 obtain⟨p,xs,i,z,rfl,rfl,hq,he,q⟩:=h
 cases rx
 obtain⟨t,rfl⟩:=ry
 obtain⟨its,r,pl,hz⟩:=I.list hq
 obtain⟨j,h1,h2,h3,h4,h5⟩:=Z63 he
 obtain⟨w,ew,rw'⟩:=r.get h2
 have hl:=r.length
 have hn:=Z60
 have fin:EP X pins σ Q w s:=⟨z,H,I,rw',q⟩
 by_cases h0:0<=i
 ·have hj:i.toNat=j:=by
   rw[seqIndex_of h0 h5] at h1
   exact Option.some.inj h1
  exact item_listR pl.isList h0 (by omega) (by rw[hj];simpa using ew) fin hs
 ·have hj:(i+(its.toArray.size:Int)).toNat=j:=by
   rw[seqIndex_neg (by omega) h4] at h1
   rw[size_toArray,<- hl]
   exact Option.some.inj h1
  exact subscriptTail_builtinR (x:=w) pl.isList.typeIs slot_list_getitem.lookup
   (wpAny_getItem_list_neg (Q:=fun r s'=>r=w/\EP X pins σ Q r s') pl.isList (by omega) (by rw[size_toArray] <;> omega) (by omega) (by rw[hj];simpa using ew) ⟨rfl,fin⟩) hs
theorem Z0v:IxR X (rIxT X.K):=by
 intro value slice pins s σ H x y v u Q I rx ry h hs
 obtain⟨p,xs,i,z,rfl,rfl,hq,he,q⟩:=h
 cases rx
 obtain⟨t,rfl⟩:=ry
 obtain⟨its,r,pl,hz⟩:=I.tuple hq
 obtain⟨j,h1,h2,h3,h4,h5⟩:=Z63 he
 obtain⟨w,ew,rw'⟩:=r.get h2
 have hl:=r.length
 have hn:=Z60
 have fin:EP X pins σ Q w s:=⟨z,H,I,rw',q⟩
 exact subscriptTail_builtinR (x:=w) pl.typeIs slot_tuple_getitem.lookup
  (getItem_tuple (j:=j) (Q:=fun r s'=>r=w/\EP X pins σ Q r s') pl (by omega) (by omega) (by rw[size_toArray,<- hl];exact h1) (by simpa using ew) ⟨rfl,fin⟩) hs
theorem Z8y:IxR X rIxS:=by
 intro value slice pins s σ H x y v u Q I rx ry h hs
 obtain⟨z,i,c,rfl,rfl,hz,he,q⟩:=h
 obtain⟨t,rfl⟩:=rx
 obtain⟨t',rfl⟩:=ry
 obtain⟨j,h1,h2,h3,h4,h5⟩:=Z63 he
 have hl:z.cps.toList.length=z.length:=by simp [Str.length]
 rw[hl] at h1 h4 h5
 have hn:=Z60
 exact tail_any (typeIs_str s z t) slot_str_getitem.lookup (getItem_str (c:=c) (by
  have e1:decide (i < -(2 ^ 63:Int))=false:=decide_eq_false (by omega)
  have e2:decide (i ≥ 2 ^ 63)=false:=decide_eq_false (by omega)
  rw[e1,e2,Bool.or_false]) (by rw[h1];simpa using h2) ⟨.str ⟨#[c]⟩,H,I.tok _,⟨_,rfl⟩,q⟩) hs
theorem Zbv (its:List Value)(n j:Nat)(u:Value):Obj.mapSeq (·.setIfInBounds j u) { cls:=.type "list",data:=.seq its.toArray n }={ cls:=.type "list",data:=.seq (its.set j u).toArray n }:=by
 simp [Obj.mapSeq]
theorem Inv.lst {pins:List (Addr×Obj)}{σ:St}{H:Hp}{s:Shared}{p:Addr}{xs:List V}(I:Inv X pins σ H s)(h:H p=some (.lst xs)):
  ∃(its:List Value) (n:Nat),Vals xs its/\s.heap.get? p=some { cls:=.type "list",data:=.seq its.toArray n }/\xs.length<=sizeLine:=by
 obtain⟨z,its,n,r,e⟩:=I.hok p _ h
 exact⟨its,n,r,e,z⟩
theorem Inv.lstUpd {pins:List (Addr×Obj)}{σ:St}{H:Hp}{s:Shared}{p:Addr}{xs ys:List V}{its its':List Value}{n n':Nat}{f:Obj->Obj}(I:Inv X pins σ H s)(h:H p=some (.lst xs))
  (ho:s.heap.get? p=some { cls:=.type "list",data:=.seq its.toArray n }) (hf:f { cls:=.type "list",data:=.seq its.toArray n }={ cls:=.type "list",data:=.seq its'.toArray n' }) (r:Vals ys its') (hz:ys.length<=sizeLine) (t:Nat):
  Inv X pins σ (upd H p (.lst ys)) { s with heap:=s.heap.update p f,toks:=t }:=by
 have e:(s.heap.update p f).get? p=some { cls:=.type "list",data:=.seq its'.toArray n' }:=by
  rw[Heap.get?_update_self f ho (by rw[hf] <;> rfl),hf]
 refine I.write (x:=p) (e:=p) (by rw[h];trivial) (.inl rfl) (fun b u hb q=>(Heap.get?_update_other _ _ (Ne.symm hb)).trans q) ⟨_,e⟩ ?_
 exact⟨hz,its',n',r,e⟩
inductive rSetL (o:V)(i:V)(v:V)(H:Hp)(Q:(Hp->Prop)):Prop
 |mk (p xs k j:_) (_:o = .ref p) (_:i = .int k) (_:H p=some (.lst xs)) (_:ixN xs.length k=some j) (_:Q (upd H p (.lst (xs.set j v)))):rSetL o i v H Q
theorem Zfl:Zmu X rSetL:=by
 intro pins s σ H o i v ov iv u Q I ro ri rv h
 obtain⟨p,xs,k,j,rfl,rfl,hp,hj,q⟩:=h
 cases ro
 obtain⟨t,rfl⟩:=ri
 obtain⟨its,n,r,ho,hz⟩:=I.lst hp
 obtain⟨h1,h2,h3,h4⟩:=Zd5 hj
 have hl:=r.length
 have hn:=Z60
 have I':Inv X pins σ (upd H p (.lst (xs.set j v))) { s with heap:=s.heap.update p (Obj.mapSeq (·.setIfInBounds j u)) }:=
  I.lstUpd hp ho (Zbv its n j u) (r.set rv j) (by rw[List.length_set];exact hz) s.toks
 by_cases h0:0<=k
 ·have hk:k.toNat=j:=by
   rw[seqIndex_of h0 h4] at h1
   exact Option.some.inj h1
  exact PySem.W.ki_setAt ho h0 (by omega) (by rw[size_toArray,<- hl];exact h4) (by rw[hk];exact⟨_,I',q⟩)
 ·have hk:(k+(its.toArray.size:Int)).toNat=j:=by
   rw[seqIndex_neg (by omega) h3] at h1
   rw[size_toArray,<- hl]
   exact Option.some.inj h1
  exact PySem.W.ki_setBack ho (by omega) (by rw[size_toArray,<- hl];exact h3) (by omega) (by rw[hk];exact⟨_,I',q⟩)
theorem Z8z (lo hi:Option Int)(n:Nat):(sliceBounds lo hi none n).1=((HT.sIx n 0 lo:Nat):Int)/\(sliceBounds lo hi none n).2.1=((HT.sIx n n hi:Nat):Int)/\(sliceBounds lo hi none n).2.2=1:=by
 refine⟨?_,?_,rfl⟩
 ·cases lo with
  |none=>simp [sliceBounds,HT.sIx]
  |some i=>
   simp only [sliceBounds,HT.sIx,Option.getD_none,show(1:Int)>0 by decide,if_true]
   by_cases h:i<0
   ·simp only [h,if_true] <;> omega
   ·simp only [h,if_false] <;> omega
 ·cases hi with
  |none=>simp [sliceBounds,HT.sIx]
  |some i=>
   simp only [sliceBounds,HT.sIx,Option.getD_none,show(1:Int)>0 by decide,if_true]
   by_cases h:i<0
   ·simp only [h,if_true] <;> omega
   ·simp only [h,if_false] <;> omega
theorem Z7z (its:List Value)(lo hi:Option Int):slicePick its.toArray lo hi none=((its.drop (HT.sIx its.length 0 lo)).take (HT.sIx its.length its.length hi-HT.sIx its.length 0 lo)).toArray:=by
 obtain⟨h1,h2,h3⟩:=Z8z lo hi its.toArray.size
 unfold slicePick
 rw[h1,h2,h3]
 simp only [sliceRange_one,pick_run,size_toArray] <;> rfl
inductive rSlL (K:PySem.W.Frag)(x:V)(lo:Option Int)(hi:Option Int)(H:Hp)(Q:VK):Prop
 |mk (a xs:_) (_:x = .ref a) (_:SqL K H a xs) (_:∀p,H p=none->Q (.ref p) (upd H p (.lst (Z79 xs lo hi)))):rSlL K x lo hi H Q
theorem Z80:SlR X (rSlL X.K):=by
 intro pins s σ H x v vl vu lo hi sl Q I rx hs pl pu h
 obtain⟨a,xs,rfl,hx,q⟩:=h
 cases rx
 obtain⟨its,r,ht,hz⟩:=I.list hx
 have hlen:=r.length
 refine⟨"list",_,slot_list_getitem.lookup,ht.isList.typeIs,?_⟩
 refine wpAny_getItem_list_slice ht.isList hs pl pu .none (by simp) ?_ (by rw[size_toArray] <;> omega)
 rw[Z7z,<- hlen]
 refine⟨.ref s.heap.objs.size,_,I.laid (t':=s.toks) (o:=.lst (Z79 xs lo hi)) (fun b ob q=>Heap.get?_push_of_some _ q) (Nat.le_refl _) ?_,rfl,q _ (I.hok.fresh (Nat.le_refl _))⟩
 exact⟨Nat.le_trans (Z4a xs lo hi) hz,_,0,(r.drop (HT.sIx xs.length 0 lo)).take (HT.sIx xs.length xs.length hi-HT.sIx xs.length 0 lo),Heap.get?_push_size _ rfl⟩
def Z42:V->Bool
 | .non=>true
 | .bl _=>true
 | .int _=>true
 | .str _=>true
 |_=>false
def eqV:V->V->Bool
 | .non,.non=>true
 | .bl a,.bl b=>a==b
 | .bl a,.int b=>(if a then 1 else 0)==b
 | .int a,.bl b=>a==(if b then 1 else 0)
 | .int a,.int b=>a==b
 | .str a,.str b=>a==b
 |_,_=>false
theorem Z90 {A:Around}{s:Shared}{y x:V}{u v:Value}(ry:RelV y u)(rx:RelV x v)(fy:Z42 y=true)(fx:Z42 x=true):SeqAt.EqAt A s u v (eqV y x):=by
 cases y with
 |non=>
  cases ry
  cases x with
  |non=>cases rx;exact SeqAt.EqAt.same _
  |bl b=>cases rx;exact SeqAt.EqAt.none_bool b
  |int b=>obtain⟨t,rfl⟩:=rx;exact SeqAt.EqAt.none_int b t
  |str b=>obtain⟨t,rfl⟩:=rx;exact SeqAt.EqAt.none_str b t
  |_=>exact absurd (show false=true from fx) Bool.false_ne_true
 |bl a=>
  cases ry
  cases x with
  |non=>cases rx;exact SeqAt.EqAt.bool_none a
  |bl b=>cases rx;exact SeqAt.EqAt.bool_bool a b
  |int b=>obtain⟨t,rfl⟩:=rx;exact SeqAt.EqAt.bool_int a b t
  |str b=>obtain⟨t,rfl⟩:=rx;exact SeqAt.EqAt.bool_str a b t
  |_=>exact absurd (show false=true from fx) Bool.false_ne_true
 |int a=>
  obtain⟨t',rfl⟩:=ry
  cases x with
  |non=>cases rx;exact SeqAt.EqAt.int_none a t'
  |bl b=>cases rx;exact SeqAt.EqAt.int_bool a t' b
  |int b=>obtain⟨t,rfl⟩:=rx;exact SeqAt.EqAt.int_int a t' b t
  |str b=>obtain⟨t,rfl⟩:=rx;exact SeqAt.EqAt.int_str a t' b t
  |_=>exact absurd (show false=true from fx) Bool.false_ne_true
 |str a=>
  obtain⟨t',rfl⟩:=ry
  cases x with
  |non=>cases rx;exact SeqAt.EqAt.str_none a t'
  |bl b=>cases rx;exact SeqAt.EqAt.str_bool a t' b
  |int b=>obtain⟨t,rfl⟩:=rx;exact SeqAt.EqAt.str_int a t' b t
  |str b=>obtain⟨t,rfl⟩:=rx;exact SeqAt.EqAt.str_str a t' b t
  |_=>exact absurd (show false=true from fx) Bool.false_ne_true
 |_=>exact absurd (show false=true from fy) Bool.false_ne_true
def eqU (x:V)(u:Value):Bool:=match u with
 | .none=>eqV .non x
 | .bool b=>eqV (.bl b) x
 | .int i _=>eqV (.int i) x
 | .str z _=>eqV (.str z) x
 |_=>false
theorem Zhb {x y:V}{u:Value}(r:RelV y u)(f:Z42 y=true):eqU x u=eqV y x:=by
 cases y with
 |non=>cases r;rfl
 |bl b=>cases r;rfl
 |int i=>obtain⟨t,rfl⟩:=r;rfl
 |str z=>obtain⟨t,rfl⟩:=r;rfl
 |_=>exact absurd (show false=true from f) Bool.false_ne_true
theorem Z64 {x:V}:∀{xs:List V} {us:List Value},Vals xs us->xs.all Z42=true->us.any (eqU x)=xs.any fun y=>eqV y x
 |_,_,.nil,_=>rfl
 |y::xs,u::us,.cons r t,f=>by
  rw[all_cons,Bool.and_eq_true] at f
  rw[any_cons,any_cons,Zhb r f.1,Z64 t f.2]
theorem Z4j {A:Around}{s:Shared}{x:V}{v:Value}(rx:RelV x v)(fx:Z42 x=true):∀{xs:List V} {us:List Value},Vals xs us->xs.all Z42=true->∀u∈us,SeqAt.EqAt A s u v (eqU x u)
 |_,_,.nil,_=>fun u hu=>by cases hu
 |y::xs,u::us,.cons r t,f=>fun u' hu=>by
  rw[all_cons,Bool.and_eq_true] at f
  rcases mem_cons.mp hu with rfl|hu
  ·rw[Zhb r f.1];exact Z90 r rx f.1 fx
  ·exact Z4j rx fx t f.2 u' hu
def inV (x:V)(xs:List V):Bool:=xs.any fun y=>eqV y x
inductive rIn (K:PySem.W.Frag)(neg:Bool)(x:V)(y:V)(H:Hp)(Q:VK):Prop
 |mk (p xs:_) (_:y = .ref p) (_:(SqL K H p xs∨SqT K H p xs)) (_:Z42 x=true) (_:xs.all Z42=true) (_:Q (.bl (if neg then !inV x xs else inV x xs)) H):rIn K neg x y H Q
theorem Z2p:OpR X (compareOp .In) (rIn X.K false):=by
 intro pins s σ H x y v u Q I rx ry h
 obtain⟨p,xs,rfl,hq,fx,fs,q⟩:=h
 cases ry
 rcases hq with hq|hq
 ·obtain⟨its,r,pl,hz⟩:=I.list hq
  refine SeqAt.in_listAt (eqU x) pl.isList (fun w hw=>Z4j rx fx r fs w (by simpa using hw)) ⟨.bl _,H,I,rfl,?_⟩
  rw[show its.toArray.any (eqU x)=its.any (eqU x) by simp,Z64 r fs]
  exact q
 ·obtain⟨its,r,pl,hz⟩:=I.tuple hq
  refine SeqAt.in_tupleAt (eqU x) pl (fun w hw=>Z4j rx fx r fs w (by simpa using hw)) ⟨.bl _,H,I,rfl,?_⟩
  rw[show its.toArray.any (eqU x)=its.any (eqU x) by simp,Z64 r fs]
  exact q
theorem Z5i:OpR X (compareOp .NotIn) (rIn X.K true):=by
 intro pins s σ H x y v u Q I rx ry h
 obtain⟨p,xs,rfl,hq,fx,fs,q⟩:=h
 cases ry
 rcases hq with hq|hq
 ·obtain⟨its,r,pl,hz⟩:=I.list hq
  refine SeqAt.notIn_listAt (eqU x) pl.isList (fun w hw=>Z4j rx fx r fs w (by simpa using hw)) ⟨.bl _,H,I,rfl,?_⟩
  rw[show its.toArray.any (eqU x)=its.any (eqU x) by simp,Z64 r fs]
  exact q
 ·obtain⟨its,r,pl,hz⟩:=I.tuple hq
  refine SeqAt.notIn_tupleAt (eqU x) pl (fun w hw=>Z4j rx fx r fs w (by simpa using hw)) ⟨.bl _,H,I,rfl,?_⟩
  rw[show its.toArray.any (eqU x)=its.any (eqU x) by simp,Z64 r fs]
  exact q
theorem Z0o:Z3l X (.builtin "len") (fun xs H Q=>∃p ys,xs = [.ref p]/\(SqL X.K H p ys∨SqT X.K H p ys)/\Q (.int ys.length) H):=by
 intro pins s σ H xs us Q I r h
 obtain⟨p,ys,rfl,hq,q⟩:=h
 obtain⟨u,rfl,rx⟩:=Z61 r
 cases rx
 have hn:=Z60
 rcases hq with hq|hq
 ·obtain⟨its,r',pl,hz⟩:=I.list hq
  have hlen:=r'.length
  exact Calls.call_len_list pl.isList (by simp only [size_toArray] <;> omega) ⟨.int ys.length,H,I.tok _,⟨s.toks+1,by rw[size_toArray,hlen]⟩,q⟩
 ·obtain⟨its,r',pl,hz⟩:=I.tuple hq
  have hlen:=r'.length
  exact len_tuple pl (by simp only [size_toArray] <;> omega) ⟨.int ys.length,H,I.tok _,⟨s.toks+1,by rw[size_toArray,hlen]⟩,q⟩
theorem Z91:Z3l X (.builtin "len") (fun xs H Q=>∃z,xs = [.str z]/\z.length<=sizeLine/\Q (.int z.length) H):=by
 intro pins s σ H xs us Q I r h
 obtain⟨z,rfl,hz,q⟩:=h
 obtain⟨u,rfl,t,rfl⟩:=Z61 r
 have hn:=Z60
 exact len_str (by omega) ⟨.int z.length,H,I.tok _,⟨_,rfl⟩,q⟩
theorem Z5j:Z3l X (.type "list") (fun xs H Q=>∃p ys,xs = [.ref p]/\(SqL X.K H p ys∨SqT X.K H p ys)/\∀l,H l=none->Q (.ref l) (upd H l (.lst ys))):=by
 intro pins s σ H xs us Q I r h
 obtain⟨p,ys,rfl,hq,q⟩:=h
 obtain⟨u,rfl,rx⟩:=Z61 r
 cases rx
 have fin:∀(its:List Value),Vals ys its->ys.length<=sizeLine->∀(h':Heap) (c':Nat),(∀b o',s.heap.get? b=some o'->h'.get? b=some o') →
   h'.get? s.heap.objs.size=some { cls:=.type "list",dict:=none,data:=.seq its.toArray c',slots:=#[] }->EP X pins σ Q (.ref s.heap.objs.size) { s with heap:=h' }:=fun its r' hz h' c' kp e=>
  ⟨.ref s.heap.objs.size,_,I.laid (t':=s.toks) kp (Nat.le_refl _) (show ObjOk X.prog X.w _ h' _ (.lst ys) from⟨hz,its,c',r',e⟩),rfl,q _ (I.hok.fresh (Nat.le_refl _))⟩
 rcases hq with hq|hq
 ·obtain⟨its,r',pl,hz⟩:=I.list hq
  have hlen:=r'.length
  obtain⟨o,ho,hc,n,hd⟩:=pl.isList
  exact call_list_seq p (.inl rfl) ho hc hd (fun h' c' kp e=>fin its r' hz h' c' kp e) (by simp only [size_toArray] <;> omega)
 ·obtain⟨its,r',pl,hz⟩:=I.tuple hq
  have hlen:=r'.length
  obtain⟨o,ho,hc,n,hd⟩:=pl
  exact call_list_seq p (.inr rfl) ho hc hd (fun h' c' kp e=>fin its r' hz h' c' kp e) (by simp only [size_toArray] <;> omega)
theorem Z1q:Z3l X (.type "tuple") (fun xs H Q=>∃p ys,xs = [.ref p]/\((SqL X.K H p ys/\∀l,H l=none->Q (.ref l) (upd H l (.tup ys)))∨(SqT X.K H p ys/\Q (.ref p) H))):=by
 intro pins s σ H xs us Q I r h
 obtain⟨p,ys,rfl,h⟩:=h
 obtain⟨u,rfl,rx⟩:=Z61 r
 cases rx
 rcases h with ⟨hq,q⟩|⟨hq,q⟩
 ·obtain⟨its,r',pl,hz⟩:=I.list hq
  have hlen:=r'.length
  refine call_tuple_list pl.isList (fun h' kp=>?_) (by simp only [size_toArray] <;> omega)
  have I1:Inv X pins σ H { s with heap:=h' }:=I.kept (t':=s.toks) kp
  have I2:Inv X pins σ (upd H h'.objs.size (.tup ys)) { s with heap:=h'.push { cls:=.type "tuple",data:=.seq its.toArray } }:=
   I1.laid (t':=s.toks) (fun b o e=>Heap.get?_push_of_some _ e) (Nat.le_refl _) (show ObjOk X.prog X.w _ _ _ (.tup ys) from⟨hz,its,r',IsTup.new _ _⟩)
  exact⟨.ref h'.objs.size,_,I2,rfl,q _ (I1.hok.fresh (Nat.le_refl _))⟩
 ·obtain⟨its,r',pl,hz⟩:=I.tuple hq
  exact call_tuple_same pl ⟨.ref p,H,I,rfl,q⟩
def tyV (K:PySem.W.Frag)(T:String)(x:V)(H:Hp):Prop:=match x with
 | .str _=>T="str"
 | .int _=>T="int"
 | .ref p=>(T="list"/\∃xs,SqL K H p xs)∨(T="tuple"/\∃o,K.lookup p=some o/\o.cls = .type "tuple"/\o.dict=none) ∨
   (T="dict"/\((∃kvs,H p=some (.dK kvs))∨∃kvs,H p=some (.dT kvs)))∨(T="set"/\∃S n,H p=some (.set S n))
 |_=>False
theorem Zhc {pins:List (Addr×Obj)}{σ:St}{H:Hp}{s:Shared}{T:String}{x:V}{v:Value}(I:Inv X pins σ H s)(r:RelV x v)(ty:tyV X.K T x H):
  s.TypeIs v T/\∀a,v = .ref a->∃ob,s.heap.get? a=some ob/\ob.dict=none:=by
 cases x with
 |str z=>
  obtain⟨t,rfl⟩:=r
  cases (show T="str" from ty)
  exact⟨typeIs_str s z t,fun _ e=>nomatch e⟩
 |int i=>
  obtain⟨t,rfl⟩:=r
  cases (show T="int" from ty)
  exact⟨typeIs_int s i t,fun _ e=>nomatch e⟩
 |ref p=>
  cases r
  rcases ty with ⟨rfl,xs,hq⟩|⟨rfl,o,hk,hc,hd⟩|⟨rfl,hk⟩|⟨rfl,S,n,hk⟩
  ·obtain⟨its,_,pl,_⟩:=I.list hq
   refine⟨pl.isList.typeIs,fun a e=>?_⟩
   cases e
   obtain⟨o,n,e,c,hd,_⟩:=pl
   exact⟨o,e,hd⟩
  ·refine⟨⟨o,I.kIn p o hk,hc⟩,fun a e=>?_⟩
   cases e
   exact⟨o,I.kIn _ o hk,hd⟩
  ·have z:∃o,s.heap.get? p=some o/\o.ExactDict:=by
    rcases hk with ⟨kvs,hk⟩|⟨kvs,hk⟩
    ·obtain⟨_,_,_,_,o,_,_,e,ex,_⟩:=I.hok p _ hk
     exact⟨o,e,ex⟩
    ·obtain⟨_,_,_,_,o,_,_,e,ex,_⟩:=I.hok p _ hk
     exact⟨o,e,ex⟩
   obtain⟨o,e,ex⟩:=z
   refine⟨⟨o,e,ex.1⟩,fun a e2=>?_⟩
   cases e2
   exact⟨o,e,ex.2.1⟩
  ·obtain⟨o,_,_,_,e,ex,_⟩:=I.hok p _ hk
   refine⟨⟨o,e,ex.1⟩,fun a e2=>?_⟩
   cases e2
   exact⟨o,e,ex.2.1⟩
 |_=>exact False.elim ty
def Znj (K:PySem.W.Frag)(T:String)(r:V->List V->Hp->VK->Prop)(to:TE):TE:=fun σ H Q=>to σ H fun x H1=>tyV K T x H1/\r x [] H1 Q
def tBM (K:PySem.W.Frag)(T:String)(r:V->List V->Hp->VK->Prop)(to:TE)(t:TA):TE:=fun σ H Q=>to σ H fun x H1=>tyV K T x H1/\t σ H1 fun xs H2=>r x xs H2 Q
variable {o e:Expr}{es:List Expr}{to:TE}{t:TA}{name:Str}{apos cpos:Pos}{T id:String}{r:V->List V->Hp->VK->Prop}
theorem Zhd (pa:PlainAttrs T)(slot:Slot T name id)(hty:typeOf (.builtin id)=pure (.type "method_descriptor"))(hm:MtR X id r)(ho:PE X o to)
  (hbase:attributeBase o name X.env (eval o X.env)=eval o X.env:=by rfl) (hline:(apos.endLine==cpos.line)=true:=by rfl):PE X (.Call (.Attribute o name apos) [] [] cpos) (Znj X.K T r to):=by
 intro pins s σ H Q I h
 refine wpAny_Call_method0_late hbase hline (thn (ho pins s σ H _ I h) fun v s1 ⟨x,H1,I1,r1,ty,q1⟩=>?_)
 obtain⟨h1,h2⟩:=Zhc I1 r1 ty
 exact⟨T,id,pa,slot,hty,h1,h2,Calls.callWith_builtin rfl (PySem.evalArgs_none (hm pins s1 σ H1 x [] v [] Q I1 r1 .nil q1))⟩
theorem Z92 (pa:PlainAttrs T)(slot:Slot T name id)(hty:typeOf (.builtin id)=pure (.type "method_descriptor"))(hm:MtR X id r)(ho:PE X o to)(ha:PA X (e::es) t)
  (hbase:attributeBase o name X.env (eval o X.env)=eval o X.env:=by rfl)
  (hfew:((backTo cpos (starEach (e::es) X.env)).all (fun x => !x.1)&&(backToKw cpos (keywordEach [] X.env)).all (fun x=>x.1.isSome)
   && decide ((e::es).length+([]:List Keyword).length+(if ([]:List Keyword).isEmpty then 0 else 1)<30))=true:=by rfl)
  (hline:(apos.endLine==cpos.line)=true:=by rfl) (hs:starEach (e::es) X.env=(false,eval e X.env)::starEach es X.env:=by rfl) (hplain:(backTo cpos (starEach es X.env)).any (·.1)=false:=by rfl):
  PE X (.Call (.Attribute o name apos) (e::es) [] cpos) (tBM X.K T r to t):=by
 intro pins s σ H Q I h
 refine wpAny_Call_method_late hbase hfew hline rfl (thn (ho pins s σ H _ I h) fun v s1 ⟨x,H1,I1,r1,ty,q1⟩=>?_)
 obtain⟨h1,h2⟩:=Zhc I1 r1 ty
 refine⟨T,id,pa,slot,hty,h1,h2,?_⟩
 have hA:=ha cpos pins s1 σ H1 _ I1 q1
 rw[hs] at hA ⊢
 refine Calls.callWith_builtin (by show(false||(backTo cpos (starEach es X.env)).any (·.1))=false;rw[hplain] <;> rfl) (Calls.evalArgs_plain ?_)
 exact thn hA fun us s2 ⟨vs,H2,I2,r2,q2⟩=>hm pins s2 σ H2 x vs v us Q I2 r1 r2 q2
end
def MtM (X:Cx)(id:String)(r:V->List V->Hp->VK->Prop):Prop:=
 ∀(pins:List (Addr×Obj)) (s:Shared) (σ:St) (H:Hp) (x:V) (xs:List V) (v:Value) (us:List Value) (Q:VK),Inv X pins σ H s->RelV x v->Vals xs us->r x xs H Q →
  wpAny (model X.prog X.w) X.A (call (.builtin id) (v::us)) (EP X pins σ Q) X.xe s
theorem Vals.one:∀{x:V} {us:List Value},Vals [x] us->∃u,us = [u]/\RelV x u
 |_,_,.cons r .nil=>⟨_,rfl,r⟩
theorem Vals.zero:∀{us:List Value},Vals [] us->us = []
 |_,.nil=>rfl
theorem Vals.dropLast {xs:List V}{us:List Value}(h:Vals xs us):Vals xs.dropLast us.dropLast:=by
 induction h with
 |nil=>exact .nil
 |cons r t ih=>
  cases t with
  |nil=>exact .nil
  |cons q t'=>exact .cons r ih
theorem Vals.reverse {xs:List V}{us:List Value}(h:Vals xs us):Vals xs.reverse us.reverse:=by
 induction h with
 |nil=>exact .nil
 |cons r t ih=>rw[reverse_cons,reverse_cons];exact Vals.append ih (.cons r .nil)
theorem Vals.rep {xs:List V}{us:List Value}(h:Vals xs us):∀k:Nat,Vals (List.replicate k xs).flatten (List.replicate k us).flatten
 | 0=>.nil
 |k+1=>by
  rw[replicate_succ,replicate_succ,flatten_cons,flatten_cons]
  exact Vals.append h (Vals.rep h k)
theorem Zbw {α : Type}(l:List α):l.eraseIdx (l.length-1)=l.dropLast:=by
 induction l with
 |nil=>rfl
 |cons a r ih=>
  cases r with
  |nil=>rfl
  |cons b r=>
   have e:(a::b::r).length-1=((b::r).length-1)+1:=by
    have h1:(a::b::r).length=r.length+2:=rfl
    have h2:(b::r).length=r.length+1:=rfl
    omega
   rw[e,List.eraseIdx_cons_succ,ih]
   all_goals rfl
theorem Z93 (its:List Value):∀(k:Nat) (acc:List Value),
  List.foldl (fun x1 x2=>x1++x2) acc.toArray (List.replicate k its.toArray)=(acc++(List.replicate k its).flatten).toArray
 | 0,acc=>by simp
 |k+1,acc=>by
  have e:acc.toArray++its.toArray=(acc++its).toArray:=by simp
  have e2:(acc++its)++(List.replicate k its).flatten=acc++(List.replicate (k+1) its).flatten:=by
   rw[replicate_succ,flatten_cons,append_assoc]
  rw[<- e2,<- Z93 its k (acc++its),<- e,replicate_succ,List.foldl_cons]
section
variable {X:Cx}{pins:List (Addr×Obj)}{σ:St}{H:Hp}{s:Shared}{l b:Addr}{xs ys zs:List V}
theorem Inv.lset {its its':List Value}{n:Nat}{f:Array Value->Array Value}{t':Nat}(I:Inv X pins σ H s)(hH:H l=some (.lst xs))
  (e:s.heap.get? l=some { cls:=.type "list",data:=.seq its.toArray n }) (hf:f its.toArray=its'.toArray) (hv:Vals ys its') (hz:ys.length<=sizeLine):
  Inv X pins σ (upd H l (.lst ys)) { s with heap:=s.heap.update l (Obj.mapSeq f),toks:=t' }:=by
 have q:=PySem.IsL.update e f
 rw[hf] at q
 refine I.write (x:=l) (e:=l) (by rw[hH];exact trivial) (.inl rfl) (fun b' u hb hu=>(Heap.get?_update_other s.heap (Obj.mapSeq f) (Ne.symm hb)).trans hu) ⟨_,q⟩ ?_
 exact⟨hz,its',_,hv,q⟩
theorem Inv.lnew {its:List Value}{t':Nat}(I:Inv X pins σ H s)(hv:Vals ys its)(hz:ys.length<=sizeLine):
  Inv X pins σ (upd H s.heap.objs.size (.lst ys)) { s with heap:=s.heap.push { cls:=.type "list",data:=.seq its.toArray },toks:=t' }:=
 I.laid (fun _ _ q=>Heap.get?_push_of_some _ q) (Nat.le_refl _) ⟨hz,its,0,hv,Heap.get?_push_size _ rfl⟩
theorem Inv.fresh (I:Inv X pins σ H s):H s.heap.objs.size=none:=I.hok.fresh (Nat.le_refl _)
theorem Inv.lstM (I:Inv X pins σ H s)(hH:H l=some (.lst xs)):xs.length<=sizeLine/\∃(its:List Value) (n:Nat),Vals xs its/\xs.length=its.length/\s.heap.get? l=some { cls:=.type "list",data:=.seq its.toArray n }:=by
 obtain⟨z,its,n,r,e⟩:=I.hok l _ hH
 exact⟨z,its,n,r,r.length,e⟩
theorem Zan {n:Nat}(h:n<=sizeLine):Builtin.List.listTooLong n=false:=by
 unfold Builtin.List.listTooLong
 exact decide_eq_false (by omega)
end
section
variable {X:Cx}
inductive rAppend (x:V)(vs:List V)(H:Hp)(Q:VK):Prop
 |mk (l xs y:_) (_:x = .ref l) (_:vs = [y]) (_:H l=some (.lst xs)) (_:xs.length<sizeLine) (_:Q .non (upd H l (.lst (xs ++ [y])))):rAppend x vs H Q
theorem Z34:MtM X "list.append" rAppend:=by
 intro pins s σ H x vs v us Q I rx rv h
 obtain⟨l,xs,y,rfl,rfl,hH,hz,q⟩:=h
 cases rx
 obtain⟨u,rfl,ru⟩:=rv.one
 obtain⟨z,its,n,r,hl,e⟩:=I.lstM hH
 refine call_meets F.slot_list_append ⟨_,e,rfl⟩ F.entry_list_append (F.args_list_append_2 _ _) (PySem.list_append l its.toArray n u (by rw[size_toArray];omega)) ⟨e,?_⟩
 refine⟨.non,_,I.lset (its':=its ++ [u]) hH e (by simp) (r.append (.cons ru .nil)) ?_,rfl,q⟩
 rw[length_append,length_singleton]
 omega
inductive rExtend (x:V)(vs:List V)(H:Hp)(Q:VK):Prop
 |mk (l b xs zs:_) (_:x = .ref l) (_:vs = [.ref b]) (_:H l=some (.lst xs)) (_:H b=some (.lst zs)) (_:xs.length+zs.length<=sizeLine) (_:Q .non (upd H l (.lst (xs++zs)))):rExtend x vs H Q
theorem Zd6:MtM X "list.extend" rExtend:=by
 intro pins s σ H x vs v us Q I rx rv h
 obtain⟨l,b,xs,zs,rfl,rfl,hH,hB,hz,q⟩:=h
 cases rx
 obtain⟨u,rfl,ru⟩:=rv.one
 cases ru
 obtain⟨z,its,n,r,hl,e⟩:=I.lstM hH
 obtain⟨z2,its2,n2,r2,hl2,e2⟩:=I.lstM hB
 have hsz:its.toArray.size+its2.toArray.size<=sizeLine:=by rw[size_toArray,size_toArray];omega
 have hlong:¬ (!its.toArray.isEmpty&&Builtin.List.listTooLong (its.toArray.size+its2.toArray.size))=true:=by
  rw[Zan hsz,Bool.and_false]
  exact Bool.false_ne_true
 refine call_meets F.slot_list_extend ⟨_,e,rfl⟩ F.entry_list_extend (F.args_list_extend_2 _ _)
  (AutoSeq1.list_extend_list_list_0 l its.toArray n b its2.toArray n2 hlong (by rw[size_toArray];omega) (by omega)) ⟨e,e2,?_⟩
 refine⟨.non,_,I.lset (its':=its++its2) hH e (by simp) (r.append r2) ?_,rfl,q⟩
 rw[length_append]
 omega
inductive rPop (x:V)(vs:List V)(H:Hp)(Q:VK):Prop
 |mk (l xs y:_) (_:x = .ref l) (_:vs = []) (_:H l=some (.lst xs)) (_:xs[xs.length-1]? = some y) (_:Q y (upd H l (.lst xs.dropLast))):rPop x vs H Q
theorem Zhe:MtM X "list.pop" rPop:=by
 intro pins s σ H x vs v us Q I rx rv h
 obtain⟨l,xs,y,rfl,rfl,hH,hy,q⟩:=h
 cases rx
 have hus:=rv.zero
 subst hus
 obtain⟨z,its,n,r,hl,e⟩:=I.lstM hH
 obtain⟨u,hu,ru⟩:=r.get hy
 have hy':its.toArray[its.toArray.size-1]? = some u:=by
  show its.toArray[its.length-1]? = some u
  rw[<- Array.getElem?_toList,<- hl]
  exact hu
 refine call_meets F.slot_list_pop ⟨_,e,rfl⟩ F.entry_list_pop (F.args_list_pop_1 _) (MeetsSeq.list_pop_last l its.toArray n u hy' (by rw[size_toArray];omega)) ⟨e,?_⟩
 refine⟨y,_,I.lset (its':=its.dropLast) hH e ?_ r.dropLast ?_,ru,q⟩
 ·show its.toArray.eraseIdxIfInBounds (its.toArray.size-1)=its.dropLast.toArray
  rw[size_toArray,List.eraseIdxIfInBounds_toArray,Zbw]
 ·rw[List.length_dropLast]
  omega
inductive rCat (x:V)(y:V)(H:Hp)(Q:VK):Prop
 |mk (l b xs zs:_) (_:x = .ref l) (_:y = .ref b) (_:H l=some (.lst xs)) (_:H b=some (.lst zs)) (_:xs.length+zs.length<=sizeLine) (_:∀p,H p=none->Q (.ref p) (upd H p (.lst (xs++zs)))):rCat x y H Q
theorem Z2q:OpR X (binaryOp .Add) rCat:=by
 intro pins s σ H x y v u Q I rx ry h
 obtain⟨l,b,xs,zs,rfl,rfl,hH,hB,hz,q⟩:=h
 cases rx
 cases ry
 obtain⟨z,its,n,r,hl,e⟩:=I.lstM hH
 obtain⟨z2,its2,n2,r2,hl2,e2⟩:=I.lstM hB
 refine PySem.P.add_list e e2 ?_ (by rw[size_toArray,size_toArray];omega)
 have ea:its.toArray++its2.toArray=(its++its2).toArray:=by simp
 rw[ea]
 exact⟨.ref _,_,I.lnew (t':=s.toks) (r.append r2) (by rw[length_append];omega),rfl,q _ I.fresh⟩
inductive rRep (x:V)(y:V)(H:Hp)(Q:VK):Prop
 |mk (l k xs:_) (_:x = .ref l) (_:y = .int k) (_:H l=some (.lst xs)) (_ : -(2 ^ 63)<=k) (_:k<2 ^ 63) (_:xs.length*k.toNat<=sizeLine) (_:∀p,H p=none->Q (.ref p) (upd H p (.lst (List.replicate k.toNat xs).flatten))):rRep x y H Q
theorem Zi4 {α : Type}(xs:List α)(k:Nat):(List.replicate k xs).flatten.length=k*xs.length:=by
 induction k with
 |zero=>simp
 |succ k ih=>rw[replicate_succ,flatten_cons,length_append,ih,Nat.succ_mul,Nat.add_comm]
theorem Zhf:OpR X (binaryOp .Mult) rRep:=by
 intro pins s σ H x y v u Q I rx ry h
 obtain⟨l,k,xs,rfl,rfl,hH,h1,h2,hz,q⟩:=h
 cases rx
 obtain⟨t,rfl⟩:=ry
 obtain⟨z,its,n,r,hl,e⟩:=I.lstM hH
 have hlen:its.toArray.size*k.toNat<=sizeLine:=by rw[size_toArray,<- hl];exact hz
 have hcap:¬its.toArray.size*k.toNat>(2 ^ 63-1) / 8:=by
  have:(sizeLine:Nat)<=(2 ^ 63-1) / 8:=by decide
  omega
 have hfit:¬ (!Builtin.List.listFitsIndex k)=true:=by
  rw[fitsIndex_both h1 h2]
  exact Bool.false_ne_true
 have hlong:¬Builtin.List.listTooLong (its.toArray.size*k.toNat)=true:=by
  rw[Zan hlen]
  exact Bool.false_ne_true
 have hnew:List.foldl (fun x1 x2=>x1++x2) #[] (List.replicate (if its.toArray.isEmpty=true then 0 else k.toNat) its.toArray)=(List.replicate k.toNat its).flatten.toArray:=by
  have f0:∀m:Nat,List.foldl (fun x1 x2=>x1++x2) #[] (List.replicate m its.toArray)=(List.replicate m its).flatten.toArray:=fun m=>by
   have:=Z93 its m []
   rw[nil_append] at this
   exact this
  rw[f0]
  cases its with
  |nil=>simp
  |cons a r'=>rw[if_neg (by simp)]
 refine wpAny_binaryOp_repeat_ref (T:="list") (U:="int") (by decide) ⟨_,e,rfl⟩ (fun s'=>typeIs_int s' k t) noFill_list_mul F.fills_int_mul F.slot_int_rmul repeat_list F.slot_int_index.lookup
  (call_meets F.slot_int_rmul (typeIs_int s k t) F.entry_int_rmul (F.args_int_rmul_2 _ _) (int___rmul___int_list k t l its.toArray n)
   ⟨e,rfl,⟨_,e,rfl⟩,call_meets F.slot_list_mul ⟨_,e,rfl⟩ F.entry_list_mul (F.args_list_mul_2 _ _) (AutoListH.list___mul___list_int_3 l its.toArray n k t hfit hcap hlong) ⟨e,?_⟩⟩)
 rw[hnew]
 exact⟨.ref _,_,I.lnew (t':=s.toks) (r.rep k.toNat) (by rw[Zi4,Nat.mul_comm];exact hz),rfl,q _ I.fresh⟩
end
section
variable {κ : Type}[DecidableEq κ]
def Z27 (kvs:List (κ × V))(k : κ):Option V:=(kvs.find? fun kv=>decide (kv.1=k)).map (·.2)
def Z2t (kvs:List (κ × V))(k : κ)(v:V):List (κ × V):=
 if (kvs.any fun kv=>decide (kv.1=k))=true then kvs.map (fun kv=>if kv.1=k then (kv.1,v) else kv) else kvs ++ [(k,v)]
theorem Z20 {p : κ × V}{r:List (κ × V)}{k : κ}(e:p.1=k):Z27 (p::r) k=some p.2:=by simp [Z27,List.find?_cons,e]
theorem Z21 {p : κ × V}{r:List (κ × V)}{k : κ}(e:¬p.1=k):Z27 (p::r) k=Z27 r k:=by simp [Z27,List.find?_cons,e]
theorem Z5r (k : κ):∀kvs:List (κ × V),(kvs.any fun kv=>decide (kv.1=k))=(Z27 kvs k).isSome
 |[]=>rfl
 |p::r=>by
  rw[any_cons]
  by_cases e:p.1=k
  ·simp only [Z20 e,decide_eq_true e,Bool.true_or,Option.isSome_some]
  ·rw[Z21 e,decide_eq_false e,Bool.false_or];exact Z5r k r
theorem Zao (k j : κ)(y:V):∀kvs:List (κ × V),Z27 (kvs.map fun kv=>if kv.1=k then (kv.1,y) else kv) j=(Z27 kvs j).map fun x=>if j=k then y else x
 |[]=>rfl
 |p::r=>by
  have ih:=Zao k j y r
  rw[map_cons]
  by_cases h:p.1=k
  ·rw[if_pos h]
   by_cases e:p.1=j
   ·rw[Z20 (p:=(p.1,y)) e,Z20 e,Option.map_some,if_pos (e.symm.trans h)]
   ·rw[Z21 (p:=(p.1,y)) e,Z21 e,ih]
  ·rw[if_neg h]
   by_cases e:p.1=j
   ·rw[Z20 (p:=p) e,Z20 e,Option.map_some,if_neg (fun z=>h (e.trans z))]
   ·rw[Z21 (p:=p) e,Z21 e,ih]
theorem Z94 (k j : κ)(y:V):∀kvs:List (κ × V),Z27 kvs k=none->Z27 (kvs ++ [(k,y)]) j=if j=k then some y else Z27 kvs j
 |[],_=>by
  by_cases e:k=j
  ·rw[if_pos e.symm];exact Z20 (p:=(k,y)) e
  ·rw[if_neg (fun z=>e z.symm)];exact Z21 (p:=(k,y)) e
 |p::r,hn=>by
  rw[cons_append]
  have hk:¬p.1=k:=fun z=>by rw[Z20 z] at hn;cases hn
  rw[Z21 hk] at hn
  have ih:=Z94 k j y r hn
  by_cases e:p.1=j
  ·rw[Z20 e,Z20 e,if_neg (fun z=>hk (e.trans z))]
  ·rw[Z21 e,Z21 e,ih]
theorem Z28 (kvs:List (κ × V))(k j : κ)(y:V):Z27 (Z2t kvs k y) j=if j=k then some y else Z27 kvs j:=by
 unfold Z2t
 by_cases a:(kvs.any fun kv=>decide (kv.1=k))=true
 ·rw[if_pos a,Zao]
  rw[Z5r] at a
  by_cases e:j=k
  ·obtain⟨x,hx⟩:=Option.isSome_iff_exists.mp a
   rw[if_pos e,e,hx,Option.map_some,if_pos rfl]
  ·rw[if_neg e]
   cases Z27 kvs j with
   |none=>rfl
   |some x=>rw[Option.map_some,if_neg e]
 ·rw[if_neg a]
  refine Z94 k j y kvs ?_
  rw[Z5r] at a
  cases q:Z27 kvs k with
  |none=>rfl
  |some x=>rw[q] at a;exact(a rfl).elim
theorem Z1n (kvs:List (κ × V))(k : κ)(v:V):(Z2t kvs k v).length<=kvs.length+1:=by
 unfold Z2t
 split
 ·rw[length_map];omega
 ·rw[length_append,length_cons,length_nil];omega
theorem RelO.isSome_eq {o:Option V}{u:Option Value}(r:RelO o u):o.isSome=u.isSome:=by
 cases o with
 |none=>cases u with
  |none=>rfl
  |some _=>exact(show False from r).elim
 |some _=>cases u with
  |none=>exact(show False from r).elim
  |some _=>rfl
theorem RelO.getD {o:Option V}{u:Option Value}{d:V}{d':Value}(r:RelO o u)(rd:RelV d d'):RelV (o.getD d) (u.getD d'):=by
 cases o with
 |none=>cases u with
  |none=>exact rd
  |some _=>exact(show False from r).elim
 |some _=>cases u with
  |none=>exact(show False from r).elim
  |some _=>exact r
theorem KV.val {kvs:List (κ × V)}{vs:List (κ × Value)}(r:KV kvs vs)(k : κ):RelO (Z27 kvs k) (valueAt vs k):=by
 unfold KV at r
 induction r with
 |nil=>exact True.intro
 | @cons p q ps qs h t ih=>
  obtain⟨h1,h2⟩:=h
  by_cases e:p.1=k
  ·have e':q.1=k:=h1.symm.trans e
   have b:valueAt (q::qs) k=some q.2:=by simp [valueAt,List.find?_cons,e']
   rw[Z20 e,b];exact h2
  ·have e':¬q.1=k:=fun z=>e (h1.trans z)
   have b:valueAt (q::qs) k=valueAt qs k:=by simp [valueAt,List.find?_cons,e']
   rw[Z21 e,b];exact ih
theorem KV.any {kvs:List (κ × V)}{vs:List (κ × Value)}(r:KV kvs vs)(k : κ):(kvs.any fun kv=>decide (kv.1=k))=vs.any fun kv=>decide (kv.1=k):=by
 unfold KV at r
 induction r with
 |nil=>rfl
 |cons h t ih=>rw[any_cons,any_cons,ih,h.1]
theorem KV.repl {kvs:List (κ × V)}{vs:List (κ × Value)}(r:KV kvs vs)(k : κ){y:V}{u:Value}(ry:RelV y u):
  KV (kvs.map fun kv=>if kv.1=k then (kv.1,y) else kv) (vs.map fun kv=>if kv.1=k then (kv.1,u) else kv):=by
 unfold KV at r ⊢
 induction r with
 |nil=>exact .nil
 | @cons p q ps qs h t ih=>
  rw[map_cons,map_cons]
  refine .cons ?_ ih
  obtain⟨h1,h2⟩:=h
  by_cases e:p.1=k
  ·rw[if_pos e,if_pos (h1.symm.trans e)];exact⟨h1,ry⟩
  ·rw[if_neg e,if_neg (fun z=>e (h1.trans z))];exact⟨h1,h2⟩
theorem KV.put {kvs:List (κ × V)}{vs:List (κ × Value)}(r:KV kvs vs)(k : κ){y:V}{u:Value}(ry:RelV y u):KV (Z2t kvs k y) (stored vs k u):=by
 unfold Z2t stored
 rw[r.any k]
 by_cases e:(vs.any fun kv=>decide (kv.1=k))=true
 ·rw[if_pos e,if_pos e];exact r.repl k ry
 ·rw[if_neg e,if_neg e];exact Paired.snoc r ⟨rfl,ry⟩
theorem KV.length {kvs:List (κ × V)}{vs:List (κ × Value)}(r:KV kvs vs):kvs.length=vs.length:=Paired.length r
end
theorem Z81 {P:Program}{w:World}{k:Key}{u:Value}(r:RelV (kV k) u):(Z13 P w).is k u=true:=by
 cases k with
 |inl i=>obtain⟨t,e⟩:=(show ∃t,u=Value.int i t from r);subst e;exact Z9v P w i t
 |inr x=>obtain⟨t,e⟩:=(show ∃t,u=Value.str x t from r);subst e;exact Z9w P w x t
theorem Z95 {P:Program}{w:World}:∀{ks:List Key} {us:List Value},Vals (ks.map kV) us->ItemsAre (Z13 P w) ks us
 |[],_,r=>by rw[map_nil] at r;cases r;exact .nil
 |k::ks,_,r=>by
  rw[map_cons] at r
  cases r with
  |cons h t=>exact .cons (Z81 h) (Z95 t)
abbrev KT (H:Hp):List (List Key×V)->List (List Key×Addr×Value)->Prop:=Paired fun p q=>p.1=q.1/\H q.2.1=some (.tup (p.1.map kV))/\RelV p.2 q.2.2
theorem KT.val {H:Hp}{kvs:List (List Key×V)}{xs:List (List Key×Addr×Value)}(r:KT H kvs xs)(k:List Key):RelO (Z27 kvs k) ((atKey xs k).map (·.2)):=by
 induction r with
 |nil=>exact True.intro
 | @cons p q ps qs h t ih=>
  obtain⟨h1,_,h2⟩:=h
  by_cases e:p.1=k
  ·have e':q.1=k:=h1.symm.trans e
   have b:atKey (q::qs) k=some q.2:=by simp [atKey,List.find?_cons,e']
   rw[Z20 e,b];exact h2
  ·have e':¬q.1=k:=fun z=>e (h1.trans z)
   have b:atKey (q::qs) k=atKey qs k:=by simp [atKey,List.find?_cons,e']
   rw[Z21 e,b];exact ih
theorem KT.repl {H:Hp}{kvs:List (List Key×V)}{xs:List (List Key×Addr×Value)}(r:KT H kvs xs)(k:List Key){y:V}{u:Value}(ry:RelV y u):
  KT H (kvs.map fun kv=>if kv.1=k then (kv.1,y) else kv) (xs.map (putAt k u)):=by
 induction r with
 |nil=>exact .nil
 | @cons p q ps qs h t ih=>
  rw[map_cons,map_cons]
  refine .cons ?_ ih
  obtain⟨h1,h2,h3⟩:=h
  unfold putAt
  by_cases e:p.1=k
  ·rw[if_pos e,if_pos (h1.symm.trans e)];exact⟨h1,h2,ry⟩
  ·rw[if_neg e,if_neg (fun z=>e (h1.trans z))];exact⟨h1,h2,h3⟩
theorem KT.put {H:Hp}{kvs:List (List Key×V)}{xs:List (List Key×Addr×Value)}(r:KT H kvs xs)(k:List Key){b:Addr}{y:V}{u:Value}(hb:H b=some (.tup (k.map kV)))(ry:RelV y u):
  KT H (Z2t kvs k y) (storedH xs k b u):=by
 have e:(kvs.any fun kv=>decide (kv.1=k))=(atKey xs k).isSome:=by
  rw[Z5r,(r.val k).isSome_eq,Option.isSome_map]
 unfold Z2t storedH
 rw[e]
 by_cases q:(atKey xs k).isSome=true
 ·rw[if_pos q,if_pos q];exact r.repl k ry
 ·rw[if_neg q,if_neg q];exact Paired.snoc r ⟨rfl,hb,ry⟩
theorem KT.keeps {H H':Hp}{kvs:List (List Key×V)}{xs:List (List Key×Addr×Value)}(r:KT H kvs xs)(ht:∀b ys,H b=some (.tup ys)->H' b=some (.tup ys)):KT H' kvs xs:=
 Paired.mapP r fun _ _ z=>⟨z.1,ht _ _ z.2.1,z.2.2⟩
section
variable {P:Program}{w:World}{H:Hp}{h:Heap}{a:Addr}
theorem Zk5 {u:HO}(ok:HOk P w H h)(e:Rd H a u):ObjOk P w H h a u:=e.ok ok
theorem Z96 {kvs:List (Key×V)}(ok:HOk P w H h)(e:Rd H a (.dK kvs)):kvs.length<=sizeLine/\(a==sysModules)=false/\∃vs,KV kvs vs/\h.DictOf (Z13 P w) a vs:=
 show ObjOk P w H h a (.dK kvs) from Zk5 ok e
theorem Zfm {kvs:List (Key×V)}(ok:HOk P w H h)(e:H a=some (.dK kvs)):kvs.length<=sizeLine/\(a==sysModules)=false/\∃vs,KV kvs vs/\h.DictOf (Z13 P w) a vs:=Z96 ok (.inl e)
theorem Z7a {ks:List Key}(ok:HOk P w H h)(e:H a=some (.tup (ks.map kV))):(tupleKind (Z13 P w)).is h ks a:=by
 obtain⟨_,its,r,o,h1,h2,n,h3⟩:=(show ObjOk P w H h a (.tup (ks.map kV)) from ok a _ e)
 exact⟨o,its.toArray,n,h1,h2,h3,by simpa using Z95 r⟩
theorem Z9y {kvs:List (List Key×V)}(ok:HOk P w H h)(e:Rd H a (.dT kvs)):kvs.length<=sizeLine/\(a==sysModules)=false ∧
  ∃xs,KT H kvs xs/\h.DictOfH (tupleKind (Z13 P w)) a xs:=by
 obtain⟨z,y,xs,r,o,es,ep,h1,h2,h3,h4,h5⟩:=(show ObjOk P w H h a (.dT kvs) from Zk5 ok e)
 refine⟨z,y,xs,r,o,es,ep,h1,h2,h3,h4,fun x hx=>?_,h5⟩
 have all:∀{l:List (List Key×V)} {m:List (List Key×Addr×Value)},KT H l m->∀x∈m,(tupleKind (Z13 P w)).is h x.1 x.2.1:=by
  intro l m q
  induction q with
  |nil=>intro x hx;exact nomatch hx
  | @cons p q ps qs hq t ih=>
   intro x hx
   rcases mem_cons.mp hx with e|hx
   ·subst e
    exact Z7a ok (by rw[<- hq.1];exact hq.2.1)
   ·exact ih x hx
 exact all r x hx
theorem Zlv {kvs:List (List Key×V)}(ok:HOk P w H h)(e:H a=some (.dT kvs)):kvs.length<=sizeLine/\(a==sysModules)=false ∧
  ∃xs,KT H kvs xs/\h.DictOfH (tupleKind (Z13 P w)) a xs:=Z9y ok (.inl e)
end
def DGet (H:Hp)(a:Addr)(y:V)(r:Option V):Prop:=
 (∃kvs k,Rd H a (.dK kvs)/\y=kV k/\r=Z27 kvs k)∨∃kvs k b,Rd H a (.dT kvs)/\y = .ref b/\H b=some (.tup (k.map kV))/\r=Z27 kvs k
def DPut (H:Hp)(a:Addr)(y v:V)(H':Hp):Prop:=
 (∃kvs k,H a=some (.dK kvs)/\y=kV k/\kvs.length<sizeLine/\H'=upd H a (.dK (Z2t kvs k v))) ∨
 ∃kvs k b,H a=some (.dT kvs)/\y = .ref b/\H b=some (.tup (k.map kV))/\kvs.length<sizeLine/\H'=upd H a (.dT (Z2t kvs k v))
theorem DGet.k {H:Hp}{a:Addr}{kvs:List (Key×V)}{k:Key}(e:H a=some (.dK kvs)):DGet H a (kV k) (Z27 kvs k):=.inl ⟨kvs,k,.inl e,rfl,rfl⟩
theorem DPut.k {H:Hp}{a:Addr}{kvs:List (Key×V)}{k:Key}{v:V}(e:H a=some (.dK kvs))(hl:kvs.length<sizeLine):DPut H a (kV k) v (upd H a (.dK (Z2t kvs k v))):=.inl ⟨kvs,k,e,rfl,hl,rfl⟩
section
variable {X:Cx}{pins:List (Addr×Obj)}{σ:St}{H:Hp}{s:Shared}{a:Addr}{y v:V}{u r:Value}{o:Option V}{A:Around}{E:Value->Shared->Prop}
theorem Inv.big (I:Inv X pins σ H s):sysModules<s.heap.objs.size:=by
 have h:mainGlobals<s.heap.objs.size:=(I.mod.glob.keeps I.bk).lt
 exact Nat.lt_trans (by decide) h
theorem Zd7 {Q:Value->Shared->Prop}(hu:A.units+1<cLine)(I:Inv X pins σ H s)(g:DGet H a y (some v))(ry:RelV y u)(h:∀w' s',Inv X pins σ H s'->RelV v w'->Q w' s'):
  wpAny (model X.prog X.w) A (getItem (.ref a) u) Q E s:=by
 rcases g with ⟨kvs,k,e,ey,l⟩|⟨kvs,k,b,e,ey,eb,l⟩
 ·subst ey
  obtain⟨z,hd,vs,rel,dd⟩:=Z96 I.hok e
  obtain⟨w',hw,rw'⟩:=RelO.some_of (v:=v) (o:=valueAt vs k) (by rw[l];exact rel.val k)
  exact wpAny_getItem_of (Z81 ry) dd.mapOf hw (h w' _ (I.tok _) rw')
 ·subst ey
  cases (show u=Value.ref b from ry)
  obtain⟨z,hd,xs,rel,dd⟩:=Z9y I.hok e
  obtain⟨w',hw,rw'⟩:=RelO.some_of (v:=v) (o:=(atKey xs k).map (·.2)) (by rw[l];exact rel.val k)
  obtain⟨p,hp,hp2⟩:=Option.map_eq_some_iff.mp hw
  refine wpAny_getItem_heap (tupleKind_room_in1 hu) (Z7a I.hok eb) dd hp ?_
  rw[hp2]
  exact h w' _ (I.tok _) rw'
theorem Znk {Q:Value->Shared->Prop}(hu:A.units+1<cLine)(I:Inv X pins σ H s)(g:DGet H a y o)(ry:RelV y u)(h:∀s',Inv X pins σ H s'->Q (.bool o.isSome) s'):
  wpAny (model X.prog X.w) A (compareOp .In u (.ref a)) Q E s:=by
 rcases g with ⟨kvs,k,e,ey,l⟩|⟨kvs,k,b,e,ey,eb,l⟩
 ·subst ey
  obtain⟨z,hd,vs,rel,dd⟩:=Z96 I.hok e
  refine wpAny_in_of (Z81 ry) hd dd.mapOf ?_
  rw[<- (rel.val k).isSome_eq,<- l]
  exact h _ (I.tok _)
 ·subst ey
  cases (show u=Value.ref b from ry)
  obtain⟨z,hd,xs,rel,dd⟩:=Z9y I.hok e
  refine wpAny_in_heap (tupleKind_room_in1 hu) (Z7a I.hok eb) hd dd ?_
  have q:=(rel.val k).isSome_eq
  rw[Option.isSome_map] at q
  rw[<- q,<- l]
  exact h _ (I.tok _)
theorem Z65 {h':Heap}{t':Nat}{ob:HO}(I:Inv X pins σ H s)(mu:Mut (H a))(hs:Heap.SameBut a s.heap h')(he:∃q,h'.get? a=some q)(new:ObjOk X.prog X.w (upd H a ob) h' a ob):
  Inv X pins σ (upd H a ob) { s with heap:=h',toks:=t' }:=
 I.write (x:=a) (e:=a) mu (.inl rfl) (fun b q hb z=>(hs.2 b hb).trans z) he new
theorem Z97 {P:Program}{w:World}{H':Hp}{h':Heap}{kvs:List (Key×V)}{vs:List (Key×Value)}(z:kvs.length<=sizeLine)(hd:(a==sysModules)=false)(rel:KV kvs vs)(dd:h'.DictOf (Z13 P w) a vs):
  ObjOk P w H' h' a (.dK kvs):=⟨z,hd,vs,rel,dd⟩
theorem Zd8 {H':Hp}{Q:Unit->Shared->Prop}(hu:A.units+1<cLine)(I:Inv X pins σ H s)(g:DPut H a y v H')(ry:RelV y u)(rv:RelV v r)(h:∀s',Inv X pins σ H' s'->Q () s'):
  wpAny (model X.prog X.w) A (setItem (.ref a) u r) Q E s:=by
 rcases g with ⟨kvs,k,e,ey,l,eH⟩|⟨kvs,k,b,e,ey,eb,l,eH⟩
 ·subst ey eH
  obtain⟨z,hd,vs,rel,dd⟩:=Zfm I.hok e
  have hz:vs.length<=sizeLine:=by rw[<- rel.length];exact z
  have hl:(Z2t kvs k v).length<=sizeLine:=by have:=Z1n kvs k v;omega
  refine wpAny_setItem_pairs (hsz:=hz) (Z81 ry) dd fun h' dd' hs=>h _ ?_
  have he:∃q,h'.get? a=some q:=let ⟨q,_,_,hq,_⟩:=dd';⟨q,hq⟩
  exact Z65 I (by rw[e];exact True.intro) hs he (Z97 hl hd (rel.put k rv) dd')
 ·subst ey eH
  cases (show u=Value.ref b from ry)
  obtain⟨z,hd,xs,rel,dd⟩:=Zlv I.hok e
  have hz:xs.length<=sizeLine:=by rw[<- Paired.length rel];exact z
  have hl:(Z2t kvs k v).length<=sizeLine:=by have:=Z1n kvs k v;omega
  refine wpAny_setItem_heap (hsz:=hz) (tupleKind_room_in1 hu) (Z7a I.hok eb) dd fun h' dd' hs=>h _ ?_
  obtain⟨q,es,ep,hq,h2,h3,h4,_,h5⟩:=dd'
  refine Z65 I (by rw[e];exact True.intro) hs ⟨q,hq⟩ ⟨hl,hd,_,(rel.put k eb rv).keeps fun c ys ec=>?_,q,es,ep,hq,h2,h3,h4,h5⟩
  rw[Z0a (Z3i ec e (fun z=>nomatch z))]
  exact ec
end
def Zmz (i:Expr):Prop:=∀ov iv,subscripted i false ov iv=operate [ov,iv] (getItem ov iv)
theorem Zi5 {prog:Program}{w:World}{A:Around}{E:Value->Shared->Prop}{s:Shared}{env:Env}{value slice:Expr}{pos:Pos}{T id:String}{Q:Value->Shared->Prop}
  (hl:typeLookup (.type T) "__getitem__"=pure (some (.builtin id))) (hs:Zmz slice)
  (h:wpAny (model prog w) A (eval value env) (fun o s₁=>wpAny (model prog w) A (eval slice env) (fun i s₂=>s₂.TypeIs o T/\wpAny (model prog w) A (getItem o i) Q E s₂) E s₁) E s):
  wpAny (model prog w) A (eval (.Subscript value slice pos) env) Q E s:=by
 refine Subscript_ (wpAny_mono h (fun o s₁ h₁=>wpAny_mono h₁ (fun i s₂ h₂=>?_) fun _ _ x=>x) fun _ _ x=>x)
 obtain⟨hT,h₂⟩:=h₂
 unfold subscriptTail
 refine wpAny_bind ?_
 rw[getitemInPython_of_ne hT.not_modules]
 refine wpAny_bind (wpAny_specialOf hT hl ?_)
 have fin:wpAny (model prog w) A (subscripted slice false o i) (fun r s₃=>wpAny (model prog w) A (letTemporaryGo value o r >>= fun _=>pure r) Q E s₃) E s₂:=by
  rw[hs o i]
  exact wpAny_operating (wpAny_mono h₂ (fun r s₃ h₃=>wpAny_bind (wpAny_letTemporaryGo (wpAny_pure h₃))) fun _ _ x=>x)
 first
  |exact wpAny_pure (wpAny_bind fin)
  |exact wpAny_bind (wpAny_pure (wpAny_bind fin))
  |exact wpAny_bind fin
theorem Z9z {X:Cx}{pins:List (Addr×Obj)}{σ:St}{H:Hp}{s:Shared}{a:Addr}{y:V}{o:Option V}(I:Inv X pins σ H s)(g:DGet H a y o):s.TypeIs (.ref a) "dict":=by
 rcases g with ⟨kvs,k,e,_,_⟩|⟨kvs,k,b,e,_,_,_⟩
 ·obtain⟨_,_,vs,_,dd⟩:=Z96 I.hok e
  exact dd.typeIs
 ·obtain⟨_,_,xs,_,dd⟩:=Z9y I.hok e
  exact dd.typeIs
def Zlw (td ty:TE):TE:=fun σ H Q=>td σ H fun x H1=>ty σ H1 fun y H2=>∃a v,x = .ref a/\DGet H2 a y (some v)/\Q v H2
def Znl (ty td:TE):TE:=fun σ H Q=>ty σ H fun y H1=>td σ H1 fun x H2=>∃a o,x = .ref a/\DGet H2 a y o/\Q (.bl o.isSome) H2
def Zlx (td ty tv:TE):TS:=fun D σ H=>tv σ H fun v H1=>td σ H1 fun x H2=>ty σ H2 fun y H3=>∃a H4,x = .ref a/\DPut H3 a y v H4/\D.nx σ H4
section
variable {X:Cx}{o i e value:Expr}{pos pos' tpos:Pos}{td ty tv:TE}
theorem Z0t (hu:X.A.units+1<cLine)(ho:PE X o td)(hi:PE X i ty)(hs:Zmz i):PE X (.Subscript o i pos) (Zlw td ty):=by
 intro pins s σ H Q I h
 refine Zi5 PySem.F.slot_dict_getitem.lookup hs (thn (ho pins s σ H _ I h) fun u s1 ⟨x,H1,I1,rx,q1⟩=>thn (hi pins s1 σ H1 _ I1 q1) fun iv s2 ⟨y,H2,I2,ry,a,v,ex,g,q2⟩=>?_)
 subst ex
 obtain rfl:u=Value.ref a:=rx
 exact⟨Z9z I2 g,Zd7 hu I2 g ry fun w' s3 I3 rw'=>⟨v,H2,I3,rw',q2⟩⟩
theorem Zk6 (hu:X.A.units+1<cLine)(hi:PE X i ty)(ho:PE X o td):PC X .In i o (Znl ty td):=by
 intro pins s σ H Q I h
 refine thn (hi pins s σ H _ I h) fun iv s1 ⟨y,H1,I1,ry,q1⟩=>thn (ho pins s1 σ H1 _ I1 q1) fun u s2 ⟨x,H2,I2,rx,a,ov,ex,g,q2⟩=>?_
 subst ex
 obtain rfl:u=Value.ref a:=rx
 exact Znk hu I2 g ry fun s3 I3=>⟨.bl ov.isSome,H2,I3,rfl,q2⟩
theorem Z22 (hu:X.A.units+1<cLine)(ho:PE X o td)(hi:PE X i ty)(hv:PE X value tv)(hs:swapsWith value (some (.Subscript o i pos')) pos.line X.env=pure false):
  PS X (.Assign [.Subscript o i pos'] value pos) (Zlx td ty tv):=by
 intro pins s σ H D I h
 refine wpAny_Assign_Subscript (thn (hv pins s σ H _ I h) fun r s1 ⟨v,H1,I1,rv,q1⟩=>thn (ho pins s1 σ H1 _ I1 q1) fun u s2 ⟨x,H2,I2,rx,q2⟩=>thn (hi pins s2 σ H2 _ I2 q2) fun iv s3 ⟨y,H3,I3,ry,a,H4,ex,g,q3⟩=>?_) hs
 subst ex
 obtain rfl:u=Value.ref a:=rx
 exact Zd8 hu I3 g ry rv fun s4 I4=>⟨σ,H4,I4,q3⟩
end
theorem Z82 {P:Program}{w:World}{H:Hp}(h:Heap)(hb:sysModules<h.objs.size):ObjOk P w H (h.push { cls:=.type "dict",data:=.dict #[] }) h.objs.size (.dK []):=
 ⟨Nat.zero_le _,beq_eq_false_iff_ne.mpr (Ne.symm (Nat.ne_of_lt hb)),[],.nil,Heap.DictOf.new h⟩
def tDNewK:TE:=fun _ H Q=>∀p,H p=none->Q (.ref p) (upd H p (.dK []))
section
variable {X:Cx}{pos:Pos}
theorem Z4k:PE X (.Dict [] [] pos) tDNewK:=fun pins s σ H Q I h=>
 wpAny_Dict_empty ⟨.ref s.heap.objs.size,_,I.laid (a:=s.heap.objs.size) (o:=.dK []) (t':=s.toks) (fun _ _ q=>Heap.get?_push_of_some _ q) (Nat.le_refl _) (Z82 s.heap I.big),rfl,h _ (I.hok.fresh (Nat.le_refl _))⟩
end
def Zd9:List (TE×TE)->St->Hp->(List (V×V)->Hp->Prop)->Prop
 |[],_,H,Q=>Q [] H
 | (tk,tv)::r,σ,H,Q=>tk σ H fun x H1=>tv σ H1 fun y H2=>Zd9 r σ H2 fun ps H3=>Q ((x,y)::ps) H3
abbrev VV:List (V×V)->List (Value×Value)->Prop:=Paired fun p q=>RelV p.1 q.1/\RelV p.2 q.2
def PPs (X:Cx)(pos:Pos)(keys:List (Option Expr))(values:List Expr)(trs:List (TE×TE)):Prop:=
 ∀(pins:List (Addr×Obj)) (s:Shared) (σ:St) (H:Hp) (Q:List (V×V)->Hp->Prop),Inv X pins σ H s->Zd9 trs σ H Q →
  wpAny (model X.prog X.w) X.A (evalPairs (pairTrees keys values X.env pos)) (fun vs s'=>∃ps H',Inv X pins σ H' s'/\VV ps vs/\Q ps H') X.xe s
theorem Zda {X:Cx}{pos:Pos}:PPs X pos [] [] []:=fun pins s σ H Q I h=>pairTrees_nil_walk ⟨[],H,I,.nil,h⟩
theorem Z23 {X:Cx}{pos:Pos}{k v:Expr}{ks:List (Option Expr)}{vs:List Expr}{tk tv:TE}{trs:List (TE×TE)}(hk:PE X k tk)(hv:PE X v tv)(hr:PPs X pos ks vs trs):
  PPs X pos (some k::ks) (v::vs) ((tk,tv)::trs):=fun pins s σ H Q I h=>
 pairTrees_cons_walk (thn (hk pins s σ H _ I h) fun u s1 ⟨x,H1,I1,rx,q1⟩=>thn (hv pins s1 σ H1 _ I1 q1) fun w2 s2 ⟨y,H2,I2,ry,q2⟩=>
  thn (hr pins s2 σ H2 _ I2 q2) fun ws s3 ⟨ps,H3,I3,rel,q3⟩=>⟨(x,y)::ps,H3,I3,.cons ⟨rx,ry⟩ rel,q3⟩)
def Z66 (kvs more:List (Key×V)):List (Key×V):=more.foldl (fun acc kv=>Z2t acc kv.1 kv.2) kvs
theorem KV.merge:∀{more:List (Key×V)} {rs:List (Key×Value)} {kvs:List (Key×V)} {vs:List (Key×Value)},KV more rs->KV kvs vs->KV (Z66 kvs more) (merged vs rs):=by
 intro more rs kvs vs r
 unfold KV at r
 induction r generalizing kvs vs with
 |nil=>intro q;exact q
 | @cons p q ps qs h t ih=>
  intro r0
  have e:KV (Z2t kvs p.1 p.2) (stored vs q.1 q.2):=by
   have:=r0.put p.1 h.2
   rw[<- h.1];exact this
  exact ih e
theorem Z4l:∀(more kvs:List (Key×V)),(Z66 kvs more).length<=kvs.length+more.length
 |[],kvs=>by show kvs.length<=kvs.length+0;omega
 |p::r,kvs=>by
  have h1:=Z4l r (Z2t kvs p.1 p.2)
  have h2:=Z1n kvs p.1 p.2
  show(Z66 (Z2t kvs p.1 p.2) r).length<=_
  rw[length_cons];omega
theorem Z7b {P:Program}{w:World}:∀{kvs:List (Key×V)} {ws:List (Value×Value)},VV (kvs.map fun kv=>(kV kv.1,kv.2)) ws->∃rs,Carries (Z13 P w) ws rs/\KV kvs rs
 |[],_,r=>by rw[map_nil] at r;cases r;exact⟨[],True.intro,.nil⟩
 |p::kvs,_,r=>by
  rw[map_cons] at r
  cases r with
  | @cons a b as bs h t=>
   obtain⟨rs,c,q⟩:=Z7b (P:=P) (w:=w) t
   obtain⟨b1,b2⟩:=b
   exact⟨(p.1,b2)::rs,⟨Z81 h.1,rfl,c⟩,.cons ⟨rfl,h.2⟩ q⟩
def Zly (trs:List (TE×TE)):TE:=fun σ H Q=>∀p,H p=none->Zd9 trs σ (upd H p (.dK [])) fun ps H2=>H2 p=some (.dK [])/\∃kvs:List (Key×V),ps=kvs.map (fun kv=>(kV kv.1,kv.2))/\kvs.length<=15/\Q (.ref p) (upd H2 p (.dK (Z66 [] kvs)))
theorem Zdb {X:Cx}{pos:Pos}{keys:List (Option Expr)}{values:List Expr}{trs:List (TE×TE)}(h:PPs X pos keys values trs)(hall:keys.all (·.isSome)=true)(hl:keys.length=values.length)(h0:keys ≠ [])
  (h15:keys.length<=15):PE X (.Dict keys values pos) (Zly trs):=by
 intro pins s σ H Q I q
 have hn:=I.hok.fresh (Nat.le_refl s.heap.objs.size)
 have I1:=I.laid (a:=s.heap.objs.size) (o:=.dK []) (h':=s.heap.push { cls:=.type "dict",data:=.dict #[] }) (t':=s.toks) (fun _ _ q=>Heap.get?_push_of_some _ q) (Nat.le_refl _) (Z82 s.heap I.big)
 refine wpAny_Dict_walk (knd:=Z13 X.prog X.w) hall hl h0 h15 (thn (h pins _ σ _ _ I1 (q _ hn)) fun ws s2 ⟨ps,H2,I2,rel,e,kvs,ep,lk,q2⟩=>?_)
 subst ep
 obtain⟨rs,c,rk⟩:=Z7b (P:=X.prog) (w:=X.w) rel
 obtain⟨z,hd,vs0,r0,dd⟩:=Zfm I2.hok e
 cases r0
 refine⟨rs,c,dd,fun h' dd' hs=>⟨.ref s.heap.objs.size,_,?_,rfl,q2⟩⟩
 have hz:(Z66 [] kvs).length<=sizeLine:=by
  have h1:=Z4l kvs []
  rw[length_nil] at h1
  rw[sizeLine_eq];omega
 have he:∃q,h'.get? s.heap.objs.size=some q:=let ⟨q,_,_,hq,_⟩:=dd';⟨q,hq⟩
 exact Z65 I2 (by rw[e];exact True.intro) hs he (Z97 hz hd (rk.merge .nil) dd')
structure M1 (X:Cx)(o:Expr)(m:Str)(apos:Pos)(e:Expr)(cpos:Pos):Prop where
 base:attributeBase o m X.env (eval o X.env)=eval o X.env
 few:((backTo cpos (starEach [e] X.env)).all (fun x => !x.1)&&(backToKw cpos (keywordEach [] X.env)).all (fun x=>x.1.isSome)
  && decide (([e]:List Expr).length+([]:List Keyword).length+(if ([]:List Keyword).isEmpty then 0 else 1)<30))=true
 line:(apos.endLine==cpos.line)=true
 trees:backTo cpos (starEach [e] X.env) = [(false,eval e X.env)]
structure M2 (X:Cx)(o:Expr)(m:Str)(apos:Pos)(e f:Expr)(cpos:Pos):Prop where
 base:attributeBase o m X.env (eval o X.env)=eval o X.env
 few:((backTo cpos (starEach [e,f] X.env)).all (fun x => !x.1)&&(backToKw cpos (keywordEach [] X.env)).all (fun x=>x.1.isSome)
  && decide (([e,f]:List Expr).length+([]:List Keyword).length+(if ([]:List Keyword).isEmpty then 0 else 1)<30))=true
 line:(apos.endLine==cpos.line)=true
 trees:backTo cpos (starEach [e,f] X.env) = [(false,eval e X.env),(false,eval f X.env)]
def IsD (H:Hp)(a:Addr):Prop:=(∃kvs,Rd H a (.dK kvs))∨∃kvs,Rd H a (.dT kvs)
theorem Zdc {X:Cx}{pins:List (Addr×Obj)}{σ:St}{H:Hp}{s:Shared}{a:Addr}(I:Inv X pins σ H s)(d:IsD H a):
  s.TypeIs (.ref a) "dict"/\(∀b,Value.ref a = .ref b->∃ob,s.heap.get? b=some ob/\ob.dict=none)/\(a==sysModules)=false:=by
 rcases d with ⟨kvs,e⟩|⟨kvs,e⟩
 ·obtain⟨_,hd,vs,_,dd⟩:=Z96 I.hok e
  refine⟨dd.typeIs,fun b q=>?_,hd⟩
  cases q
  obtain⟨ob,_,_,h1,h2,_⟩:=dd
  exact⟨ob,h1,h2.2.1⟩
 ·obtain⟨_,hd,xs,_,dd⟩:=Z9y I.hok e
  refine⟨dd.typeIs,fun b q=>?_,hd⟩
  cases q
  obtain⟨ob,_,_,h1,h2,_⟩:=dd
  exact⟨ob,h1,h2.2.1⟩
section
variable {X:Cx}{pins:List (Addr×Obj)}{σ:St}{H:Hp}{s:Shared}{a:Addr}{y d:V}{u r:Value}{o:Option V}{A:Around}{E:Value->Shared->Prop}
theorem Zk7 {Q:Value->Shared->Prop}(hu:A.units+1<cLine)(I:Inv X pins σ H s)(g:DGet H a y o)(ry:RelV y u)(h:∀w' s',Inv X pins σ H s'->RelV (o.getD .non) w'->Q w' s'):
  wpAny (model X.prog X.w) A (call (.builtin "dict.get") [.ref a,u]) Q E s:=by
 rcases g with ⟨kvs,k,e,ey,l⟩|⟨kvs,k,b,e,ey,eb,l⟩
 ·subst ey
  obtain⟨z,hd,vs,rel,dd⟩:=Z96 I.hok e
  refine call_meetsIn PySem.F.slot_dict_get dd.typeIs PySem.F.entry_dict_get (PySem.F.args_dict_get_2 _ _) (meets_dict_get (Z13 X.prog X.w) a (Z81 ry) hd) ⟨_,dd.mapOf,h _ _ (I.tok _) ?_⟩
  rw[l]
  exact(rel.val k).getD rfl
 ·subst ey
  cases (show u=Value.ref b from ry)
  obtain⟨z,hd,xs,rel,dd⟩:=Z9y I.hok e
  refine call_meetsIn PySem.F.slot_dict_get dd.typeIs PySem.F.entry_dict_get (PySem.F.args_dict_get_2 _ _) (meetsH_dict_get (tupleKind (Z13 X.prog X.w)) a b hd) ⟨tupleKind_room_in1 hu,k,xs,Z7a I.hok eb,dd,h _ _ (I.tok _) ?_⟩
  rw[l]
  exact(rel.val k).getD rfl
theorem Zk8 {Q:Value->Shared->Prop}(hu:A.units+1<cLine)(I:Inv X pins σ H s)(g:DGet H a y o)(ry:RelV y u)(rd:RelV d r)(h:∀w' s',Inv X pins σ H s'->RelV (o.getD d) w'->Q w' s'):
  wpAny (model X.prog X.w) A (call (.builtin "dict.get") [.ref a,u,r]) Q E s:=by
 rcases g with ⟨kvs,k,e,ey,l⟩|⟨kvs,k,b,e,ey,eb,l⟩
 ·subst ey
  obtain⟨z,hd,vs,rel,dd⟩:=Z96 I.hok e
  refine call_meetsIn PySem.F.slot_dict_get dd.typeIs PySem.F.entry_dict_get (PySem.F.args_dict_get_3 _ _ _) (meets_dict_get_default (Z13 X.prog X.w) a (Z81 ry) hd r) ⟨_,dd.mapOf,h _ _ (I.tok _) ?_⟩
  rw[l]
  exact(rel.val k).getD rd
 ·subst ey
  cases (show u=Value.ref b from ry)
  obtain⟨z,hd,xs,rel,dd⟩:=Z9y I.hok e
  refine call_meetsIn PySem.F.slot_dict_get dd.typeIs PySem.F.entry_dict_get (PySem.F.args_dict_get_3 _ _ _) (meetsH_dict_get_default (tupleKind (Z13 X.prog X.w)) a b hd r) ⟨tupleKind_room_in1 hu,k,xs,Z7a I.hok eb,dd,h _ _ (I.tok _) ?_⟩
  rw[l]
  exact(rel.val k).getD rd
end
def Zk9 (td ty:TE):TE:=fun σ H Q=>td σ H fun x H1=>∃a,x = .ref a/\IsD H1 a/\ty σ H1 fun y H2=>∃o,DGet H2 a y o/\Q (o.getD .non) H2
def Zka (td ty tx:TE):TE:=fun σ H Q=>td σ H fun x H1=>∃a,x = .ref a/\IsD H1 a/\ty σ H1 fun y H2=>tx σ H2 fun z H3=>∃o,DGet H3 a y o/\Q (o.getD z) H3
section
variable {X:Cx}{o e f:Expr}{apos cpos:Pos}{td ty tx:TE}
theorem Zfn (hu:X.A.units+1<cLine)(ho:PE X o td)(he:PE X e ty)(m:M1 X o "get" apos e cpos):PE X (.Call (.Attribute o "get" apos) [e] [] cpos) (Zk9 td ty):=by
 intro pins s σ H Q I h
 refine wpAny_Call_method m.base m.few m.line PySem.F.plainAttrs_dict PySem.F.slot_dict_get PySem.F.type_dict_get (thn (ho pins s σ H _ I h) fun u s1 ⟨x,H1,I1,rx,a,ex,d,q1⟩=>?_)
 subst ex
 obtain rfl:u=Value.ref a:=rx
 obtain⟨t1,t2,_⟩:=Zdc I1 d
 refine⟨t1,t2,?_⟩
 rw[m.trees]
 refine Calls.callWith_builtin rfl (Calls.evalArgs_plain (Calls.spliced_cons (thn (he pins s1 σ H1 _ I1 q1) fun iv s2 ⟨y,H2,I2,ry,ov,g,q2⟩=>Calls.spliced_nil ?_)))
 exact Zk7 hu I2 g ry fun w' s3 I3 rw'=>⟨_,H2,I3,rw',q2⟩
theorem Zap (hu:X.A.units+1<cLine)(ho:PE X o td)(he:PE X e ty)(hf:PE X f tx)(m:M2 X o "get" apos e f cpos):PE X (.Call (.Attribute o "get" apos) [e,f] [] cpos) (Zka td ty tx):=by
 intro pins s σ H Q I h
 refine wpAny_Call_method m.base m.few m.line PySem.F.plainAttrs_dict PySem.F.slot_dict_get PySem.F.type_dict_get (thn (ho pins s σ H _ I h) fun u s1 ⟨x,H1,I1,rx,a,ex,d,q1⟩=>?_)
 subst ex
 obtain rfl:u=Value.ref a:=rx
 obtain⟨t1,t2,_⟩:=Zdc I1 d
 refine⟨t1,t2,?_⟩
 rw[m.trees]
 refine Calls.callWith_builtin rfl (Calls.evalArgs_plain (Calls.spliced_cons (thn (he pins s1 σ H1 _ I1 q1) fun iv s2 ⟨y,H2,I2,ry,q2⟩=>
  Calls.spliced_cons (thn (hf pins s2 σ H2 _ I2 q2) fun fv s3 ⟨z,H3,I3,rz,ov,g,q3⟩=>Calls.spliced_nil ?_))))
 exact Zk8 hu I3 g ry rz fun w' s4 I4 rw'=>⟨_,H3,I4,rw',q3⟩
end
section
variable {X:Cx}{pins:List (Addr×Obj)}{σ:St}{H:Hp}{s:Shared}{a:Addr}{kvs:List (Key×V)}{A:Around}{E:Value->Shared->Prop}
theorem Zfo {Q:Value->Shared->Prop}(I:Inv X pins σ H s)(e:Rd H a (.dK kvs))(h:∀p s',H p=none->Inv X pins σ (upd H p (.dK kvs)) s'->Q (.ref p) s'):wpAny (model X.prog X.w) A (call (.type "dict") [.ref a]) Q E s:=by
 obtain⟨z,hd,vs,rel,dd⟩:=Z96 I.hok e
 refine kt_call_dict hd dd (by rw[<- rel.length];exact z) fun h' dd' hs=>?_
 refine h _ _ (I.hok.fresh (Nat.le_refl _)) (I.laid (a:=s.heap.objs.size) (o:=.dK kvs) (t':=s.toks) (fun b q hq=>?_) (Nat.le_refl _) (Z97 z (beq_eq_false_iff_ne.mpr (Ne.symm (Nat.ne_of_lt I.big))) rel dd'))
 exact(hs.2 b (Nat.ne_of_lt (Heap.lt_size hq))).trans (Heap.get?_push_of_some _ hq)
end
end L2
namespace Att
open PySem PySem.W PySem.Calls PyProof.Rows
theorem Z67 {P:Params}{h:Heap}:∀(ns:List Int) (vs:List Value),WellAll P h vs (ns.map WData.int)->IntsAre vs ns:=by
 intro ns
 induction ns with
 |nil=>
  intro vs w
  rw[map_nil] at w
  cases w
  exact .nil
 |cons n ns ih=>
  intro vs w
  rw[map_cons] at w
  cases w with
  |cons a b=>
   cases a
   exact .cons _ _ (ih _ b)
theorem Zdd {l:OpenLaw}{n:Nat}(hn:l.most=some n){P:Params}{h:Heap}{args:List WData}{vals:List Value}
  (hpre:l.row.toRowW.claim.pre args=true) (hwl:WellAll P h vals args):
  ∃a vs ns,vals = [Value.ref a]/\args = [WData.list (ns.map WData.int)]/\h.get? a=some { cls:=.type "list",data:=.seq vs.toArray }/\IntsAre vs ns/\ns.length<=n:=by
 have hsh:WShape.hasAll [] args [.list .int]=true:=(pre_splitW hpre).1
 have hc:l.pre.holds [] { args:=args }=true:=(pre_splitW hpre).2
 obtain⟨d,r,rfl,h1,h2⟩:=hasAllW_cons hsh
 obtain rfl:=hasAllW_nil h2
 obtain⟨xs,rfl,h3⟩:=hasW_list h1
 obtain⟨ns,rfl⟩:=items_int h3
 have hlen:ns.length<=n:=by
  unfold OpenLaw.pre at hc
  have h4:(WTm.not (.lt (.lit (.int (n:Int))) (.len (.arg 0)))).holds [] { args:=[.list (ns.map .int)] }=true:=by
   have h4:=(holds_andW hc).1
   rw[hn] at h4
   exact h4
  have h5:=condW_of h4 (w_not (w_lt w_lit (w_len_list (w_arg rfl))))
  rw[length_map] at h5
  refine Nat.le_of_not_lt fun q=>?_
  have q':(n:Int)<((ns.length:Nat):Int):=by omega
  first
   | (rw[decide_eq_true q'] at h5;exact absurd h5 (by decide))
   | (simp at h5;omega)
 cases hwl with
 |cons w1 w2=>
  cases w2
  cases w1 with
  |list ho hall=>exact⟨_,_,ns,rfl,rfl,ho,Z67 ns _ hall,hlen⟩
theorem Zde (l:OpenLaw)(args:List WData):l.row.toRowW.claim.post args (.bool true) args=true:=
 postW_of (r:=l.row.toRowW) (X:=(true==true))
  (show WShape.has [] (.bool true) .bool=true by first|rfl|decide|simp [WShape.has,WShape.arms,WShape.armsAll])
  (show(WTm.eq .res (.lit (.bool true))).value [] { args:=args,res:=some (.bool true),after:=args }=some (.bool (true==true)) from w_eq_bool (w_res rfl) w_lit) rfl
theorem attach_call {l:OpenLaw}{n:Nat}{q:Program}{loose:List Str}{XP:(Str->Option Value)->Heap->Prop}{YP:World->Heap->Prop}{d:DefRec}
  (hn:l.most=some n) (hdf:d.params.defaults = [])
  (call:∀(w:World) (s₀ s₁:Shared) (mg mb:Str->Option Value) (fa:Addr) (o:Obj) (pm cd doc:Value) (a:Addr) (vs:List Value) (ns:List Int),
   Ground q loose [] XP w s₀ mg mb s₁.heap->YP w s₁.heap →
   s₁.heap.get? fa=some o->o.data = .func (docDef d.name d.params d.body d.scope pm cd doc)->s₁.heap.CodeRec cd d.name->mg d.name=some (.ref fa) →
   s₁.heap.get? a=some { cls:=.type "list",data:=.seq vs.toArray }->IntsAre vs ns->ns.length<=n->s₁.gens = #[] →
   codeAny (model l.prog w) callerA (.call (.ref fa) ⟨[.ref a],[]⟩) (fun r s'=>r = .ok (.ret (.bool true))/\OldK s₁.heap s'.heap/\s'.os=s₁.os/\AllBare s'.gens) s₁):
  WalkO q loose XP YP l.row.toRowW d [] (fun f vs=>PySem.call f vs):=by
 intro w s₀ s₁ mg mb G Y fa o pm cd doc dV kV ho hd hcd hD hmg hg args vals as hpre hlay hrd hwl hlo
 obtain rfl:dV = .none:=Dflts.none hD hdf
 obtain rfl:kV = .none:=Dflts.noKw hD
 obtain⟨a,vs,ns,rfl,rfl,hobj,hints,hlen⟩:=Zdd hn hpre hwl
 refine enter_call (codeAny_mono (call w s₀ s₁ mg mb fa o pm cd doc a vs ns G Y ho (fd_plain hd) hcd hmg hobj hints hlen hg) fun r s' hq=>?_)
 obtain⟨rfl,h2,h3,h4⟩:=hq
 exact⟨.inl ⟨.bool true,.bool true,[],rfl,fun _=>rfl,.bool true,Zde l _,fun _=>⟨List.Pairwise.nil,fun _ hm=>(nomatch hm)⟩⟩,h2,h3,h4⟩
end Att
namespace L2
open PySem PySem.Spec PyProof.Rows
theorem Z98:∀{vs:List Value} {ns:List Int},IntsAre vs ns->Vals (ns.map V.int) vs
 |_,_,.nil=>.nil
 |_,_,.cons n t h=>.cons ⟨t,rfl⟩ (Z98 h)
def Zlz (H:Hp):Prop:=∀b,H b=none∨∃o xs,H b=some (.frz o (.lst xs))
theorem Zfp {P:Program}{w:World}{K:PySem.W.Frag}{mg mb:Str->Option Value}{CX:CXT}{k:Nat}{fa a:Addr}{fd:FuncData}{x:Str}{sp:Sp}{s₁:Shared}{vs:List Value}{ns:List Int}
  (KX:K.In s₁.heap) (hns:s₁.heap.Ns mainGlobals mg) (hb:s₁.heap.Ns builtinsNs mb) (hbb:∀x:Str,x≠"__name__"->mb x=bootBuiltins x) (hlim:s₁.heap.NoLimit) (hg:s₁.gens = #[])
  (ha:s₁.heap.get? a=some { cls:=.type "list",data:=.seq vs.toArray }) (hi:IntsAre vs ns) (hl:ns.length<=sizeLine) (hr:Room k callerA)
  (F:∀base:Heap,K.In base->base.Ns mainGlobals mg->FnOk P w K mg base CX k fa fd [x] sp) (hbind:∀(s:Shared) (u:Value),BindsTo s fd ⟨[u],[]⟩ [(x,u)])
  (hsp:∀H:Hp,Zlz H->SqL K H a (ns.map V.int)->sp [.ref a] H (fun v _=>v = .bl true) fun _ _ _=>False)
  (hCX:∀H e s',CX [] H s₁ (fun _ _ _=>False) e s'->False):
  codeAny (model P w) callerA (.call (.ref fa) ⟨[.ref a],[]⟩) (fun r s'=>r = .ok (.ret (.bool true))/\OldK s₁.heap s'.heap/\s'.os=s₁.os/\AllBare s'.gens) s₁:=by
 have rv:=Z98 hi
 have lenV:=hi.length
 have core:∀H:Hp,Zlz H->SqL K H a (ns.map V.int)->HOk P w H s₁.heap->(∀b,H b≠none->b=a)->(H a≠none->K.lookup a=none) →
   codeAny (model P w) callerA (.call (.ref fa) ⟨[.ref a],[]⟩) (fun r s'=>r = .ok (.ret (.bool true))/\OldK s₁.heap s'.heap/\s'.os=s₁.os/\AllBare s'.gens) s₁:=by
  intro H hO hS hok hA hK
  have base_of:∀{b:Addr} {o:Obj},s₁.heap.get? b=some o->H b=none->(Zfb s₁.heap H).get? b=some o:=fun e n=>Zfc e n
  have noA:∀{b:Addr} {o:Obj} {es:Array DictEntry} {ep:Nat},s₁.heap.get? b=some o->o.data = .dict es ep->H b=none:=fun {b o es ep} e d=>by
   cases q:H b with
   |none=>rfl
   |some u=>
    have e':b=a:=hA b (by rw[q];simp)
    subst e'
    rw[ha] at e;cases e
    have d':Data.seq vs.toArray _=Data.dict es ep:=d
    cases d'
  have nsK:∀{b:Addr} {m:Str->Option Value},s₁.heap.Ns b m->(Zfb s₁.heap H).Ns b m:=fun {b m} ⟨o,es,ep,e,d,r⟩=>⟨o,es,ep,base_of e (noA e d),d,r⟩
  have hKb:K.In (Zfb s₁.heap H):=fun b o e=>base_of (KX b o e) (by
   cases q:H b with
   |none=>rfl
   |some u=>
    have e':b=a:=hA b (by rw[q];simp)
    subst e'
    rw[hK (by rw[q];simp)] at e;cases e)
  have hM:Mod K mg (Zfb s₁.heap H):=⟨hKb,nsK hns,⟨mb,nsK hb,hbb⟩,let ⟨mc,h1,h2⟩:=hlim;⟨mc,nsK h1,h2⟩⟩
  have e0:Env0 P w K mg (Zfb s₁.heap H) callerA [] s₁ H:=⟨rfl,hM,fun b o e=>Zhy e,Nat.le_of_eq (Zcs _ _),trivial,fun b hb=>absurd (show b∈([]:List Addr) from hb) (by simp),hok,.of_eq hg⟩
  refine codeAny_mono ((F _ hKb (nsK hns)).run callerA [] s₁ H ⟨[.ref a],[]⟩ [.ref a] [.ref a] _ _ hr e0 (hbind s₁ (.ref a)) (.cons rfl .nil) (hsp H hO hS)) fun r s' h=>?_
  cases r with
  |error e=>exact(hCX H e s' h).elim
  |ok fl=>
   cases fl with
   |next=>exact False.elim h
   |brk=>exact False.elim h
   |cont=>exact False.elim h
   |ret u=>
    obtain⟨v,H',os,bare,un,hok',r',q⟩:=h
    have q':v = .bl true:=q
    subst q'
    obtain rfl:u=Value.bool true:=r'
    refine⟨rfl,OldK.of_keep fun b o e=>?_,os,bare⟩
    cases q:H b with
    |none=>exact un.keep b o e q (by intro z;exact absurd (show b∈([]:List Addr) from z) (by simp)) (by simp)
    |some u=>
     rcases hO b with z|⟨ob,xs,z⟩
     ·rw[q] at z;cases z
     ·have z2:=un.frzs b ob _ z
      obtain⟨e1,_⟩:=hok b _ z
      obtain⟨e2,_⟩:=hok' b _ z2
      rw[e] at e1;cases e1
      exact e2
 cases hk:K.lookup a with
 |some o=>
  have e:=KX a o hk
  rw[ha] at e
  cases e
  refine core (fun _=>none) (fun _=>.inl rfl) (.inr ⟨_,vs.toArray,_,hk,rfl,rfl,rfl,by rw[size_toArray,lenV];exact hl,by simpa using rv⟩) (fun b u z=>by have z':(none:Option HO)=some u:=z;cases z') (fun b z=>absurd rfl z) fun z=>absurd rfl z
 |none=>
  refine core (fun b=>if b=a then some (.frz { cls:=.type "list",data:=.seq vs.toArray } (.lst (ns.map V.int))) else none) (fun b=>?_) (.inl (.inr ⟨{ cls:=.type "list",data:=.seq vs.toArray },if_pos rfl⟩)) (fun b u z=>?_) (fun b z=>?_) fun _=>hk
  ·by_cases hb:b=a
   ·exact .inr ⟨_,_,if_pos hb⟩
   ·exact .inl (if_neg hb)
  ·by_cases hb:b=a
   ·have z':=(if_pos hb).symm.trans z
    cases z'
    subst hb
    exact⟨ha,by rw[length_map];exact hl,vs,_,rv,ha⟩
   ·have z':=(if_neg hb).symm.trans z
    cases z'
  ·by_cases hb:b=a
   ·exact hb
   ·exact absurd (if_neg hb) z
theorem walk_of {l:PySem.W.OpenLaw}{n k:Nat}{q:Program}{loose:List Str}{XP:(Str->Option Value)->Heap->Prop}{YP:World->Heap->Prop}{d:DefRec}{K:Params->PySem.W.Frag}{CX:World->CXT}{sp:World->Sp}{x:Str}
  (hn:l.most=some n) (hn2:n<=sizeLine) (hdf:d.params.defaults = []) (hr:Room k callerA)
  (hY:∀(w:World) (h:Heap),YP w h->(K w.params).In h)
  (F:∀(w:World) (mg:Str->Option Value) (fa:Addr) (h:Heap),(K w.params).In h->h.Ns mainGlobals mg->mg d.name=some (.ref fa) →
   ∃fd:FuncData,(∀(s:Shared) (u:Value),BindsTo s fd ⟨[u],[]⟩ [(x,u)]) ∧
    ∀base:Heap,(K w.params).In base->base.Ns mainGlobals mg->FnOk l.prog w (K w.params) mg base (CX w) k fa fd [x] (sp w))
  (hsp:∀(w:World) (H:Hp) (a:Addr) (ns:List Int),ns.length<=n->Zlz H->SqL (K w.params) H a (ns.map V.int)->sp w [.ref a] H (fun v _=>v = .bl true) fun _ _ _=>False)
  (hCX:∀(w:World) (H:Hp) (s:Shared) (e:Value) (s':Shared),CX w [] H s (fun _ _ _=>False) e s'->False):
  PySem.W.WalkO q loose XP YP l.row.toRowW d [] (fun f vs=>PySem.call f vs):=by
 refine Att.attach_call hn hdf fun w s₀ s₁ mg mb fa o pm cd doc a vs ns G Y ho hd hcd hmg hobj hints hlen hg=>?_
 have KX:=hY w _ Y
 obtain⟨fd,hb,hF⟩:=F w mg fa _ KX G.T.g hmg
 exact Zfp KX G.T.g G.T.b G.T.builtins G.T.nolimit hg hobj hints (Nat.le_trans hlen hn2) hr hF hb (fun H hO hS=>hsp w H a ns hlen hO hS) fun H e s'=>hCX w H s₁ e s'
abbrev CX0:CXT:=fun _ _ _ _ _ _=>False
abbrev E0:XK:=fun _ _ _=>False
theorem Z0e {X:Cx}:Zd2 CX0 X E0:=fun _ _ _ _ _ _ _ h=>h.elim
structure Fun (K:PySem.W.Frag)(x qual:Str)(st:Stmt)(f:Addr)(fd:FuncData):Prop where
 ex:∃(oc:Value) (od:Option Addr) (kV doc pm:Value) (an:Option Addr) (cdv ct:Value) (osl:Array (Option Value)),
  fd=PySem.W.fnOf x qual (Z0r st) (Z0p st) (Z06 st) .none kV doc pm an cdv ct/\K.lookup f=some ⟨oc,od,.func fd,osl⟩/\PySem.W.codeIn K cdv qual=true
 kp:PySem.W.keepIn K (.ref f)=true
section
variable {P:Program}{w:World}{K:PySem.W.Frag}{mg:Str->Option Value}{base:Heap}
theorem Fun.ok {x qual:Str}{st:Stmt}{f:Addr}{fd:FuncData}{N ps:List Str}{k:Nat}{sp:Sp}(F:Fun K x qual st f fd)(S:FnScope N ps (Z06 st))(len:∀vs H Q E,sp vs H Q E->vs.length=ps.length)
  (hbody:∀(cdv:Value) (A:Around) (outer:List Env) (s:Shared) (H:Hp) (vs:List V) (Q:VK) (E:XK),Room k (A.deeper (envOfC qual (Z06 st) s.heap.objs.size f cdv))->sp vs H Q E →
   ∃t,PSs (Zfi CX0 P w K mg base N qual (Z06 st) f cdv A outer s H E).nox (Z0p st) t/\t { nx:=fun _ H'=>Q .non H',rt:=Q } (Z8x N vs) H):FnOk P w K mg base CX0 (k+1) f fd ps sp:=by
 obtain⟨oc,od,kV,doc,pm,an,cdv,ct,osl,rfl,lk,hcd⟩:=F.ex
 refine Zlt lk hcd S len fun A outer s H vs Q E hr hsp=>?_
 obtain⟨t,h,q⟩:=hbody cdv A outer s H vs Q E hr hsp
 exact⟨t,h.nox,q⟩
theorem Fun.binds {x qual:Str}{st:Stmt}{f:Addr}{fd:FuncData}{ps:List Str}(F:Fun K x qual st f fd)
  (h:∀(kV doc pm:Value) (an:Option Addr) (cdv ct:Value) (us:List Value),us.length=ps.length->bindArgs (PySem.W.fnOf x qual (Z0r st) (Z0p st) (Z06 st) .none kV doc pm an cdv ct) ⟨us,[]⟩=pure (ps.zip us)):Binds K fd ps []:=by
 obtain⟨oc,od,kV,doc,pm,an,cdv,ct,osl,rfl,lk,hcd⟩:=F.ex
 exact .all (h kV doc pm an cdv ct)
theorem Z10 {x qual:Str}{st:Stmt}{f:Addr}{oc:Value}{od an:Option Addr}{osl:Array (Option Value)}{kV doc pm cdv ct:Value}(l:K.lookup f=some ⟨oc,od,.func (PySem.W.fnOf x qual (Z0r st) (Z0p st) (Z06 st) .none kV doc pm an cdv ct),osl⟩)
  (c:PySem.W.codeIn K cdv qual=true) (k:PySem.W.keepIn K (.ref f)=true):Fun K x qual st f (PySem.W.fnOf x qual (Z0r st) (Z0p st) (Z06 st) .none kV doc pm an cdv ct):=⟨⟨oc,od,kV,doc,pm,an,cdv,ct,osl,rfl,l,c⟩,k⟩
end
theorem Zkb {A:Around}{k:Nat}(hr:Room k A):A.units+1<cLine:=Nat.lt_of_le_of_lt (Nat.add_le_add_left (by decide:1<=64) _) hr.units
section
variable {X:Cx}
theorem pv (i:Nat){x:Str}{pos:Pos}(hN:X.N[i]? = some x:=by rfl)(hv:Vis X.env.scope x:=by first|exact Or.inl rfl|exact Or.inr (Or.inl rfl)|exact Or.inr (Or.inr rfl))(hd:(x==("__debug__":Str))=false:=by decide)
  (hcd:(x==("__classdict__":Str))=false:=by decide):PE X (.Name x pos) (tVar i):=Zjp hN hv hd hcd
end
theorem Za0 {A B:Prop}(h:B):if false=true then A else B:=by
 rw[if_neg Bool.false_ne_true]
 exact h
theorem Zaq {A B:Prop}(h:A):if true=true then A else B:=by
 rw[if_pos rfl]
 exact h
theorem Z1a {c A B:Prop}[Decidable c](h1:c->A)(h2:¬c->B):if c then A else B:=by
 by_cases h:c
 ·rw[if_pos h]
  exact h1 h
 ·rw[if_neg h]
  exact h2 h
def Same (H H':Hp):Prop:=∀b o,H b=some o->H' b=some o
theorem Same.refl (H:Hp):Same H H:=fun _ _ h=>h
theorem Same.trans {H H1 H2:Hp}(a:Same H H1)(b:Same H1 H2):Same H H2:=fun c o h=>b c o (a c o h)
theorem Same.seq {K:PySem.W.Frag}{H H':Hp}{a:Addr}{xs:List V}(e:Same H H')(h:SqL K H a xs):SqL K H' a xs:=by
 rcases h with (h|⟨o,h⟩)|h
 ·exact .inl (.inl (e _ _ h))
 ·exact .inl (.inr ⟨o,e _ _ h⟩)
 ·exact .inr h
section
variable {prog:Program}{w:World}{A:Around}{E:Value->Shared->Prop}{R:Result->Shared->Prop}{s:Shared}
theorem Z99 {elt target iter:Expr}{ifs:List Expr}{scope:Scope}{pos:Pos}{it acc:Value}{env:Env}(I:Nat->Shared->Prop)
  (turn:∀n s,I n s->wpAny (model prog w) A (pyNext it) (fun r s1=>match r with
   |none=>R (.ok .next) s1
   |some v=>wpAny (model prog w) A (letOwnedTupleGo target it v) (fun _ s1'=>wpAny (model prog w) A (assign target env v) (fun _ s2=>
     wpAny (model prog w) A (forIn ifs true fun c r=>if r=true then do let ok ← isTrue c env (eval c env);pure (ForInStep.yield ok) else pure (ForInStep.yield r)) (fun ok s3=>
      if ok=true then wpAny (model prog w) A (eval elt env) (fun x s4=>
       wpAny (model prog w) A (call (.builtin "list.append") [acc,x]) (fun _ s5=>∃m,m<n/\I m s5) (fun _ _=>False) s4) (fun _ _=>False) s3
      else ∃m,m<n/\I m s3) (fun _ _=>False) s2) (fun _ _=>False) s1') (fun _ _=>False) s1) (fun _ _=>False) s)
  (n:Nat) (h:I n s):
  codeAny (model prog w) A (.compLoop (.ListComp elt [⟨target,iter,ifs,0⟩] scope pos) 0 it acc env) R s:=by
 refine codeAny_loop rfl I (fun n s hI=>?_) n h
 show wpAny _ A ((compTurn (.ListComp elt [⟨target,iter,ifs,0⟩] scope pos) 0 it acc env).onRaise (fun x=>do noteFrame x env;theTreesLotGoes x)) _ _ s
 refine wpAny_noted ?_
 rw[compTurn_list]
 refine wpAny_bind (wpAny_standAt (wpAny_bind (wpAny_mono (turn n s hI) (fun r s₁ h₁=>?_) fun _ _ h'=>h'.elim)))
 cases r with
 |none=>exact wpAny_pure h₁
 |some v=>
  refine wpAny_bind (wpAny_mono h₁ (fun _ s1' h1'=>?_) fun _ _ h'=>h'.elim)
  refine wpAny_bind (wpAny_mono h1' (fun _ s₂ h₂=>wpAny_bind (wpAny_mono h₂ (fun ok s₃ h₃=>?_) fun _ _ h'=>h'.elim)) fun _ _ h'=>h'.elim)
  cases ok with
  |false=>exact wpAny_pure ⟨rfl,h₃⟩
  |true=>
   exact wpAny_bind (wpAny_bind (wpAny_mono h₃ (fun x s₄ h₄=>wpAny_bind (wpAny_mono h₄ (fun _ s₅ h₅=>wpAny_pure (wpAny_pure ⟨rfl,h₅⟩)) fun _ _ h'=>h'.elim)) fun _ _ h'=>h'.elim))
end
theorem Z54 {env:Env}:∀(names:List (Str×NameKind)) (cs:List (Str×Addr)),(∀n,(n,NameKind.free)∈names->∃c,env.cells.lookup n=some c) →
  ∃cl,(forIn names cs fun(x:Str×NameKind) (r:List (Str×Addr))=>match x with
   | (name,kind)=>if (kind==NameKind.free)=true then do let c ← cellOf env name;pure (ForInStep.yield ((name,c)::r)) else pure (ForInStep.yield r):Sem (List (Str×Addr)))=pure cl ∧
   (∀p∈cl,p∈cs∨env.cells.lookup p.1=some p.2)/\(∀p∈cs,p∈cl)/\(∀n,(n,NameKind.free)∈names->∃c,(n,c)∈cl)
 |[],cs,_=>⟨cs,by simp,fun p hp=>.inl hp,fun p hp=>hp,fun n hn=>by cases hn⟩
 | (n,k)::r,cs,h=>by
  by_cases hk:(k==NameKind.free)=true
  ·have hk':k=NameKind.free:=eq_of_beq hk
   subst hk'
   obtain⟨c,hc⟩:=h n (mem_cons_self)
   obtain⟨cl,e,h1,h2,h3⟩:=Z54 r ((n,c)::cs) fun m hm=>h m (mem_cons_of_mem _ hm)
   refine⟨cl,?_,fun p hp=>?_,fun p hp=>h2 p (mem_cons_of_mem _ hp),fun m hm=>?_⟩
   ·rw[List.forIn_cons]
    simp only [hk,if_true]
    unfold cellOf
    rw[hc]
    exact e
   ·rcases h1 p hp with q|q
    ·rcases mem_cons.mp q with q|q
     ·subst q;exact .inr hc
     ·exact .inl q
    ·exact .inr q
   ·rcases mem_cons.mp hm with q|q
    ·cases q;exact⟨c,h2 _ mem_cons_self⟩
    ·exact h3 m q
  ·obtain⟨cl,e,h1,h2,h3⟩:=Z54 r cs fun m hm=>h m (mem_cons_of_mem _ hm)
   refine⟨cl,?_,h1,h2,fun m hm=>?_⟩
   ·rw[List.forIn_cons]
    simp only [hk]
    exact e
   ·rcases mem_cons.mp hm with q|q
    ·cases q;exact absurd rfl hk
    ·exact h3 m q
theorem Z7c {κ : Type}[BEq κ][LawfulBEq κ]{β : Type}:∀{l:List (κ × β)} {x : κ} {c : β},l.lookup x=some c->(x,c)∈l
 |[],_,_,h=>by simp at h
 | (n,k)::r,x,c,h=>by
  cases hx:x==n with
  |true=>
   simp only [lookup_cons,hx] at h
   cases h
   have e:=eq_of_beq hx
   subst e
   exact mem_cons_self
  |false=>
   simp only [lookup_cons,hx] at h
   exact mem_cons_of_mem _ (Z7c h)
theorem Z7d {κ : Type}[BEq κ][LawfulBEq κ]{β : Type}:∀{l:List (κ × β)} {x : κ} {c : β},(x,c)∈l->∃c',l.lookup x=some c'
 | (n,k)::r,x,c,h=>by
  cases hx:x==n with
  |true=>exact⟨k,by simp only [lookup_cons,hx]⟩
  |false=>
   rcases mem_cons.mp h with q|q
   ·cases q;simp at hx
   ·obtain⟨c',e⟩:=Z7d q
    exact⟨c',by simp only [lookup_cons,hx];exact e⟩
theorem Z7e {scope:Scope}{env:Env}(h:∀n,(n,NameKind.free)∈scope.names->∃c,env.cells.lookup n=some c):
  ∃cl,closureFor scope env=pure cl/\(∀x c,cl.lookup x=some c->env.cells.lookup x=some c)/\∀n,(n,NameKind.free)∈scope.names->∃c,cl.lookup n=some c:=by
 obtain⟨cl,e,h1,_,h3⟩:=Z54 scope.names [] h
 refine⟨cl,?_,fun x c hx=>?_,fun n hn=>?_⟩
 ·have e2:closureFor scope env=((forIn scope.names ([]:List (Str×Addr)) fun(x:Str×NameKind) (r:List (Str×Addr))=>match x with
     | (name,kind)=>if (kind==NameKind.free)=true then do let c ← cellOf env name;pure (ForInStep.yield ((name,c)::r)) else pure (ForInStep.yield r):Sem (List (Str×Addr))) >>= fun r=>pure r):=rfl
  rw[e2,e]
  rfl
 ·rcases h1 _ (Z7c hx) with q|q
  ·cases q
  ·exact q
 ·obtain⟨c,hc⟩:=h3 n hn
  exact Z7d hc
def Z2f (X:Cx)(N':List Str)(scope:Scope)(cl:List (Str×Addr))(C:Addr)(ex:List Addr)(s0:Shared)(H0:Hp):Cx:=
 { X with N:=N',s₀:=s0,H₀:=H0,env:=compEnvC scope cl C X.env,outer:=X.stack,stack:=X.stack,ex:=ex,fn:=fun _=>false,pn:=[],xe:=fun _ _=>False }
section
variable {X:Cx}{pins:List (Addr×Obj)}{σ:St}{H:Hp}{s:Shared}
theorem Inv.track {a:Addr}{o:HO}(I:Inv X pins σ H s)(f:Z5y X pins H a)(new:ObjOk X.prog X.w (upd H a o) s.heap a o):Inv X pins σ (upd H a o) s:=by
 obtain⟨f0,f1,f2,f3,f4,f5⟩:=f
 have ne:∀b u,H b=some u->b≠a:=fun b u e=>Z0g e f0
 refine⟨I.ok,I.os,I.bare,⟨I.base.keep,I.base.slot,fun b ob e n hx=>?_,I.base.there,fun b xs e=>?_,fun b ob u e=>?_,fun b ps e=>?_⟩,I.loc,I.cell,?_,fun x c e=>?_,fun p hp=>?_,fun b u e=>?_,I.len⟩
 ·have hb:b≠a:=by
   rintro rfl
   rcases f3 with z|z
   ·exact hx z
   ·exact absurd (Nat.lt_of_lt_of_le (Heap.lt_size e) z) (Nat.lt_irrefl _)
  rw[Z0a hb]
  exact I.base.free b ob e n hx
 ·have q:=I.base.tups b xs e
  rw[Z0a (ne _ _ q)];exact q
 ·have q:=I.base.frzs b ob u e
  rw[Z0a (ne _ _ q)];exact q
 ·obtain⟨more,q⟩:=I.base.tbls b ps e
  exact⟨more,by rw[Z0a (ne _ _ q)];exact q⟩
 ·rw[Z0a (Ne.symm f1)];exact I.free
 ·rw[Z0a (f4 x c e)];exact I.freeC x c e
 ·obtain⟨e,n,ne',nf,d⟩:=I.pin p hp
  exact⟨e,by rw[Z0a (f5 p hp)];exact n,ne',nf,d⟩
 ·by_cases hb:b=a
  ·subst hb
   rw[Z00] at e;cases e
   exact new
  ·rw[Z0a hb] at e
   exact(I.hok b u e).stay (fun c v _ q=>q) (fun c q=>by rw[Z0a (ne _ _ q)];exact q) fun c xs q=>by rw[Z0a (ne _ _ q)];exact q
end
def PTs (X:Cx)(ifs:List Expr)(t:TT):Prop:=
 ∀(pins:List (Addr×Obj)) (s:Shared) (σ:St) (H:Hp) (Q:Bool->Hp->Prop),Inv X pins σ H s->t σ H Q →
  wpAny (model X.prog X.w) X.A (forIn ifs true fun c r=>if r=true then do let ok ← isTrue c X.env (eval c X.env);pure (ForInStep.yield ok) else pure (ForInStep.yield r)) (TP X pins σ Q) X.xe s
def tNoTest:TT:=fun _ H Q=>Q true H
theorem Z24 {X:Cx}:PTs X [] tNoTest:=fun _ _ _ H _ I h=>wpAny_tests_nil ⟨H,I,h⟩
theorem Z4b {X:Cx}{c:Expr}{t:TT}(h:PT X c t):PTs X [c] t:=fun pins s σ H Q I q=>wpAny_tests_one (h pins s σ H Q I q)
def Zhg (src:List (Option Nat))(σ:St):St:=src.map fun o=>match o with|some j=>(σ[j]?).getD none|none=>none
def Zkc (src:List (Option Nat))(wi:TI)(g:TG)(tt:TT)(te:TE):TE:=fun σ H Q=>wi σ H fun J H1=>∃W:Nat->Nat->List V->St->Hp->Prop,(∃m,W 0 m [] (Zhg src σ) H1)/\∀i m ys σc H,W i m ys σc H →
 (J.stop i H/\∀l,H l=none->Q (.ref l) (upd H l (.lst ys))) ∨
 (J.go i H/\ys.length<sizeLine/\∀x H',J.yld i H x H'->g x σc H' fun σ2 H2=>tt σ2 H2 fun b H3=>
  if b=true then te σ2 H3 fun v H4=>∃m',m'<m/\W (i+1) m' (ys ++ [v]) σ2 H4 else ∃m',m'<m/\W (i+1) m' ys σ2 H3)
section
variable {X:Cx}{elt tg iter:Expr}{ifs:List Expr}{scope:Scope}{pos:Pos}{N':List Str}{src:List (Option Nat)}{wi:TI}{g:TG}{tt:TT}{te:TE}
theorem Z3m {env:Env}:∀{names:List (Str×NameKind)} {x:Str} {k:NameKind},(names.map fun(n,k)=>if (k==NameKind.free&&env.scope.kind == .function&&env.kindOf n==some .cell) then (n,NameKind.cell) else (n,k)).lookup x=some k →
  (k = .cell∨k = .free)->(∀y∈names,y.2 ≠ .cell)->(x,NameKind.free)∈names
 |[],_,_,h,_,_=>by simp at h
 | (n,k')::r,x,k,h,hk,hc=>by
  have ih:=@Z3m env r x k
  have h':List.lookup x ((if (k'==NameKind.free&&env.scope.kind == .function&&env.kindOf n==some .cell)=true then (n,NameKind.cell) else (n,k'))::(r.map fun(n,k)=>if (k==NameKind.free&&env.scope.kind == .function&&env.kindOf n==some .cell) then (n,NameKind.cell) else (n,k)))=some k:=h
  by_cases hx:x=n
  ·subst hx
   by_cases hf:k' = .free
   ·subst hf;exact mem_cons_self
   ·have e:(k'==NameKind.free)=false:=by simpa using hf
    rw[e] at h'
    simp only [Bool.false_and,Bool.false_eq_true,if_false,lookup_cons,beq_self_eq_true] at h'
    have e':k'=k:=Option.some.inj h'
    rcases hk with q|q
    ·exact absurd (e'.trans q) (hc (x,k') mem_cons_self)
    ·exact absurd (e'.trans q) hf
  ·have e:(x==n)=false:=by simpa using hx
   have h2:(r.map fun(n,k)=>if (k==NameKind.free&&env.scope.kind == .function&&env.kindOf n==some .cell) then (n,NameKind.cell) else (n,k)).lookup x=some k:=by
    by_cases hc2:(k'==NameKind.free&&env.scope.kind == .function&&env.kindOf n==some .cell)=true
    ·rw[if_pos hc2] at h';simp only [lookup_cons,e] at h';exact h'
    ·rw[if_neg hc2] at h';simp only [lookup_cons,e] at h';exact h'
   exact mem_cons_of_mem _ (ih h2 hk fun y hy=>hc y (mem_cons_of_mem _ hy))
structure CompScope (X:Cx)(scope:Scope)(N':List Str)(src:List (Option Nat)):Prop where
 kind:scope.kind = .function
 cell:∀y∈scope.names,y.2 ≠ .cell
 names:∀x∈scope.names,x.2 = .local->scope.names.lookup x.1=some .local
 fr:∀n,(n,NameKind.free)∈scope.names->X.env.kindOf n=some .cell∨X.env.kindOf n=some .free
 excl:∀n,(n,NameKind.free)∈scope.names->¬scope.names.lookup n=some .local
 len:N'.length=src.length
 src:∀(i j:Nat),src[i]? = some (some j)->∃x:Str,N'[i]? = some x/\X.N[j]? = some x/\(x,NameKind.free)∈scope.names
theorem Z7f {cl:List (Str×Addr)}{C D:Addr}{fp:List Addr}{pins:List (Addr×Obj)}{σ:St}{H:Hp}{s3:Shared}{h1:Heap}{tk:Nat}(S:CompScope X scope N' src)(I3:Inv X pins σ H s3)
  (hcl1:∀x c,cl.lookup x=some c->X.env.cells.lookup x=some c) (hcl2:∀n,(n,NameKind.free)∈scope.names->∃c,cl.lookup n=some c) (hC:C=s3.heap.objs.size)
  (hf:∀b∈D::fp,Z5y X pins H b) (hlt:∀b∈D::fp,b<s3.heap.objs.size) (hns:h1.Ns C (fun _=>none)) (hk:∀b o,s3.heap.get? b=some o->h1.get? b=some o):
  Inv (Z2f X N' scope cl C (D::fp) s3 H) [] (Zhg src σ) H { s3 with heap:=h1,toks:=tk }:=by
 have neC:∀b o,s3.heap.get? b=some o->b≠C:=fun b o e=>by rw[hC];exact Nat.ne_of_lt (Heap.lt_size e)
 have HC:H C=none:=I3.hok.fresh (Nat.le_of_eq hC.symm)
 have ok:(Z2f X N' scope cl C (D::fp) s3 H).Ok:=by
  refine⟨I3.ok.mod,S.kind,I3.ok.glob,I3.ok.blt,Nat.le_of_eq hC.symm,fun x y c e1 e2=>I3.ok.inj x y c (hcl1 x c e1) (hcl1 y c e2),fun x hx=>?_,fun x c z=>absurd z Bool.false_ne_true,I3.ok.hd,I3.ok.frames,.inl rfl,fun b hb=>⟨?_,fun x c e=>?_⟩,I3.bs,Nat.le_trans I3.ok.bsz I3.sz,fun b o e hb=>?_,fun b hb=>?_,I3.stack,I3.stkFree⟩
  ·refine hcl2 x ?_
   rcases hx with z|z
   ·exact Z3m (env:=X.env) (show((scope.names.map _).lookup x)=some .cell from z) (.inl rfl) S.cell
   ·exact Z3m (env:=X.env) (show((scope.names.map _).lookup x)=some .free from z) (.inr rfl) S.cell
  ·show b≠C
   rw[hC];exact Nat.ne_of_lt (hlt b hb)
  ·exact(hf b hb).2.2.2.2.1 x c (hcl1 x c e)
  ·rcases(hf b hb).2.2.2.1 with z|z
   ·exact I3.ok.noex b o e z
   ·exact absurd (Nat.lt_of_lt_of_le (Nat.lt_of_lt_of_le (Heap.lt_size e) I3.ok.bsz) z) (Nat.lt_irrefl _)
  ·intro z
   have z':b∈frs X.stack:=z
   rcases mem_cons.mp (I3.stkSub b z') with q|q
   ·exact(hf b hb).2.1 q
   ·exact(hf b hb).2.2.1 q
 refine⟨ok,rfl,I3.bare,Un.kept hk,⟨_,hns,fun i x v e1 e2 e3=>?_⟩,fun x c e=>?_,HC,fun x c e=>I3.freeC x c (hcl1 x c e),fun p hp=>absurd (show p∈([]:List (Addr×Obj)) from hp) (by simp),I3.hok.kept hk,?_⟩
 ·have e2':(src.map fun o=>match o with|some j=>(σ[j]?).getD none|none=>none)[i]? = some (some v):=e2
  rw[List.getElem?_map] at e2'
  cases q:src[i]? with
  |none=>rw[q] at e2';cases e2'
  |some o=>
   rw[q] at e2'
   cases o with
   |none=>cases e2'
   |some j=>
    obtain⟨x',hx1,hx2,hx3⟩:=S.src i j q
    have ex:x'=x:=Option.some.inj (hx1.symm.trans e1)
    subst ex
    have ev:σ[j]? = some (some v):=by
     cases q2:σ[j]? with
     |none=>simp [q2] at e2'
     |some o=>simp [q2] at e2';rw[e2']
    obtain⟨m,hn,hl⟩:=I3.loc
    have hkind:=S.fr x' hx3
    obtain⟨u,r,l⟩:=hl j x' v hx2 ev (by
     rcases hkind with z|z
     ·exact .inr (.inl z)
     ·exact .inr (.inr z))
    refine⟨u,r,.inr ⟨?_,?_⟩⟩
    ·rcases e3 with z|z|z
     ·exfalso
      have z':(scope.names.map fun(n,k)=>if (k==NameKind.free&&X.env.scope.kind == .function&&X.env.kindOf n==some .cell) then (n,NameKind.cell) else (n,k)).lookup x'=some .local:=z
      rcases l with ⟨k,_⟩|⟨_,c,hc,hcell⟩
      ·rcases hkind with y|y <;> (rw[y] at k;cases k)
      ·exact(show False by
        have:=S.names
        have hm:=hx3
        clear e2 e2'
        have key:∀(names:List (Str×NameKind)),(names.map fun(n,k)=>if (k==NameKind.free&&X.env.scope.kind == .function&&X.env.kindOf n==some .cell) then (n,NameKind.cell) else (n,k)).lookup x'=some .local →
          names.lookup x'=some .local:=by
         intro names
         induction names with
         |nil=>intro h;simp at h
         |cons y r ih=>
          obtain⟨n,k⟩:=y
          intro h
          have h':List.lookup x' ((if (k==NameKind.free&&X.env.scope.kind == .function&&X.env.kindOf n==some .cell)=true then (n,NameKind.cell) else (n,k))::(r.map fun(n,k)=>if (k==NameKind.free&&X.env.scope.kind == .function&&X.env.kindOf n==some .cell) then (n,NameKind.cell) else (n,k)))=some .local:=h
          by_cases hx:(x'==n)=true
          ·by_cases hc2:(k==NameKind.free&&X.env.scope.kind == .function&&X.env.kindOf n==some .cell)=true
           ·rw[if_pos hc2] at h';simp only [lookup_cons,hx] at h';cases h'
           ·rw[if_neg hc2] at h';simp only [lookup_cons,hx] at h' ⊢;exact h'
          ·have hx':(x'==n)=false:=by simpa using hx
           by_cases hc2:(k==NameKind.free&&X.env.scope.kind == .function&&X.env.kindOf n==some .cell)=true
           ·rw[if_pos hc2] at h';simp only [lookup_cons,hx'] at h' ⊢;exact ih h'
           ·rw[if_neg hc2] at h';simp only [lookup_cons,hx'] at h' ⊢;exact ih h'
        have z2:=key _ z'
        obtain⟨c2,hc2⟩:=hcl2 x' hx3
        exact S.excl x' hx3 z2)
     ·exact .inl z
     ·exact .inr z
    ·rcases l with ⟨k,_⟩|⟨_,c,hc,hcell⟩
     ·rcases hkind with y|y <;> (rw[y] at k;cases k)
     ·obtain⟨c2,hc2⟩:=hcl2 x' hx3
      have e:=hcl1 x' c2 hc2
      rw[hc] at e;cases e
      obtain⟨oc,ho,hd⟩:=hcell
      exact⟨c,hc2,oc,hk c oc ho,hd⟩
 ·obtain⟨v,oc,ho,hd⟩:=I3.cell x c (hcl1 x c e)
  exact⟨v,oc,hk c oc ho,hd⟩
 ·show(src.map _).length=N'.length
  rw[length_map,S.len]
theorem Z7g {cl:List (Str×Addr)}{C D:Addr}{fp:List Addr}{pins pinsY:List (Addr×Obj)}{σ σc:St}{H H':Hp}{s3 s4:Shared}{h':Heap}{ys:List V}{us:List Value}(I3:Inv X pins σ H s3)(hC:C=s3.heap.objs.size)
  (hf:∀b∈D::fp,Z5y X pins H b) (hlt:∀b∈D::fp,b<s3.heap.objs.size) (IY:Inv (Z2f X N' scope cl C (D::fp) s3 H) pinsY σc H' s4) (hD:H' D=none) (pl:s4.heap.PlainList D us.toArray) (rv:Vals ys us) (hz:ys.length<=sizeLine)
  (hs:Heap.SameBut C s4.heap h'):Inv X pins σ (upd H' D (.lst ys)) { s4 with heap:=h' }:=by
 have J:Inv X pins σ H' s4:=I3.call' IY.os IY.base IY.hok IY.bare (ch:=D::fp) fun b hb=>⟨(hf b hb).2.2.2.1,(hf b hb).2.1,(hf b hb).2.2.2.2.1,(hf b hb).2.2.2.2.2⟩
 have fC:Z5y X pins H' C:=I3.fpOk (Nat.le_of_eq hC.symm) IY.free
 have J2:Inv X pins σ H' { s4 with heap:=h' }:=J.turned (t':=s4.toks) (fun b o hb e=>(hs.2 b hb).trans e) fC.1 fC.2.1 fC.2.2.2.1 fC.2.2.2.2.1 fC.2.2.2.2.2
 have hDC:D≠C:=by rw[hC];exact Nat.ne_of_lt (hlt D mem_cons_self)
 obtain⟨n,e⟩:=pl
 have fD:=hf D mem_cons_self
 exact J2.track ⟨hD,fD.2⟩ ⟨hz,us,n,rv,(hs.2 D hDC).trans e⟩
theorem Zar {cl:List (Str×Addr)}{C D it:Addr}{fp:List Addr}{tn:Nat->Heap->Prop}{J:It}{pins:List (Addr×Obj)}{σ σ0:St}{H:Hp}{s3 s4:Shared}{R:Result->Shared->Prop}{W:Nat->Nat->List V->St->Hp->Prop}{m0:Nat}{Q:List V->Hp->Prop}
  (hc:X.calm=true) (T:Turn X.prog X.w X.K tg J fp it tn) (I3:Inv X pins σ H s3) (hC:C=s3.heap.objs.size)
  (hf:∀b∈D::fp,Z5y X pins H b) (hlt:∀b∈D::fp,b<s3.heap.objs.size) (hDf:D∉fp) (IY:Inv (Z2f X N' scope cl C (D::fp) s3 H) [] σ0 H s4) (st:tn 0 s4.heap) (pl:s4.heap.PlainList D #[])
  (hg:PG (Z2f X N' scope cl C (D::fp) s3 H) tg g) (ht:PTs (Z2f X N' scope cl C (D::fp) s3 H) ifs tt) (he:PE (Z2f X N' scope cl C (D::fp) s3 H) elt te) (w0:W 0 m0 [] σ0 H)
  (turn:∀i m ys σc H,W i m ys σc H->(J.stop i H/\Q ys H)∨(J.go i H/\ys.length<sizeLine/\∀x H',J.yld i H x H'->g x σc H' fun σ2 H2=>tt σ2 H2 fun b H3=>
   if b=true then te σ2 H3 fun v H4=>∃m',m'<m/\W (i+1) m' (ys ++ [v]) σ2 H4 else ∃m',m'<m/\W (i+1) m' ys σ2 H3))
  (fin:∀s5 σc H' ys us pinsY,Inv (Z2f X N' scope cl C (D::fp) s3 H) pinsY σc H' s5->H' D=none->s5.heap.PlainList D us.toArray->Vals ys us->ys.length<=sizeLine->Q ys H'->R (.ok .next) s5):
  codeAny (model X.prog X.w) X.A (.compLoop (.ListComp elt [⟨tg,iter,ifs,0⟩] scope pos) 0 (.ref it) (.ref D) (compEnvC scope cl C X.env)) R s4:=by
 have eY:(Z2f X N' scope cl C (D::fp) s3 H).env=compEnvC scope cl C X.env:=rfl
 generalize hY:Z2f X N' scope cl C (D::fp) s3 H=Y at *
 have e1:Y.prog=X.prog:=by rw[<- hY];rfl
 have e2:Y.w=X.w:=by rw[<- hY];rfl
 have e3:Y.K=X.K:=by rw[<- hY];rfl
 have e4:Y.A=X.A:=by rw[<- hY];rfl
 have e5:Y.calm=true:=by rw[<- hY];exact hc
 have e6:Y.xe=fun _ _=>False:=by rw[<- hY];rfl
 have e7:Y.env.locals=C:=by rw[eY];rfl
 have e8:Y.ex=D::fp:=by rw[<- hY];rfl
 have e9:Y.pn = []:=by rw[<- hY];rfl
 have e10:Y.fs=frs X.stack:=by rw[<- hY];rfl
 have e11:∀x c,Y.env.cells.lookup x=some c->∀b∈D::fp,c≠b:=fun x c e b hb=>(IY.ok.exf b (by rw[e8];exact hb)).2 x c e
 have nst:∀b∈D::fp,b∉Y.fs:=fun b hb=>IY.ok.exfs b (by rw[e8];exact hb)
 have fpY:∀(pinsY:List (Addr×Obj)) (H':Hp),(∀p∈pinsY,p.1=D)->∀b∈fp,H' b=none->Z5y Y pinsY H' b:=fun pinsY H' hp b hb hn=>
  ⟨hn,by rw[e7,hC];exact Nat.ne_of_lt (hlt b (mem_cons_of_mem _ hb)),nst b (mem_cons_of_mem _ hb),.inl (by rw[e8];exact mem_cons_of_mem _ hb),fun x c e=>e11 x c e b (mem_cons_of_mem _ hb),fun p hp' z=>by
   rw[e9,nil_append] at hp'
   have q:=hp p hp'
   rw[z] at q
   rw[q] at hb
   exact hDf hb⟩
 have fpD:∀(pinsY:List (Addr×Obj)) (H':Hp),(∀p∈pinsY,p.1≠D)->H' D=none->Z5y Y pinsY H' D:=fun pinsY H' hp hn=>
  ⟨hn,by rw[e7,hC];exact Nat.ne_of_lt (hlt D mem_cons_self),nst D mem_cons_self,.inl (by rw[e8];exact mem_cons_self),fun x c e=>e11 x c e D mem_cons_self,fun p hp'=>by
   rw[e9,nil_append] at hp'
   exact hp p hp'⟩
 have T':Turn Y.prog Y.w Y.K tg J fp it tn:=by rw[e1,e2,e3];exact T
 rw[<- eY,<- e1,<- e2,<- e4]
 refine Z99 (fun n s'=>∃i ys us σc H',Inv Y [] σc H' s'/\tn i s'.heap/\(∀b∈fp,H' b=none)/\H' D=none/\s'.heap.PlainList D (us:List Value).toArray/\Vals ys us/\ys.length<=sizeLine/\W i n ys σc H') ?_ m0
  ⟨0,[],[],σ0,H,IY,st,fun b hb=>(hf b (mem_cons_of_mem _ hb)).1,(hf D mem_cons_self).1,pl,.nil,Nat.zero_le _,w0⟩
 rintro n s5 ⟨i,ys,us,σc,H5,I5,st5,fr5,hD5,pl5,rv5,hz5,w5⟩
 obtain⟨nn,hob⟩:=id pl5
 have I5':Inv Y [(D,{ cls:=.type "list",data:=.seq us.toArray nn })] σc H5 s5:=I5.pins_of fun p hp=>by
  rw[mem_singleton] at hp
  subst hp
  exact⟨hob,hD5,by rw[e7,hC];exact Nat.ne_of_lt (hlt D mem_cons_self),nst D mem_cons_self,fun v z=>by
   have z':Data.seq us.toArray nn=Data.cell v:=z
   cases z'⟩
 have f5:∀b∈fp,Z5y Y [(D,{ cls:=.type "list",data:=.seq us.toArray nn })] H5 b:=fun b hb=>fpY _ _ (fun p hp=>by rw[mem_singleton] at hp;rw[hp]) b hb (fr5 b hb)
 rcases turn i n ys σc H5 w5 with ⟨stop,q⟩|⟨go,hz,step⟩
 ·refine thn (T'.done Y rfl rfl rfl e5 i _ s5 σc H5 (fun _ _=>False) I5' f5 st5 stop) fun r s6 ⟨hr,I6⟩=>?_
  subst hr
  exact fin s6 σc H5 ys us _ I6 hD5 ⟨nn,(I6.pin (D,_) (mem_append_right _ mem_cons_self)).1⟩ rv5 hz5 q
 ·refine thn (T'.item Y rfl rfl rfl e5 i _ s5 σc H5 (fun _ _=>False) I5' f5 st5 go) fun r s6 ⟨u,hr,h6⟩=>?_
  subst hr
  refine thn h6 fun _ s7 ⟨x,H7,I7,r7,y7,st7,fr7⟩=>?_
  have f7:∀b∈fp,Z5y Y [(D,{ cls:=.type "list",data:=.seq us.toArray nn })] H7 b:=fun b hb=>fpY _ _ (fun p hp=>by rw[mem_singleton] at hp;rw[hp]) b hb (fr7 b hb)
  have I7':=I7.pinned f7 (T.obj _ _ st7)
  have hx:=hg _ s7 σc H7 x u _ I7' r7 (step x H7 y7)
  rw[e6] at hx
  refine thn hx fun _ s8 ⟨σ8,H8,I8,q8⟩=>?_
  have hx2:=ht _ s8 σ8 H8 _ I8 q8
  rw[e6] at hx2
  have keepT:∀{σ9:St} {H9:Hp} {s9:Shared},Inv Y ([(D,{ cls:=.type "list",data:=.seq us.toArray nn })]++Z8r fp s7.heap) σ9 H9 s9->tn (i+1) s9.heap/\(∀b∈fp,H9 b=none)/\H9 D=none/\s9.heap.get? D=some { cls:=.type "list",data:=.seq us.toArray nn }:=fun {σ9 H9 s9} I9=>by
   have pD:=I9.pin (D,_) (mem_append_right _ (mem_append_left _ mem_cons_self))
   refine⟨T.keep _ _ _ st7 fun b hb o e=>(I9.pin (b,o) (mem_append_right _ (mem_append_right _ (Z3v hb e)))).1,fun b hb=>?_,pD.2.1,pD.1⟩
   obtain⟨o,e,d⟩:=T.obj _ _ st7 b hb
   exact(I9.pin (b,o) (mem_append_right _ (mem_append_right _ (Z3v hb e)))).2.1
  refine thn hx2 fun ok s9 ⟨H9,I9,q9⟩=>?_
  cases ok with
  |false=>
   rw[if_neg Bool.false_ne_true] at q9
   rw[if_neg Bool.false_ne_true]
   obtain⟨m',hm,w9⟩:=q9
   obtain⟨k1,k2,k3,k4⟩:=keepT I9
   exact⟨m',hm,i+1,ys,us,σ8,H9,I9.pins_of (fun p hp=>nomatch hp),k1,k2,k3,⟨nn,k4⟩,rv5,hz5,w9⟩
  |true=>
   rw[if_pos rfl] at q9
   rw[if_pos rfl]
   have hx3:=he _ s9 σ8 H9 _ I9 q9
   rw[e6] at hx3
   refine thn hx3 fun xv s10 ⟨v,H10,I10,r10,m',hm,w10⟩=>?_
   obtain⟨k1,k2,k3,k4⟩:=keepT I10
   have hl:=rv5.length
   refine wpAny_list_append_plain ⟨nn,k4⟩ (fun h' pl' sb=>?_) (by rw[size_toArray];omega)
   have fD:=fpD [] H10 (fun p hp=>nomatch hp) k3
   have I11:Inv Y [] σ8 H10 { s10 with heap:=h' }:=(I10.pins_of (pins':=[]) fun p hp=>nomatch hp).turned (t':=s10.toks) (fun b o hb e=>(sb.2 b hb).trans e) fD.1 fD.2.1 fD.2.2.2.1 fD.2.2.2.2.1 fD.2.2.2.2.2
   refine⟨m',hm,i+1,ys ++ [v],us ++ [xv],σ8,H10,I11,T.keep _ _ _ k1 (fun b hb o e=>(sb.2 b ?_).trans e),k2,k3,?_,rv5.append (.cons r10 .nil),?_,w10⟩
   ·intro z;rw[z] at hb;exact hDf hb
   ·rw[show(us ++ [xv]).toArray=us.toArray.push xv by simp];exact pl'
   ·rw[length_append,length_singleton];exact hz
theorem Z1s (hc:X.calm=true)(S:CompScope X scope N' src)(hi:PI X tg iter wi)
  (hb:∀cl C ex s0 H0,PG (Z2f X N' scope cl C ex s0 H0) tg g/\PTs (Z2f X N' scope cl C ex s0 H0) ifs tt/\PE (Z2f X N' scope cl C ex s0 H0) elt te)
  (hs:∀x,foldedSetIterable iter X.env x=pure x:=by intro _;rfl):PE X (.ListComp elt [⟨tg,iter,ifs,0⟩] scope pos) (Zkc src wi g tt te):=by
 intro pins s σ H Q I h
 obtain⟨cl,hclos,hcl1,hcl2⟩:=Z7e (scope:=scope) (env:=X.env) fun n hn=>I.ok.has n (S.fr n hn)
 rw[eval_ListComp]
 refine wpAny_comprehension_free (use:=none) rfl hs hclos S.kind S.names ?_
 refine thn (hi pins s σ H _ I h) fun v s1 h1=>thn h1 fun itv s2 h2=>?_
 obtain⟨it,fp,tn,J,H2,e,I2,T,st2,f2,W,⟨m0,w0⟩,turn⟩:=h2
 subst e
 refine wpAny_newObj_type (wpAny_newFunctionEnv S.cell (by intro y hy;simp at hy) (fun h₁ hns₁ hsb₁=>?_) S.kind)
 dsimp only at hns₁ hsb₁ ⊢
 generalize hH3:s2.heap.push { cls:=.type "list",dict:=none,data:=.seq ([]:List Value).toArray }=H3 at hns₁ hsb₁ ⊢
 have hsz:H3.objs.size=s2.heap.objs.size+1:=by rw[<- hH3,Heap.size_push]
 have I3:Inv X pins σ H2 { s2 with heap:=H3 }:=I2.kept (t':=s2.toks) fun b o e=>by rw[<- hH3];exact Heap.get?_push_of_some _ e
 have fD:Z5y X pins H2 s2.heap.objs.size:=I2.fpOk (Nat.le_refl _) (I2.hok.fresh (Nat.le_refl _))
 have hDf:s2.heap.objs.size∉fp:=fun hm=>by
  obtain⟨o,e,_⟩:=T.obj 0 _ st2 _ hm
  exact Nat.lt_irrefl _ (Heap.lt_size e)
 have hf:∀b∈s2.heap.objs.size::fp,Z5y X pins H2 b:=fun b hb=>by
  rcases mem_cons.mp hb with z|z
  ·rw[z];exact fD
  ·exact f2 b z
 have hlt:∀b∈s2.heap.objs.size::fp,b<H3.objs.size:=fun b hb=>by
  rcases mem_cons.mp hb with z|z
  ·rw[z,hsz];exact Nat.lt_succ_self _
  ·obtain⟨o,e,_⟩:=T.obj 0 _ st2 b z
   rw[hsz];exact Nat.lt_succ_of_lt (Heap.lt_size e)
 have kp:∀b o,H3.get? b=some o->h₁.get? b=some o:=fun b o e=>hsb₁.extBut b o (Nat.ne_of_lt (Heap.lt_size e)) (Heap.get?_push_of_some _ e)
 have kp0:∀b o,s2.heap.get? b=some o->h₁.get? b=some o:=fun b o e=>kp b o (by rw[<- hH3];exact Heap.get?_push_of_some _ e)
 have hacc:h₁.PlainList s2.heap.objs.size #[]:=⟨_,kp _ _ (by rw[<- hH3];exact Heap.get?_push_size _ rfl)⟩
 have st1:tn 0 h₁:=T.keep _ _ _ st2 fun b _ o e=>kp0 b o e
 have IY:=Z7f (N':=N') (src:=src) (scope:=scope) (cl:=cl) (C:=H3.objs.size) (D:=s2.heap.objs.size) (fp:=fp) (s3:={ s2 with heap:=H3 }) (h1:=h₁) (tk:=s2.toks) S I3 hcl1 hcl2 rfl hf hlt hns₁ kp
 obtain⟨hg,ht,he⟩:=hb cl H3.objs.size (s2.heap.objs.size::fp) { s2 with heap:=H3 } H2
 have loop:=Zar (R:=compPost (model X.prog X.w) X.A X.xe none (EP X pins σ Q) (.ref s2.heap.objs.size) H3.objs.size) (elt:=elt) (iter:=iter) (ifs:=ifs) (pos:=pos) (Q:=fun ys H=>∀l,H l=none->Q (.ref l) (upd H l (.lst ys)))
  hc T I3 rfl hf hlt hDf IY st1 hacc hg ht he w0 turn (fun s5 σc H' ys us pinsY IY5 hD pl rv hz q=>by
   obtain⟨m,hn,_⟩:=IY5.loc
   refine⟨m,hn,fun h' hs'=>⟨.ref s2.heap.objs.size,upd H' s2.heap.objs.size (.lst ys),?_,rfl,q _ hD⟩⟩
   exact Z7g I3 rfl hf hlt IY5 hD pl rv hz hs')
 exact codeAny_compStart_list loop (T.self _ 0 _ _ _ st1 loop)
end
section
variable {X:Cx}{tg:Expr}
inductive rSlS (x:V)(lo:Option Int)(hi:Option Int)(H:Hp)(Q:VK):Prop
 |mk (z:_) (_:x = .str z) (_:z.length<=sizeLine) (_:Q (.str (Txt.slice z lo hi)) H):rSlS x lo hi H Q
theorem Zdf:SlR X rSlS:=by
 intro pins s σ H x v vl vu lo hi sl Q I rx hs pl pu h
 obtain⟨z,rfl,hz,q⟩:=h
 obtain⟨t,rfl⟩:=rx
 refine⟨"str",_,F.slot_str_getitem.lookup,typeIs_str _ _ _,?_⟩
 obtain⟨os,hos,hcs,hds⟩:=id hs
 have fin:∀t' k,EP X pins σ Q (.str (Txt.slice z lo hi) t') { s with toks:=k }:=fun t' k=>⟨.str _,H,I.tok _,⟨_,rfl⟩,q⟩
 cases pl with
 |none=>
  cases pu with
  |none=>exact wpAny_getItem_str_slice (l:=none) (u:=none) (st:=none) ⟨os,hos,hcs,hds⟩ rfl (post_val_or_str ⟨Nat.le_trans (Txt.slice_le z _ _) hz,fin⟩)
  |int j uj=>exact wpAny_getItem_str_slice (l:=none) (u:=some (j,uj)) (st:=none) ⟨os,hos,hcs,hds⟩ rfl (post_val_or_str ⟨Nat.le_trans (Txt.slice_le z _ _) hz,fin⟩)
 |int i ui=>
  cases pu with
  |none=>exact wpAny_getItem_str_slice (l:=some (i,ui)) (u:=none) (st:=none) ⟨os,hos,hcs,hds⟩ rfl (post_val_or_str ⟨Nat.le_trans (Txt.slice_le z _ _) hz,fin⟩)
  |int j uj=>exact wpAny_getItem_str_slice (l:=some (i,ui)) (u:=some (j,uj)) (st:=none) ⟨os,hos,hcs,hds⟩ rfl (post_val_or_str ⟨Nat.le_trans (Txt.slice_le z _ _) hz,fin⟩)
theorem Z68:Z3l X (.builtin "isinstance") (fun xs H Q=>∃x T ty b,xs = [x,.ty T]/\TyOf X.K H x ty/\PySem.W.kitOne X.K ty (.type T)=some b/\Q (.bl b) H):=by
 intro pins s σ H xs us Q I r h
 obtain⟨x,T,ty,b,rfl,h1,h2,q⟩:=h
 obtain⟨u,w',rfl,rx,rT⟩:=Zk1 r
 cases (show w'=Value.type T from rT)
 exact Zd0 I rx h1 h2 fun tk=>⟨.bl b,H,I.tok _,rfl,q⟩
theorem Zas:∀{bs:List Bool} {us:List Value},Vals (bs.map V.bl) us->us=bs.map Value.bool
 |[],us,r=>by cases r;rfl
 |b::bs,us,r=>by
  cases r with
  |cons r1 r2=>cases r1;rw[Zas r2];rfl
theorem Zbx (bs:List Bool):((List.range bs.length).all fun i=>(bs[i]?).getD true)=bs.all id:=by
 rw[Bool.eq_iff_iff,all_eq_true,all_eq_true]
 constructor
 ·intro h b hb
  obtain⟨i,hi,rfl⟩:=List.getElem_of_mem hb
  have:=h i (mem_range.mpr hi)
  simpa [List.getElem?_eq_getElem hi] using this
 ·intro h i hi
  have hi':=mem_range.mp hi
  rw[List.getElem?_eq_getElem hi']
  exact h _ (getElem_mem hi')
theorem Za1 (hc:X.calm=true):Z3l X (.builtin "all") (fun xs H Q=>∃(p:Addr) (bs:List Bool),xs = [.ref p]/\SqL X.K H p (bs.map V.bl)/\Q (.bl (bs.all id)) H):=by
 intro pins s σ H xs us Q I r h
 obtain⟨p,bs,rfl,hq,q⟩:=h
 obtain⟨u,rfl,rx⟩:=Z61 r
 cases rx
 obtain⟨its,r',pl,hz⟩:=I.list hq
 have e:=Zas r'
 subst e
 have hlt:p<s.heap.objs.size:=by obtain⟨_,e,_⟩:=pl.isList;exact Heap.lt_size e
 refine call_all_walk (wpAny_pyIter_list pl.isList ?_)
 refine⟨s.heap.objs.size,[s.heap.objs.size,p],[s.heap.objs.size],(bs.map Value.bool).toArray.size,_,_,fun i=>(bs[i]?).getD true,rfl,Walks.list (A:=X.A.in1) (I.ok.hd hc) _ p (Nat.ne_of_lt hlt) (bs.map Value.bool).toArray,
  ⟨⟨_,Heap.get?_push_size _ rfl,rfl,rfl⟩,pl.isList.push _⟩,fun i v s' Q' E' hP hQ=>?_,fun h' tk hk=>?_⟩
 ·have hP':(bs.map Value.bool)[i]? = some v:=by simpa using hP
  rw[List.getElem?_map] at hP'
  cases e:bs[i]? with
  |none=>rw[e] at hP';cases hP'
  |some b=>
   rw[e] at hP'
   cases hP'
   simp only [e,Option.getD_some] at hQ
   exact wpAny_truthy_bool hQ
 ·have e:((List.range (bs.map Value.bool).toArray.size).all fun i=>(bs[i]?).getD true)=bs.all id:=by
   rw[size_toArray,length_map];exact Zbx bs
  rw[e]
  refine⟨.bl _,H,I.kept fun b o eb=>hk b o ?_ (Heap.get?_push_of_some _ eb),rfl,q⟩
  intro z
  rw[mem_singleton.mp z] at eb
  exact Nat.lt_irrefl _ (Heap.lt_size eb)
def Zm0 (xs ys:List V):Bool:=xs.length==ys.length&&(List.range xs.length).all fun j=>eqV (xs.getD j .non) (ys.getD j .non)
end
section
variable {X:Cx}{elt tg iter:Expr}{ifs:List Expr}{scope:Scope}{pos:Pos}{N':List Str}{src:List (Option Nat)}{wi:TI}{g:TG}{tt:TT}{te:TE}
theorem Z35 {i:Nat}{x:Str}{pos' spos:Pos}(hc:X.calm=true)(hN:X.N.Nodup)(hix:X.N[i]? = some x)(hx:Loc X.env.scope x)(S:CompScope X scope N' src)(hi:PI X tg iter wi)
  (hb:∀cl C ex s0 H0,PG (Z2f X N' scope cl C ex s0 H0) tg g/\PTs (Z2f X N' scope cl C ex s0 H0) ifs tt/\PE (Z2f X N' scope cl C ex s0 H0) elt te)
  (hsw:swapsWith (.ListComp elt [⟨tg,iter,ifs,0⟩] scope pos) (some (.Name x pos')) spos.line X.env=pure true:=by rfl)
  (hs:∀x,foldedSetIterable iter X.env x=pure x:=by intro _;rfl)
  (hfn:X.fn x=true∨X.env.scope.names.lookup x=some .local:=by first|exact .inl rfl|exact .inr rfl|assumption):
  PS X (.Assign [.Name x pos'] (.ListComp elt [⟨tg,iter,ifs,0⟩] scope pos) spos) (Zlg (Zkc src wi g tt te) (Zbn i)):=by
 intro pins s σ H D I h
 obtain⟨cl,hclos,hcl1,hcl2⟩:=Z7e (scope:=scope) (env:=X.env) fun n hn=>I.ok.has n (S.fr n hn)
 rw[exec_Assign_Name_used _ _ _ _ hsw]
 refine wpAny_bind (wpAny_standAt (wpAny_bind ?_))
 show wpAny _ _ (do let _ ← comprehension (.ListComp elt [⟨tg,iter,ifs,0⟩] scope pos) scope X.env _ (newList []) false (eval iter X.env) (some (assign (.Name x pos') X.env))) _ _ s
 refine wpAny_bind (wpAny_mono (wpAny_comprehension_free (use:=some (assign (.Name x pos') X.env)) (Q:=fun _ s'=>SP X pins D .next s') rfl hs hclos S.kind S.names ?_) (fun _ s' hq=>wpAny_pure (wpAny_pure hq)) fun _ _ e=>e)
 refine thn (hi pins s σ H _ I h) fun v s1 h1=>thn h1 fun itv s2 h2=>?_
 obtain⟨it,fp,tn,J,H2,e,I2,T,st2,f2,W,⟨m0,w0⟩,turn⟩:=h2
 subst e
 refine wpAny_newObj_type (wpAny_newFunctionEnv S.cell (by intro y hy;simp at hy) (fun h₁ hns₁ hsb₁=>?_) S.kind)
 dsimp only at hns₁ hsb₁ ⊢
 generalize hH3:s2.heap.push { cls:=.type "list",dict:=none,data:=.seq ([]:List Value).toArray }=H3 at hns₁ hsb₁ ⊢
 have hsz:H3.objs.size=s2.heap.objs.size+1:=by rw[<- hH3,Heap.size_push]
 have I3:Inv X pins σ H2 { s2 with heap:=H3 }:=I2.kept (t':=s2.toks) fun b o e=>by rw[<- hH3];exact Heap.get?_push_of_some _ e
 have fD:Z5y X pins H2 s2.heap.objs.size:=I2.fpOk (Nat.le_refl _) (I2.hok.fresh (Nat.le_refl _))
 have hDf:s2.heap.objs.size∉fp:=fun hm=>by
  obtain⟨o,e,_⟩:=T.obj 0 _ st2 _ hm
  exact Nat.lt_irrefl _ (Heap.lt_size e)
 have hf:∀b∈s2.heap.objs.size::fp,Z5y X pins H2 b:=fun b hb=>by
  rcases mem_cons.mp hb with z|z
  ·rw[z];exact fD
  ·exact f2 b z
 have hlt:∀b∈s2.heap.objs.size::fp,b<H3.objs.size:=fun b hb=>by
  rcases mem_cons.mp hb with z|z
  ·rw[z,hsz];exact Nat.lt_succ_self _
  ·obtain⟨o,e,_⟩:=T.obj 0 _ st2 b z
   rw[hsz];exact Nat.lt_succ_of_lt (Heap.lt_size e)
 have kp:∀b o,H3.get? b=some o->h₁.get? b=some o:=fun b o e=>hsb₁.extBut b o (Nat.ne_of_lt (Heap.lt_size e)) (Heap.get?_push_of_some _ e)
 have kp0:∀b o,s2.heap.get? b=some o->h₁.get? b=some o:=fun b o e=>kp b o (by rw[<- hH3];exact Heap.get?_push_of_some _ e)
 have hacc:h₁.PlainList s2.heap.objs.size #[]:=⟨_,kp _ _ (by rw[<- hH3];exact Heap.get?_push_size _ rfl)⟩
 have st1:tn 0 h₁:=T.keep _ _ _ st2 fun b _ o e=>kp0 b o e
 have IY:=Z7f (N':=N') (src:=src) (scope:=scope) (cl:=cl) (C:=H3.objs.size) (D:=s2.heap.objs.size) (fp:=fp) (s3:={ s2 with heap:=H3 }) (h1:=h₁) (tk:=s2.toks) S I3 hcl1 hcl2 rfl hf hlt hns₁ kp
 obtain⟨hg,ht,he⟩:=hb cl H3.objs.size (s2.heap.objs.size::fp) { s2 with heap:=H3 } H2
 have loop:=Zar (R:=compPost (model X.prog X.w) X.A X.xe (some (assign (.Name x pos') X.env)) (fun _ s'=>SP X pins D .next s') (.ref s2.heap.objs.size) H3.objs.size) (elt:=elt) (iter:=iter) (ifs:=ifs) (pos:=pos) (Q:=fun ys H=>∀l,H l=none->D.nx (σ.set i (some (.ref l))) (upd H l (.lst ys)))
  hc T I3 rfl hf hlt hDf IY st1 hacc hg ht he w0 turn (fun s5 σc H' ys us pinsY IY5 hD pl rv hz q=>by
   have IX:Inv X pins σ (upd H' s2.heap.objs.size (.lst ys)) s5:=Z7g (h':=s5.heap) I3 rfl hf hlt IY5 hD pl rv hz (.refl ..)
   show wpAny _ _ (assign (.Name x pos') X.env (.ref s2.heap.objs.size)) _ _ s5
   refine wpAny_assign_Name (Z8o (v:=.ref s2.heap.objs.size) IX hN hix hx rfl (fun s6 I6 ⟨a,sb,ha⟩=>?_) hfn)
   obtain⟨m,hn,_⟩:=IY5.loc
   have fC:Z5y X pins (upd H' s2.heap.objs.size (.lst ys)) H3.objs.size:=I3.fpOk (Nat.le_refl _) (by
    rw[Z0a (by rw[hsz];exact Nat.ne_of_gt (Nat.lt_succ_self _))]
    exact IY5.free)
   have hCa:H3.objs.size≠a:=by
    rcases ha with z|z
    ·rw[z];exact fC.2.1
    ·exact fun q=>fC.2.2.2.2.1 x a z q.symm
   refine⟨m,hn.sameBut sb hCa,fun h' hs'=>⟨_,_,I6.turned (t':=s6.toks) (fun b o hb e=>(hs'.2 b hb).trans e) fC.1 fC.2.1 fC.2.2.2.1 fC.2.2.2.2.1 fC.2.2.2.2.2,q _ hD⟩⟩)
 exact codeAny_compStart_list loop (T.self _ 0 _ _ _ st1 loop)
end
section
variable {X:Cx}
def Zm1 (_ j:Int):Prop:=0<j/\j<18446744073709551616
theorem Z5s:OpR X (binaryOp .FloorDiv) (rI Zm1 fun i j=>.int (i / j)):=opI fun i j _ _ _ _ _ hc q=>by
 have h1:(0:Int)<j:=hc.1
 have h2:j<18446744073709551616:=hc.2
 refine floordiv_int (by omega) (by rw[Int.fdiv_eq_ediv_of_nonneg i (by omega)];exact q) (.inl (PyProof.noPylong_of_log2 ?_))
 have h64:j.natAbs.log2<64:=(Nat.log2_lt (by omega)).mpr (by omega)
 omega
theorem Z36 (hu:X.A.units<cLine):OpR X (compareOp .NotEq) (fun x y H Q=>∃a b xs ys,x = .ref a/\y = .ref b/\SqL X.K H a xs/\SqL X.K H b ys/\xs.all Z42=true/\ys.all Z42=true/\Q (.bl (!Zm0 xs ys)) H):=by
 intro pins s σ H x y v u Q I rx ry h
 obtain⟨a,b,xs,ys,rfl,rfl,hx,hy,fx,fy,q⟩:=h
 cases rx
 cases ry
 obtain⟨its,r,pl,hz⟩:=I.list hx
 obtain⟨its2,r2,pl2,hz2⟩:=I.list hy
 have hl:=r.length
 have hl2:=r2.length
 by_cases hs:xs.length=ys.length
 ·refine SeqAt.RcNeAt.lists (e:=fun j=>eqV (xs.getD j .non) (ys.getD j .non)) pl.isList pl2.isList (by simp only [size_toArray];omega) hu (fun j h1 h2=>?_) X.prog X.w _ _ ?_
  ·simp only [size_toArray] at h1 h2
   have g1:xs[j]? = some xs[j]:=List.getElem?_eq_getElem (by omega)
   have g2:ys[j]? = some ys[j]:=List.getElem?_eq_getElem (by omega)
   obtain⟨u1,e1,ru1⟩:=r.get g1
   obtain⟨u2,e2,ru2⟩:=r2.get g2
   have k1:its.toArray[j]=u1:=by
    have:its[j]? = some its[j]:=List.getElem?_eq_getElem h1
    rw[e1] at this
    simpa using (Option.some.inj this).symm
   have k2:its2.toArray[j]=u2:=by
    have:its2[j]? = some its2[j]:=List.getElem?_eq_getElem h2
    rw[e2] at this
    simpa using (Option.some.inj this).symm
   rw[k1,k2,show xs.getD j .non=xs[j] by simp [List.getD,g1],show ys.getD j .non=ys[j] by simp [List.getD,g2]]
   exact Z90 ru1 ru2 (all_eq_true.mp fx _ (getElem_mem _)) (all_eq_true.mp fy _ (getElem_mem _))
  ·refine Z0z I q ?_
   unfold Zm0
   rw[size_toArray,<- hl,hs]
   simp
 ·refine SeqAt.RcNeAt.lists_lengths pl.isList pl2.isList (by simp only [size_toArray,bne_iff_ne];omega) hu X.prog X.w _ _ ?_
  refine Z0z I q ?_
  unfold Zm0
  rw[beq_eq_false_iff_ne.mpr hs]
  rfl
end
inductive tCut (t u:TS)(D:Ends)(σ:St)(H:Hp):Prop
 |mk (Pv:St->Hp->Prop) (_:t { D with nx:=Pv } σ H) (_:∀ σ' H',Pv σ' H'->u D σ' H'):tCut t u D σ H
section
variable {X:Cx}{st:Stmt}{rest:List Stmt}{t u:TS}
theorem Z0l (h1:PS X st t)(h2:PSs X rest u):PSs X (st::rest) (tCut t u):=by
 intro pins s σ H D I h
 obtain⟨Pv,h,hr⟩:=h
 refine wpAny_execs_cons (thn (h1 pins s σ H { D with nx:=Pv } I h) fun f s1 q=>?_)
 cases f with
 |next=>
  obtain⟨σ',H',I',q⟩:=q
  exact h2 pins s1 σ' H' D I' (hr σ' H' q)
 |ret v=>exact q
 |brk=>exact q
 |cont=>exact q
end
def Zat (kindOf:Str->Option NameKind)(XN:List Str)(scope:Scope)(N':List Str)(src:List (Option Nat)):Bool:=
 (scope.kind == .function)&&(scope.names.all fun y=>(y.2 != .cell)&&(y.2 != .local||scope.names.lookup y.1==some .local)&&(y.2 != .free||((kindOf y.1==some .cell||kindOf y.1==some .free)&&scope.names.lookup y.1 != some .local))) &&
 (N'.length==src.length)&&((List.range src.length).all fun i=>match src[i]? with
  |some (some j)=>(match N'[i]?,XN[j]? with|some x,some y=>x==y&&scope.names.contains (x,NameKind.free)|_,_=>false)
  |_=>true)
theorem Z0m {X:Cx}{scope:Scope}{N':List Str}{src:List (Option Nat)}(sc:Scope)(hsc:X.env.scope=sc)(N:List Str)(hN:X.N=N)(h:Zat (fun x=>sc.names.lookup x) N scope N' src=true):CompScope X scope N' src:=by
 subst hsc hN
 unfold Zat at h
 simp only [Bool.and_eq_true,all_eq_true,beq_iff_eq,bne_iff_ne,ne_eq,Bool.or_eq_true] at h
 obtain⟨⟨⟨h1,h2⟩,h3⟩,h4⟩:=h
 refine⟨h1,fun y hy=>(h2 y hy).1.1,fun y hy hl=>?_,fun n hn=>?_,fun n hn=>?_,h3,fun i j e=>?_⟩
 ·rcases(h2 y hy).1.2 with z|z
  ·exact absurd hl z
  ·exact z
 ·rcases(h2 _ hn).2 with z|z
  ·exact absurd rfl z
  ·exact z.1
 ·rcases(h2 _ hn).2 with z|z
  ·exact absurd rfl z
  ·exact z.2
 ·have hi:i<src.length:=(List.getElem?_eq_some_iff.mp e).1
  have q:=h4 i (mem_range.mpr hi)
  rw[e] at q
  dsimp only at q
  cases e1:N'[i]? with
  |none=>rw[e1] at q;cases q
  |some x=>
   cases e2:X.N[j]? with
   |none=>rw[e1,e2] at q;cases q
   |some y=>
    rw[e1,e2] at q
    simp only [Bool.and_eq_true,beq_iff_eq] at q
    obtain⟨rfl,q⟩:=q
    exact⟨x,rfl,rfl,by simpa using q⟩
def Nx (N i:Nat)(P:Prop):Prop:=∃m',m'<N-i/\m'=N-(i+1)/\i+1<=N/\P
theorem nx {N i:Nat}{P:Prop}(h:i<N)(p:P):Nx N i P:=⟨_,by omega,rfl,h,p⟩
section
variable {x:Str}{σ0:St}{H:Hp}{g:TG}{tt:TT}{te:TE}{Q:List V->Hp->Prop}
theorem Z55 {lo:Int}{n:Nat}(Pv:Nat->List V->St->Hp->Prop)(h0:Pv 0 [] σ0 H)
  (hs:∀i ys σc H,i<n->Pv i ys σc H->ys.length<sizeLine/\g (.int (lo+i)) σc H fun σ2 H2=>tt σ2 H2 fun b H3=>
   if b=true then te σ2 H3 fun v H4=>Nx n i (Pv (i+1) (ys ++ [v]) σ2 H4) else Nx n i (Pv (i+1) ys σ2 H3))
  (hd:∀ys σc H,Pv n ys σc H->Q ys H):
  ∃W:Nat->Nat->List V->St->Hp->Prop,(∃m,W 0 m [] σ0 H)/\∀i m ys σc H,W i m ys σc H →
   ((Itr lo n).stop i H/\Q ys H)∨((Itr lo n).go i H/\ys.length<sizeLine/\∀v H',(Itr lo n).yld i H v H'->g v σc H' fun σ2 H2=>tt σ2 H2 fun b H3=>
    if b=true then te σ2 H3 fun v H4=>∃m',m'<m/\W (i+1) m' (ys ++ [v]) σ2 H4 else ∃m',m'<m/\W (i+1) m' ys σ2 H3):=by
 refine⟨fun i m ys σc H=>m=n-i/\i<=n/\Pv i ys σc H,⟨_,rfl,Nat.zero_le _,h0⟩,?_⟩
 rintro i m ys σc H ⟨rfl,hi,p⟩
 by_cases hlt:i<n
 ·obtain⟨z,_⟩:=hs i ys σc H hlt p
  refine .inr ⟨hlt,z,fun v H' y=>?_⟩
  obtain⟨e,ev⟩:=y
  subst e ev
  exact(hs i ys σc _ hlt p).2
 ·have e:i=n:=by omega
  subst e
  exact .inl ⟨Nat.le_refl _,hd ys σc H p⟩
end
theorem Z02 {H:Hp}{a:Addr}{o:HO}(h:H a=none):Same H (upd H a o):=fun b u e=>by rw[Z0a (Z0g e h)];exact e
theorem Zkd {α : Type}{xs:List α}(h:0<xs.length)(i:Int):∃v,v∈xs/\atI xs (i % (xs.length:Int))=some v:=by
 have h0:0<=i % (xs.length:Int):=Int.emod_nonneg _ (by omega)
 have h1:i % (xs.length:Int)<xs.length:=Int.emod_lt_of_pos _ (by omega)
 obtain⟨j,hj⟩:=Int.eq_ofNat_of_zero_le h0
 have hl:j<xs.length:=by omega
 refine⟨xs[j],getElem_mem hl,?_⟩
 rw[hj]
 exact Z1r (List.getElem?_eq_getElem hl)
theorem Z2w {α : Type}{xs:List α}{i:Int}(h0:0<=i)(h1:i<xs.length):∃v,v∈xs/\atI xs i=some v:=by
 obtain⟨j,hj⟩:=Int.eq_ofNat_of_zero_le h0
 have hl:j<xs.length:=by omega
 refine⟨xs[j],getElem_mem hl,?_⟩
 rw[hj]
 exact Z1r (List.getElem?_eq_getElem hl)
section
variable {X:Cx}{es:List Expr}{te:TE}{t:TA}
theorem Z17 {c:Const}{j:Nat}{p:Pos}(h:PE X (.Constant c j p) te)(hr:PA X es t):PA X (.Constant c j p::es) (Zd1 te t):=Z08 h hr rfl
theorem Z0d {x:Str}{p:Pos}(h:PE X (.Name x p) te)(hr:PA X es t):PA X (.Name x p::es) (Zd1 te t):=Z08 h hr rfl
theorem Zji {xs:List Expr}{j:Nat}{p:Pos}(h:PE X (.Tuple xs j p) te)(hr:PA X es t):PA X (.Tuple xs j p::es) (Zd1 te t):=Z08 h hr rfl
theorem Z2x {f:Expr}{xs:List Expr}{ks:List Keyword}{p:Pos}(h:PE X (.Call f xs ks p) te)(hr:PA X es t):PA X (.Call f xs ks p::es) (Zd1 te t):=Z08 h hr rfl
end
def Z7h:Expr->Option V
 | .Constant (.int i) _ _=>some (.int i)
 | .Constant (.str x) _ _=>some (.str x)
 | .Constant (.bool b) _ _=>some (.bl b)
 | .Constant .none _ _=>some .non
 |_=>none
theorem Z9a {X:Cx}:∀{es:List Expr} {vs:List V},es.map Z7h=vs.map some->PA X es (fun _ H Q=>Q vs H)
 |[],[],_=>Z01
 |[],v::vs,h=>by cases h
 |e::es,[],h=>by cases h
 |e::es,v::vs,h=>by
  rw[map_cons,map_cons] at h
  injection h with h1 h2
  have ih:=Z9a (X:=X) h2
  cases e with
  |Constant c j p=>
   cases c with
   |int i=>cases h1;exact Z17 Z03 ih
   |str x=>cases h1;exact Z17 Z09 ih
   |bool b=>cases h1;exact Z17 Z5o ih
   |none=>cases h1;exact Z17 Zjq ih
   |_=>cases h1
  |_=>cases h1
theorem nd1 (x:Str) : [x].Nodup:=by simp
section
variable {K:PySem.W.Frag}{a:Addr}{xs:List V}{σ0:St}{H:Hp}{g:TG}{tt:TT}{te:TE}{Q:List V->Hp->Prop}
theorem Z4m (Pv:Nat->List V->St->Hp->Prop)(h0:Pv 0 [] σ0 H)(hl:∀i ys σc H,Pv i ys σc H->SqT K H a xs)
  (hs:∀i x ys σc H,xs[i]? = some x->i<xs.length->Pv i ys σc H->ys.length<sizeLine/\g x σc H fun σ2 H2=>tt σ2 H2 fun b H3=>
   if b=true then te σ2 H3 fun v H4=>Nx xs.length i (Pv (i+1) (ys ++ [v]) σ2 H4) else Nx xs.length i (Pv (i+1) ys σ2 H3))
  (hd:∀ys σc H,Pv xs.length ys σc H->Q ys H):
  ∃W:Nat->Nat->List V->St->Hp->Prop,(∃m,W 0 m [] σ0 H)/\∀i m ys σc H,W i m ys σc H →
   ((Itt K a).stop i H/\Q ys H)∨((Itt K a).go i H/\ys.length<sizeLine/\∀v H',(Itt K a).yld i H v H'->g v σc H' fun σ2 H2=>tt σ2 H2 fun b H3=>
    if b=true then te σ2 H3 fun v H4=>∃m',m'<m/\W (i+1) m' (ys ++ [v]) σ2 H4 else ∃m',m'<m/\W (i+1) m' ys σ2 H3):=by
 refine⟨fun i m ys σc H=>m=xs.length-i/\i<=xs.length/\Pv i ys σc H,⟨_,rfl,Nat.zero_le _,h0⟩,?_⟩
 rintro i m ys σc H ⟨rfl,hi,p⟩
 have q:=hl i ys σc H p
 by_cases hlt:i<xs.length
 ·have hx:xs[i]? = some xs[i]:=List.getElem?_eq_getElem hlt
  obtain⟨z,_⟩:=hs i _ ys σc H hx hlt p
  refine .inr ⟨⟨xs,xs[i],q,hx⟩,z,fun v H' y=>?_⟩
  obtain⟨e,y⟩:=y
  subst e
  exact(hs i v ys σc _ (y xs q) hlt p).2
 ·have e:i=xs.length:=by omega
  subst e
  exact .inl ⟨⟨xs,q,Nat.le_refl _⟩,hd ys σc H p⟩
theorem Z19 (Pv:Nat->List V->St->Hp->Prop)(h0:Pv 0 [] σ0 H)(hl:∀i ys σc H,Pv i ys σc H->SqL K H a xs)
  (hs:∀i x ys σc H,xs[i]? = some x->i<xs.length->Pv i ys σc H->ys.length<sizeLine/\g x σc H fun σ2 H2=>tt σ2 H2 fun b H3=>
   if b=true then te σ2 H3 fun v H4=>Nx xs.length i (Pv (i+1) (ys ++ [v]) σ2 H4) else Nx xs.length i (Pv (i+1) ys σ2 H3))
  (hd:∀ys σc H,Pv xs.length ys σc H->Q ys H):
  ∃W:Nat->Nat->List V->St->Hp->Prop,(∃m,W 0 m [] σ0 H)/\∀i m ys σc H,W i m ys σc H →
   ((Itl K a).stop i H/\Q ys H)∨((Itl K a).go i H/\ys.length<sizeLine/\∀v H',(Itl K a).yld i H v H'->g v σc H' fun σ2 H2=>tt σ2 H2 fun b H3=>
    if b=true then te σ2 H3 fun v H4=>∃m',m'<m/\W (i+1) m' (ys ++ [v]) σ2 H4 else ∃m',m'<m/\W (i+1) m' ys σ2 H3):=by
 refine⟨fun i m ys σc H=>m=xs.length-i/\i<=xs.length/\Pv i ys σc H,⟨_,rfl,Nat.zero_le _,h0⟩,?_⟩
 rintro i m ys σc H ⟨rfl,hi,p⟩
 have q:=hl i ys σc H p
 by_cases hlt:i<xs.length
 ·have hx:xs[i]? = some xs[i]:=List.getElem?_eq_getElem hlt
  obtain⟨z,_⟩:=hs i _ ys σc H hx hlt p
  refine .inr ⟨⟨xs,xs[i],q,hx⟩,z,fun v H' y=>?_⟩
  obtain⟨e,y⟩:=y
  subst e
  exact(hs i v ys σc _ (y xs q) hlt p).2
 ·have e:i=xs.length:=by omega
  subst e
  exact .inl ⟨⟨xs,q,Nat.le_refl _⟩,hd ys σc H p⟩
end
theorem Z2u {X:Cx}{K:PySem.W.Frag}(hK:X.K=K):Z3l X (.builtin "isinstance") (fun xs H Q=>∃x T ty b,xs = [x,.ty T]/\TyOf K H x ty/\PySem.W.kitOne K ty (.type T)=some b/\Q (.bl b) H):=by
 subst hK
 exact Z68
theorem Zhh {X:Cx}{e st:Expr}{te ts:TE}{pos p2:Pos}(he:PE X e te)(hst:PE X st ts):PE X (.Subscript e (.Slice none none (some st) p2) pos)
  (fun σ H Q=>te σ H fun x H1=>ts σ H1 fun y H2=>y = .int (-1)/\∃a xs,x = .ref a/\SqL X.K H2 a xs/\∀p,H2 p=none->Q (.ref p) (upd H2 p (.lst xs.reverse))):=by
 intro pins s σ H Q I h
 refine Subscript_ (thn (he pins s σ H _ I h) fun v s1 ⟨x,H1,I1,r1,q1⟩=>?_)
 refine wpAny_Slice ?_
 rw[evalPart_none]
 refine wpAny_pure (wpAny_pure ?_)
 rw[evalPart_some]
 refine thn (hst pins s1 σ H1 _ I1 q1) fun vs s3 ⟨y,H3,I3,ry,ey,a,xs,ex,hx,q⟩=>?_
 subst ey ex
 cases r1
 obtain⟨t,rfl⟩:=ry
 have I4:Inv X pins σ H3 { s3 with heap:=s3.heap.push { cls:=.type "slice",data:=.fields #[.none,.none,.int (-1) t] } }:=I3.kept (t':=s3.toks) fun b ob q=>Heap.get?_push_of_some _ q
 obtain⟨its,r,ht,hz⟩:=I4.list hx
 have hlen:=r.length
 refine tail_any (ops:=[.ref a,.ref s3.heap.objs.size]) ht.isList.typeIs slot_list_getitem.lookup (wpAny_getItem_list_slice ht.isList (Heap.IsSliceOf.new ..) .none .none (.int (-1) t) (by simp) ?_ (by rw[size_toArray] <;> omega)) (by with_unfolding_all rfl)
 rw[PySem.W.krv_pick]
 refine⟨.ref _,_,I4.laid (t':=s3.toks) (o:=.lst xs.reverse) (fun b ob q=>Heap.get?_push_of_some _ q) (Nat.le_refl _) ?_,rfl,q _ (I4.hok.fresh (Nat.le_refl _))⟩
 exact⟨by rw[length_reverse];exact hz,its.reverse,0,r.reverse,by
  rw[show(its.toArray.toList.reverse).toArray=its.reverse.toArray by simp]
  exact Heap.get?_push_size _ rfl⟩
theorem Z3w {α : Type}{l:List α}{i:Nat}{c : α}(p : α -> Bool)(h:l[i]? = some c):(l.take (i+1)).filter p=(l.take i).filter p++(if p c=true then [c] else []):=by
 rw[take_add_one,h,filter_append]
 cases hp:p c <;> simp [hp]
section
variable {X:Cx}{K:PySem.W.Frag}
theorem Zby (hK:X.K=K):OpR X (compareOp .In) (rIn K false):=by subst hK;exact Z2p
theorem Z4n (hK:X.K=K):OpR X (compareOp .NotIn) (rIn K true):=by subst hK;exact Z5i
theorem Zi6 (hK:X.K=K):IxR X (rIxT K):=by subst hK;exact Z0v
theorem Zau (hK:X.K=K):IxR X (rIxL K):=by subst hK;exact Z0w
end
inductive PV where
 |at (v:V)
 |tup (xs:List PV)
mutual
def Z69:PV->PV->Bool
 | .at v,.at w=>eqV v w
 | .tup xs,.tup ys=>Z2b xs ys
 | .at _,.tup _=>false
 | .tup _,.at _=>false
def Z2b:List PV->List PV->Bool
 |[],[]=>true
 |x::xs,y::ys=>Z69 x y&&Z2b xs ys
 |[],_::_=>false
 |_::_,[]=>false
end
mutual
inductive IsPV (K:PySem.W.Frag)(H:Hp):Nat->V->PV->Prop where
 |at {n:Nat} {v:V} (f:Z42 v=true):IsPV K H n v (.at v)
 |tup {n:Nat} {a:Addr} {vs:List V} {ts:List PV} (h:SqT K H a vs) (r:IsPVs K H n vs ts):IsPV K H (n+1) (.ref a) (.tup ts)
inductive IsPVs (K:PySem.W.Frag)(H:Hp):Nat->List V->List PV->Prop where
 |nil {n:Nat}:IsPVs K H n [] []
 |cons {n:Nat} {v:V} {vs:List V} {t:PV} {ts:List PV} (h:IsPV K H n v t) (r:IsPVs K H n vs ts):IsPVs K H n (v::vs) (t::ts)
end
theorem IsPVs.length {K:PySem.W.Frag}{H:Hp}{n:Nat}:∀{vs:List V} {ts:List PV},IsPVs K H n vs ts->vs.length=ts.length
 |_,_,.nil=>rfl
 |_,_,.cons _ r=>congrArg (· + 1) r.length
theorem IsPVs.get {K:PySem.W.Frag}{H:Hp}{n:Nat}:∀{vs:List V} {ts:List PV} {j:Nat} {v:V},IsPVs K H n vs ts->vs[j]? = some v->∃t,ts[j]? = some t/\IsPV K H n v t
 |_,_,_,_,.nil,e=>by simp at e
 |_,_,0,_,.cons h _,e=>by simp at e;subst e;exact⟨_,rfl,h⟩
 |_,_,j+1,_,.cons _ r,e=>by
  rw[List.getElem?_cons_succ] at e
  obtain⟨t,e2,h⟩:=r.get e
  exact⟨t,by rw[List.getElem?_cons_succ];exact e2,h⟩
theorem Zav:∀{v:V},Z42 v=true->eqV v v=true:=by
 intro v h
 cases v with
 |non=>rfl
 |bl b=>exact beq_self_eq_true b
 |int i=>exact beq_self_eq_true i
 |str x=>exact beq_self_eq_true x
 |_=>cases h
theorem Z9b:∀(ts us:List PV),((List.range (min ts.length us.length)).all (fun j=>Z69 (ts.getD j (.at .non)) (us.getD j (.at .non)))&&ts.length==us.length)=Z2b ts us
 |[],[]=>by unfold Z2b;rfl
 |[],_::_=>by unfold Z2b;simp
 |_::_,[]=>by unfold Z2b;simp
 |t::ts,u::us=>by
  have ih:=Z9b ts us
  unfold Z2b
  rw[<- ih]
  simp only [length_cons,Nat.add_min_add_right,List.range_succ_eq_map,all_cons,all_map,Bool.and_assoc]
  simp [Function.comp_def]
section
variable {X:Cx}{pins:List (Addr×Obj)}{σ:St}{H:Hp}{s:Shared}
theorem Z6a {n:Nat}(ih:∀{v:V} {t u:PV},IsPV X.K H n v t->IsPV X.K H n v u->Z69 t u=true):∀(vs:List V) {ts us:List PV},IsPVs X.K H n vs ts->IsPVs X.K H n vs us->Z2b ts us=true:=by
 intro vs
 induction vs with
 |nil=>
  intro ts us h h'
  cases h
  cases h'
  unfold Z2b
  rfl
 |cons v vs ihv=>
  intro ts us h h'
  cases h with
  |cons a b=>
   cases h' with
   |cons a' b'=>
    unfold Z2b
    rw[ih a a',ihv b b']
    rfl
theorem Zi7 (I:Inv X pins σ H s):∀(n:Nat) {v:V} {t u:PV},IsPV X.K H n v t->IsPV X.K H n v u->Z69 t u=true:=by
 intro n
 induction n with
 |zero=>
  intro v t u h h'
  cases h with
  | «at» f =>
   cases h' with
   | «at» g => unfold Z69; exact Zav f
 |succ n ih=>
  intro v t u h h'
  cases h with
  | «at» f =>
   cases h' with
   | «at» g => unfold Z69; exact Zav f
   |tup a b=>exact absurd (show false=true from f) Bool.false_ne_true
  |tup a r=>
   cases h' with
   | «at» g => exact absurd (show false = true from g) Bool.false_ne_true
   |tup a' r'=>
    have e:=I.tuple_inj a a'
    subst e
    unfold Z69
    exact Z6a ih _ r r'
theorem Zfq (I:Inv X pins σ H s){n:Nat}{vs:List V}{ts us:List PV}(h:IsPVs X.K H n vs ts)(h':IsPVs X.K H n vs us):Z2b ts us=true:=Z6a (Zi7 I n) _ h h'
theorem Zi8 (I:Inv X pins σ H s){n:Nat}{A:Around}{vs ws:List V}{ts us:List PV}{its its2:List Value}(r:IsPVs X.K H n vs ts)(r':IsPVs X.K H n ws us)(v1:Vals vs its)(v2:Vals ws its2)
  (ih:∀{x y:V} {t u:PV} {v w:Value},IsPV X.K H n x t->IsPV X.K H n y u->RelV x v->RelV y w->SeqAt.EqAt A s v w (Z69 t u)):
  (∀j (h1:j<its.toArray.size) (h2:j<its2.toArray.size),SeqAt.EqAt A s its.toArray[j] its2.toArray[j] ((fun j=>Z69 (ts.getD j (.at .non)) (us.getD j (.at .non))) j)) ∧
  ((List.range (min its.toArray.size its2.toArray.size)).all (fun j=>Z69 (ts.getD j (.at .non)) (us.getD j (.at .non)))&&its.toArray.size==its2.toArray.size)=Z2b ts us:=by
 have l1:=v1.length
 have l2:=v2.length
 have l3:=r.length
 have l4:=r'.length
 constructor
 ·intro j h1 h2
  simp only [size_toArray] at h1 h2
  have g1:vs[j]? = some vs[j]:=List.getElem?_eq_getElem (by omega)
  have g2:ws[j]? = some ws[j]:=List.getElem?_eq_getElem (by omega)
  obtain⟨u1,e1,ru1⟩:=v1.get g1
  obtain⟨u2,e2,ru2⟩:=v2.get g2
  obtain⟨t1,f1,p1⟩:=r.get g1
  obtain⟨t2,f2,p2⟩:=r'.get g2
  have k1:its.toArray[j]=u1:=by
   have:its[j]? = some its[j]:=List.getElem?_eq_getElem h1
   rw[e1] at this
   simpa using (Option.some.inj this).symm
  have k2:its2.toArray[j]=u2:=by
   have:its2[j]? = some its2[j]:=List.getElem?_eq_getElem h2
   rw[e2] at this
   simpa using (Option.some.inj this).symm
  rw[k1,k2]
  show SeqAt.EqAt A s u1 u2 (Z69 (ts.getD j (.at .non)) (us.getD j (.at .non)))
  rw[show ts.getD j (.at .non)=t1 by simp [List.getD,f1],show us.getD j (.at .non)=t2 by simp [List.getD,f2]]
  exact ih p1 p2 ru1 ru2
 ·rw[size_toArray,size_toArray,<- l1,<- l2,l3,l4]
  exact Z9b ts us
theorem Zfr (I:Inv X pins σ H s){n:Nat}{A:Around}(hu:A.units+(n+1)<cLine)
  (ih:∀(A:Around),A.units+n<cLine->∀{x y:V} {t u:PV} {v w:Value},IsPV X.K H n x t->IsPV X.K H n y u->RelV x v->RelV y w->SeqAt.EqAt A s v w (Z69 t u))
  {a b:Addr} {vs ws:List V} {ts us:List PV} {its its2:List Value} (h:SqT X.K H a vs) (r:IsPVs X.K H n vs ts) (h':SqT X.K H b ws) (r':IsPVs X.K H n ws us)
  (v1:Vals vs its) (pl:IsTup s.heap a its.toArray) (v2:Vals ws its2) (pl2:IsTup s.heap b its2.toArray):SeqAt.EqAt A s (.ref a) (.ref b) (Z2b ts us):=by
 by_cases hab:a=b
 ·subst hab
  have e:=I.tuple_inj h h'
  subst e
  rw[Zfq I r r']
  exact SeqAt.EqAt.same _
 ·obtain⟨e1,e2⟩:=Zi8 (A:=A.in1) I r r' v1 v2 (fun hx hy rx ry=>ih A.in1 (by show A.units+1+n<cLine;omega) hx hy rx ry)
  rw[<- e2]
  exact SeqAt.EqAt.of_refs hab (SeqAt.RcAt.tuples pl pl2 (by omega) e1)
theorem Zdg (I:Inv X pins σ H s):∀(n:Nat) (A:Around),A.units+n<cLine->∀{x y:V} {t u:PV} {v w:Value},IsPV X.K H n x t->IsPV X.K H n y u->RelV x v->RelV y w->SeqAt.EqAt A s v w (Z69 t u):=by
 intro n
 induction n with
 |zero=>
  intro A hu x y t u v w hx hy rx ry
  cases hx with
  | «at» f =>
   cases hy with
   | «at» g => unfold Z69; exact Z90 rx ry f g
 |succ n ih=>
  intro A hu x y t u v w hx hy rx ry
  have hu0:A.units<cLine:=by omega
  cases hx with
  | «at» f =>
   cases hy with
   | «at» g => unfold Z69; exact Z90 rx ry f g
   |tup h r=>
    cases ry
    obtain⟨its,_,pl,_⟩:=I.tuple h
    unfold Z69
    cases x with
    |non=>cases rx;exact SeqAt.EqAt.none_tuple pl hu0
    |bl b=>cases rx;exact SeqAt.EqAt.bool_tuple b pl hu0
    |int i=>obtain⟨k,rfl⟩:=rx;exact SeqAt.EqAt.int_tuple i k pl hu0
    |str z=>obtain⟨k,rfl⟩:=rx;exact SeqAt.EqAt.str_tuple z k pl hu0
    |_=>cases f
  |tup h r=>
   cases rx
   obtain⟨its,v1,pl,_⟩:=I.tuple h
   cases hy with
   | «at» g =>
    unfold Z69
    cases y with
    |non=>cases ry;exact SeqAt.EqAt.tuple_none pl hu0
    |bl b=>cases ry;exact SeqAt.EqAt.tuple_bool b pl hu0
    |int i=>obtain⟨k,rfl⟩:=ry;exact SeqAt.EqAt.tuple_int i k pl hu0
    |str z=>obtain⟨k,rfl⟩:=ry;exact SeqAt.EqAt.tuple_str z k pl hu0
    |_=>cases g
   |tup h' r'=>
    cases ry
    obtain⟨its2,v2,pl2,_⟩:=I.tuple h'
    unfold Z69
    exact Zfr I hu ih h r h' r' v1 pl v2 pl2
end
section
variable {X:Cx}
inductive rEqT (K:PySem.W.Frag)(n:Nat)(neg:Bool)(x:V)(y:V)(H:Hp)(Q:VK):Prop
 |mk (a b vs ws ts us:_) (_:x = .ref a) (_:y = .ref b) (_:SqT K H a vs) (_:IsPVs K H n vs ts) (_:SqT K H b ws) (_:IsPVs K H n ws us) (_:Q (.bl (if neg then !Z2b ts us else Z2b ts us)) H):rEqT K n neg x y H Q
theorem Zdh (n:Nat)(hu:X.A.units+(n+1)<cLine):OpR X (compareOp .Eq) (rEqT X.K n false):=by
 intro pins s σ H x y v u Q I rx ry h
 obtain⟨a,b,vs,ws,ts,us,rfl,rfl,ha,r,hb,r',q⟩:=h
 cases rx
 cases ry
 obtain⟨its,v1,pl,_⟩:=I.tuple ha
 obtain⟨its2,v2,pl2,_⟩:=I.tuple hb
 obtain⟨e1,e2⟩:=Zi8 (A:=X.A.in1) I r r' v1 v2 (fun hx hy rx ry=>Zdg I n X.A.in1 (by show X.A.units+1+n<cLine;omega) hx hy rx ry)
 refine SeqAt.eq_tupleAt pl pl2 (by omega) e1 (Z0z I q ?_)
 exact e2.symm
end
end L2
namespace L2
open PySem PySem.Spec PyProof.Rows PySem.Builtin PySem.Builtin.Str
theorem Zi9 {n:Nat}{j:Int}(h:(n:Int)<=j):(strSliceIndices none (some j) 1 n).length=n:=by
 unfold strSliceIndices sliceRange
 simp only [show(1:Int)>0 by decide,if_true,length_map,List.length_range]
 split <;> (try split) <;> (try split) <;> (try simp only [Int.ediv_one]) <;> omega
theorem Zia {x:Str}{j:Int}(hx:0<x.length)(hj:1<=j):0<(Txt.slice x none (some j)).length:=by
 have hl:x.cps.toList.length=x.length:=by simp [Str.length]
 by_cases h:j<=x.length
 ·have e:=beq_iff_eq.mp (slice_closes_to (x:=x) (j:=j) ⟨by omega,by rw[hl];exact h⟩)
  rw[e]
  show 0<(List.toArray _).size
  rw[size_toArray,length_take,length_drop,hl]
  omega
 ·have e:Txt.slice x none (some j)=x:=by
   unfold Txt.slice
   rw[Zi9 (show((x.length:Nat):Int)<=j by omega)]
   simp
  rw[e];exact hx
theorem Zhi {x:Str}{j:Int}(hj:0<=j):((Txt.slice x none (some j)).length:Int)<=j:=by
 have hl:x.cps.toList.length=x.length:=by simp [Str.length]
 by_cases h:j<=x.length
 ·have e:=beq_iff_eq.mp (slice_closes_to (x:=x) (j:=j) ⟨hj,by rw[hl];exact h⟩)
  rw[e]
  show(((List.toArray _).size:Nat):Int)<=j
  rw[size_toArray,length_take,length_drop,hl]
  omega
 ·have:=Txt.slice_le x none (some j)
  omega
theorem Zfs {x:Str}{i:Int}(h0:0<=i)(h:i<=x.length):((Txt.slice x (some i) none).length:Int)=x.length-i:=by
 have hl:x.cps.toList.length=x.length:=by simp [Str.length]
 rw[slice_from_eq h0 h rfl]
 show(((List.toArray _).size:Nat):Int)=_
 rw[size_toArray,length_take,length_drop,hl]
 omega
end L2
namespace L2
open PySem PySem.Spec PyProof.Rows
def Zft:Expr->Option (List V)
 | .List es _=>es.mapM Z7h
 |_=>none
theorem Zfu:∀{es:List Expr} {vs:List V},es.mapM Z7h=some vs->es.map Z7h=vs.map some:=by
 intro es
 induction es with
 |nil=>
  intro vs h
  rw[List.mapM_nil] at h
  have:vs = []:=(Option.some.inj h).symm
  subst this
  rfl
 |cons e es ih=>
  intro vs h
  rw[List.mapM_cons] at h
  cases he:Z7h e with
  |none=>rw[he] at h;cases h
  |some v=>
   cases hr:es.mapM Z7h with
   |none=>rw[he,hr] at h;cases h
   |some r=>
    rw[he,hr] at h
    have:vs=v::r:=(Option.some.inj h).symm
    subst this
    rw[map_cons,map_cons,he,ih hr]
theorem Z4o {X:Cx}{e:Expr}{vs:List V}(h:Zft e=some vs):PE X e (Zmy (fun _ H Q=>Q vs H)):=by
 cases e with
 |List es p=>exact Z0y (Z9a (Zfu h))
 |_=>cases h
inductive Th where
 |at (v:V)
 |tup (xs:List Th)
 |lst (xs:List Th)
def smallV:V->Bool
 | .str x=>decide (x.length<=1000)
 |v=>Z42 v
theorem smallV.flat {v:V}(h:smallV v=true):Z42 v=true:=by
 cases v with
 |str x=>rfl
 |_=>exact h
mutual
inductive IsTh (H:Hp):V->Th->Prop where
 |at {v:V} (f:smallV v=true):IsTh H v (.at v)
 |tup {a:Addr} {vs:List V} {ts:List Th} (h:H a=some (.tup vs)) (r:IsThs H vs ts):IsTh H (.ref a) (.tup ts)
 |lst {a:Addr} {vs:List V} {ts:List Th} (h:H a=some (.lst vs)) (r:IsThs H vs ts):IsTh H (.ref a) (.lst ts)
inductive IsThs (H:Hp):List V->List Th->Prop where
 |nil:IsThs H [] []
 |cons {v:V} {vs:List V} {t:Th} {ts:List Th} (h:IsTh H v t) (r:IsThs H vs ts):IsThs H (v::vs) (t::ts)
end
def Kp (H H':Hp):Prop:=∀a o,H a=some o->(∀kvs,o ≠ .dK kvs)->H' a=some o
theorem Kp.trans {H H1 H2:Hp}(a:Kp H H1)(b:Kp H1 H2):Kp H H2:=fun c o e n=>b c o (a c o e n) n
theorem Kp.of {H H1:Hp}(a:Same H H1):Kp H H1:=fun c o e _=>a c o e
mutual
theorem IsTh.kp {H H':Hp}(k:Kp H H'):∀{v:V} {t:Th},IsTh H v t->IsTh H' v t
 |_,_,.at f=>.at f
 |_,_,.tup h r=>.tup (k _ _ h (fun _ z=>by cases z)) (IsThs.kp k r)
 |_,_,.lst h r=>.lst (k _ _ h (fun _ z=>by cases z)) (IsThs.kp k r)
theorem IsThs.kp {H H':Hp}(k:Kp H H'):∀{vs:List V} {ts:List Th},IsThs H vs ts->IsThs H' vs ts
 |_,_,.nil=>.nil
 |_,_,.cons h r=>.cons (IsTh.kp k h) (IsThs.kp k r)
end
theorem IsThs.len {H:Hp}:∀(vs:List V) {ts:List Th},IsThs H vs ts->vs.length=ts.length:=by
 intro vs
 induction vs with
 |nil=>intro ts h;cases h;rfl
 |cons v vs ih=>
  intro ts h
  cases h with
  |cons a b=>rw[length_cons,length_cons,ih b]
theorem IsThs.app {H:Hp}:∀(vs:List V) {ws:List V} {ts us:List Th},IsThs H vs ts->IsThs H ws us->IsThs H (vs++ws) (ts++us):=by
 intro vs
 induction vs with
 |nil=>intro ws ts us h g;cases h;exact g
 |cons v vs ih=>
  intro ws ts us h g
  cases h with
  |cons a b=>exact .cons a (ih b g)
section
variable {X:Cx}
theorem Zib {c:TT}{tb:TS}{D:Ends}{σ:St}{H:Hp}(Pv:Nat->St->Hp->Prop)(m0:Nat)(h0:Pv m0 σ H)
  (hs:∀m σ H,Pv m σ H->c σ H fun b H1=>if b=true then tb { D with nx:=fun σ' H'=>∃m',m'<m/\Pv m' σ' H',ct:=fun σ' H'=>∃m',m'<m/\Pv m' σ' H',bk:=D.nx } σ H1 else D.nx σ H1)
  (mono:∀ σ H Q Q',(∀b H1,Q b H1->Q' b H1)->c σ H Q->c σ H Q'):tWhile c tb D σ H:=by
 refine⟨Pv,⟨m0,h0⟩,?_⟩
 intro m σ H p
 refine mono σ H _ _ (fun b H1 q=>?_) (hs m σ H p)
 cases b with
 |true=>exact⟨_,fun σ' H' z=>z,q⟩
 |false=>exact q
end
end L2
namespace L2
open PySem PySem.Spec PyProof.Rows PySem.Builtin PySem.Builtin.Str
end L2
namespace L2
open PySem PySem.Spec PyProof.Rows
section
variable {X:Cx}
theorem Z4p (hu:X.A.units<cLine):OpR X (compareOp .Eq) (fun x y H Q=>∃a b xs,x = .ref a/\y = .ref b/\SqL X.K H a xs/\SqL X.K H b []/\Q (.bl xs.isEmpty) H):=by
 intro pins s σ H x y v u Q I rx ry h
 obtain⟨a,b,xs,rfl,rfl,hx,hy,q⟩:=h
 cases rx
 cases ry
 obtain⟨its,r,pl,hz⟩:=I.list hx
 obtain⟨its2,r2,pl2,hz2⟩:=I.list hy
 cases r2
 cases r with
 |nil=>
  refine SeqAt.eq_listAt (e:=fun _=>true) pl.isList pl2.isList rfl hu (fun j h1 h2=>absurd h2 (by simp)) ?_
  exact Z0z I q (by simp)
 |cons r1 r'=>
  refine SeqAt.eq_list_lengthsAt pl.isList pl2.isList (by simp) hu ?_
  exact Z0z I q rfl
end
end L2
namespace HT
open PySem PySem.Spec PyProof.Rows
section
variable {prog:Program}{w:World}{A:Around}{E:Value->Shared->Prop}{s:Shared}
theorem getItem_tuple_all {t sl:Addr}{items:Array Value}{vl vu:Value}{lo hi:Option Int}{Q:Value->Shared->Prop}(ht:IsTup s.heap t items)(hs:s.heap.IsSliceOf sl vl vu .none)(pl:IsPart vl lo)(pu:IsPart vu hi)
  (hw:sIx items.size 0 lo=0/\sIx items.size items.size hi=items.size) (h:Q (.ref t) s):wpAny (model prog w) A (getItem (.ref t) (.ref sl)) Q E s:=by
 obtain⟨os,hos,hcs,hds⟩:=id hs
 have hTs:s.TypeIs (.ref sl) "slice":=⟨os,hos,hcs⟩
 unfold getItem
 try with_reducible refine wpAny_holding ?_
 first|refine wpAny_bind (wpAny_pure ?_)|skip
 refine wpAny_bind (wpAny_sequenceKey ht.typeIs (by decide) ?_)
 refine wpAny_bind (wpAny_callSpecial?_slot (name:=Str.ofString "__getitem__") ht.typeIs PyProof.Rows.slot_tuple_getitem
  (wpAny_call_entry PyProof.Rows.slot_tuple_getitem ht.typeIs entry_tuple_getitem ?_ (args_tuple_getitem _ _)))
 show wpAny _ _ (Builtin.Tuple.tupleItemsOf (.ref t) >>= _) _ _ s
 refine wpAny_bind (tupleItemsOf_ ht ?_)
 refine wpAny_bind (wpAny_typeOf hTs ?_)
 rw[if_pos (by decide)]
 refine wpAny_bind (Z3g hs pl pu ?_)
 have hno:((((sIx items.size 0 lo:Nat):Int)==0&&(1:Int)==1&&(sIx items.size items.size hi-sIx items.size 0 lo)==items.size)=true):=by
  rw[hw.1,hw.2];simp
 show wpAny _ _ (if (((sIx items.size 0 lo:Nat):Int)==0&&(1:Int)==1&&(sIx items.size items.size hi-sIx items.size 0 lo)==items.size)=true then _ else _) _ _ s
 rw[if_pos hno]
 refine wpAny_bind (m:=Builtin.Tuple.tupleIsExact _) (wpAny_bind (wpAny_typeOf ht.typeIs (wpAny_pure ?_)))
 rw[if_pos (by decide)]
 refine wpAny_bind (wpAny_rule ?_)
 exact wpAny_pure ⟨_,rfl,wpAny_pure h⟩
end
end HT
namespace L2
open PySem PySem.Spec PyProof.Rows
section
variable {X:Cx}
theorem Zfv {xs:List V}{lo hi:Option Int}(h:HT.sIx xs.length 0 lo=0/\HT.sIx xs.length xs.length hi=xs.length):Z79 xs lo hi=xs:=by
 unfold Z79
 rw[h.1,h.2,drop_zero,Nat.sub_zero,take_of_length_le (Nat.le_refl _)]
theorem Zaw (hc:X.calm=true):Z3l X (.builtin "sum") (fun xs H Q=>∃(a:Addr) (ns:List Int),xs = [.ref a]/\SqL X.K H a (ns.map V.int)/\Q (.int ns.sum) H):=by
 intro pins s σ H xs us Q I r h
 obtain⟨a,ns,rfl,ha,q⟩:=h
 obtain⟨u,rfl,ru⟩:=Z61 r
 cases ru
 obtain⟨its,r1,pl,hz⟩:=I.list ha
 have hi:=Zbu r1
 obtain⟨ys,hys⟩:=hi.allInts.items
 have e1:(intItems ys).toList=its:=by rw[<- hys]
 have e2:preSum (numAt ys) ys.size=ns.sum:=by
  rw[preSum_eq,take_of_length_le (by simp),<- nums_intItems,e1,hi.numsOf]
 refine sum_intListG (I.ok.hd hc) (hys▸pl.isList) fun h' tk t' hk=>?_
 rw[e2]
 exact⟨.int ns.sum,H,I.kept hk,⟨_,rfl⟩,q⟩
end
section
variable {X:Cx}
inductive rSlP (x:V)(lo:Option Int)(hi:Option Int)(H:Hp)(Q:VK):Prop
 |mk (a xs:_) (_:x = .ref a) (_:H a=some (.tup xs)) (_:∀p H',Same H H'->H' p=some (.tup (Z79 xs lo hi))->Q (.ref p) H'):rSlP x lo hi H Q
theorem Z3n:SlR X rSlP:=by
 intro pins s σ H x v vl vu lo hi sl Q I rx hs pl pu h
 obtain⟨a,xs,rfl,hx,q⟩:=h
 by_cases hw:HT.sIx xs.length 0 lo=0/\HT.sIx xs.length xs.length hi=xs.length
 ·cases rx
  obtain⟨its,r,ht,hz⟩:=I.tuple (SqT.of hx)
  have hlen:its.toArray.size=xs.length:=by rw[size_toArray];exact r.length.symm
  refine⟨"tuple",_,PyProof.Rows.slot_tuple_getitem.lookup,ht.typeIs,?_⟩
  refine HT.getItem_tuple_all ht hs pl pu (by rw[hlen];exact hw) ?_
  exact⟨.ref a,H,I,rfl,q a H (Same.refl H) (by rw[Zfv hw];exact hx)⟩
 ·exact Zk4 pins s σ H (.ref a) v vl vu lo hi sl Q I rx hs pl pu ⟨a,xs,rfl,SqT.of hx,hw,fun p hp=>q p _ (Z02 hp) Z00⟩
inductive rCatP (x:V)(y:V)(H:Hp)(Q:VK):Prop
 |mk (a b xs ys:_) (_:x = .ref a) (_:y = .ref b) (_:H a=some (.tup xs)) (_:H b=some (.tup ys)) (_:xs.length+ys.length<=sizeLine) (_:∀p H',Same H H'->H' p=some (.tup (xs++ys))->Q (.ref p) H'):rCatP x y H Q
theorem Z6b:OpR X (binaryOp .Add) rCatP:=by
 intro pins s σ H x y v u Q I rx ry h
 obtain⟨a,b,xs,ys,rfl,rfl,ha,hb,hz,q⟩:=h
 by_cases hx:xs = []
 ·subst hx
  cases rx
  cases ry
  obtain⟨its,r1,p1,_⟩:=I.tuple (SqT.of ha)
  obtain⟨its2,r2,p2,_⟩:=I.tuple (SqT.of hb)
  cases r1
  obtain⟨⟨cls,dd,data,sl⟩,ho,hc,n,hd⟩:=id p1
  obtain⟨⟨cls2,dd2,data2,sl2⟩,ho2,hc2,n2,hd2⟩:=id p2
  simp only at hc hd hc2 hd2
  subst hc hd hc2 hd2
  exact concat_meets ⟨_,ho,rfl⟩ ⟨_,ho2,rfl⟩ noFill_tuple_add seq_tuple_add PySem.F.slot_tuple_add PySem.F.entry_tuple_add (PySem.F.args_tuple_add_2 _ _)
   (tuple_addW0 a b _ _ n n2 dd dd2 sl sl2 (by simp)) ⟨ho,ho2,⟨.ref b,H,I,rfl,q b H (Same.refl H) hb⟩⟩
 ·refine Zi2 pins s σ H (.ref a) (.ref b) v u Q I rx ry ⟨a,b,xs,ys,rfl,rfl,SqT.of ha,SqT.of hb,hx,hz,fun hy=>?_,fun hy p hp=>?_⟩
  ·subst hy
   exact q a H (Same.refl H) (by rw[append_nil];exact ha)
  ·exact q p _ (Z02 hp) Z00
end
section
variable {X:Cx}
theorem Z4c:OpR X (compareOp .IsNot) (fun x y H Q=>∃b c,x = .bl b/\y = .bl c/\Q (.bl (!decide (b=c))) H):=by
 intro pins s σ H x y v u Q I rx ry h
 obtain⟨b,c,rfl,rfl,q⟩:=h
 cases rx
 cases ry
 cases b <;> cases c <;> exact wpAny_pure (Z0z I q rfl)
end
section
variable {X:Cx}{pins:List (Addr×Obj)}{σ:St}{H:Hp}{s:Shared}{h':Heap}
theorem Inv.turnedL {t':Nat}{ch:List Addr}(I:Inv X pins σ H s)(k:∀b o,b∉ch->s.heap.get? b=some o->h'.get? b=some o)(hf:∀b∈ch,Z5y X pins H b):Inv X pins σ H { s with heap:=h',toks:=t' }:=by
 have nit:∀b u,H b=some u->b∉ch:=fun b u e z=>by rw[(hf b z).1] at e;cases e
 refine I.step (g':=s.gens) (d':=s.drawn) (ch:=ch) (fun b hb=>?_) (fun b o _ _ hc e _=>k b o hc e) (fun b o _ _ hc e _=>⟨o.slots,k b o hc e⟩) (fun _ _ _ _ n=>n)
  (fun b o hc e=>⟨o,k b o hc e⟩) (fun _ _ e=>e) (fun _ _ _ e=>e) (fun b ps e=>⟨#[],by rw[e];simp⟩) (fun m hm=>?_) (fun b u e=>?_) I.bare
 ·obtain⟨f0,f1,f2,f3,f4,f5⟩:=hf b hb
  exact⟨f3,f1,f4,f5⟩
 ·obtain⟨o,es,ep,ho,r⟩:=hm
  exact⟨o,es,ep,k _ o (fun z=>(hf _ z).2.1 rfl) ho,r⟩
 ·refine(I.hok b u e).stay (fun c v hc q=>k c v ?_ q) (fun _ q=>q) fun _ _ q=>q
  rcases hc with z|z
  ·rw[z];exact nit b u e
  ·exact nit c _ z
theorem Inv.turnedLaid {t':Nat}{ch:List Addr}{a:Addr}{o:HO}(I:Inv X pins σ H s)(k:∀b o,b∉ch->s.heap.get? b=some o->h'.get? b=some o)(hf:∀b∈ch,Z5y X pins H b)(hp:s.heap.objs.size<=a)(new:ObjOk X.prog X.w (upd H a o) h' a o):
  Inv X pins σ (upd H a o) { s with heap:=h',toks:=t' }:=by
 have nit:∀b u,H b=some u->b∉ch:=fun b u e z=>by rw[(hf b z).1] at e;cases e
 have hn:H a=none:=I.hok.fresh hp
 have old:∀b u,H b=some u->upd H a o b=some u:=fun b u e=>by rw[Z0a (Z0g e hn)];exact e
 refine I.step (g':=s.gens) (d':=s.drawn) (ch:=ch) (fun b hb=>?_) (fun b o _ _ hc e _=>k b o hc e) (fun b o _ _ hc e _=>⟨o.slots,k b o hc e⟩) (fun b u _ e n=>?_)
  (fun b o hc e=>⟨o,k b o hc e⟩) (fun _ _ e=>old _ _ e) (fun _ _ _ e=>old _ _ e) (fun b ps e=>⟨#[],by rw[old _ _ e];simp⟩) (fun m hm=>?_) (fun b u e=>?_) I.bare
 ·obtain⟨f0,f1,f2,f3,f4,f5⟩:=hf b hb
  exact⟨f3,f1,f4,f5⟩
 ·rw[Z0a (fun z=>by subst z;exact absurd (Nat.lt_of_lt_of_le (Heap.lt_size e) hp) (Nat.lt_irrefl _))]
  exact n
 ·obtain⟨o,es,ep,ho,r⟩:=hm
  exact⟨o,es,ep,k _ o (fun z=>(hf _ z).2.1 rfl) ho,r⟩
 ·by_cases hb:b=a
  ·subst hb;rw[Z00] at e;cases e;exact new
  ·rw[Z0a hb] at e
   refine(I.hok b u e).stay (fun c v hc q=>k c v ?_ q) (fun c q=>old _ _ q) fun c xs q=>old _ _ q
   rcases hc with z|z
   ·rw[z];exact nit b u e
   ·exact nit c _ z
end
def Ite (K:PySem.W.Frag)(a:Addr):It:=
 ⟨fun i H=>∃xs x,SqL K H a xs/\xs[i]? = some x,fun i H v H'=>∃T x,v = .ref T/\H T=none/\(∀xs,SqL K H a xs->xs[i]? = some x)/\H'=upd H T (.tup [.int i,x]),fun i H=>∃xs,SqL K H a xs/\xs.length=i⟩
theorem Zdi {P:Program}{w:World}{K:PySem.W.Frag}{elts:List Expr}{k:Nat}{pos:Pos}(a e it:Addr)(hne:e≠it):
  Turn P w K (.Tuple elts k pos) (Ite K a) [e,it] e (fun i h=>(∃old,IsEnum h e it (i:Nat) old)/\h.IsListIter it a i) where
 mem:=by simp
 obj:=fun i h st b hb=>by
  obtain⟨⟨old,s1⟩,o,s2,_,s3⟩:=st
  rcases mem_cons.mp hb with z|z
  ·subst z
   exact⟨_,s1,fun v z=>by cases z⟩
  ·have z:b=it:=by simpa using z
   subst z
   exact⟨o,s2,fun v z=>by rw[s3] at z;cases z⟩
 keep:=fun i h h' st k=>by
  obtain⟨⟨old,s1⟩,s2⟩:=st
  exact⟨⟨old,k e (by simp) _ s1⟩,s2.at fun o e=>k it (by simp) o e⟩
 item:=by
  intro X hP hw hK hc i pins s σ H E I hf st hg
  subst hP hw hK
  obtain⟨xs,x,hq,hx⟩:=hg
  obtain⟨its,rv,p,hz⟩:=I.list hq
  obtain⟨u,hu,ru⟩:=rv.get hx
  have hae:a≠e:=fun z=>by
   obtain⟨⟨old,s1⟩,_⟩:=st
   obtain⟨o,q1,q2,_⟩:=p.isList
   rw[z,s1] at q1
   cases q1
   injection q2 with q2
   exact absurd q2 (by decide)
  have hai:a≠it:=fun z=>by
   obtain⟨_,o',s2,s3,_⟩:=st
   obtain⟨o,q1,q2,_⟩:=p.isList
   rw[z,s2] at q1
   cases q1
   rw[s3] at q2
   injection q2 with q2
   exact absurd q2 (by decide)
  have W:=WalksT.enumerate (prog:=X.prog) (w:=X.w) (I.ok.hd hc) e it a hne hae hai its.toArray
  have hi:i<its.toArray.size:=by
   rw[size_toArray]
   exact(List.getElem?_eq_some_iff.mp hu).1
  refine W.item i s _ _ hi ⟨st.1,st.2,p.isList⟩ fun T vals h' tk hv hT hTup mid kk=>?_
  obtain⟨t,x',hx',rfl⟩:=hv
  have ex:x'=u:=by
   have:its.toArray[i]? = some u:=by simpa using hu
   rw[this] at hx'
   exact(Option.some.inj hx').symm
  subst ex
  refine⟨_,rfl,W.go elts k pos i T _ _ _ mid fun h'' st'' kk2=>?_⟩
  have hTw:T ∉ [e,it]:=W.apart i T _ mid
  have hfresh:H T=none:=I.hok.fresh hT
  refine⟨.ref T,_,I.turnedLaid (a:=T) (o:=.tup [.int i,x]) (ch:=[e,it]) (fun b o hb q=>kk2 b o hb (kk b o hb q)) hf hT ?_,rfl,⟨T,x,rfl,hfresh,fun ys hy=>by rw[I.list_inj hy hq];exact hx,rfl⟩,⟨st''.1,st''.2.1⟩,fun b hb=>?_⟩
  ·refine⟨by show 2<=sizeLine;decide,[Value.int (i:Nat) t,x'],.cons ⟨t,rfl⟩ (.cons ru .nil),?_⟩
   obtain⟨o,q1,q2⟩:=hTup
   exact⟨o,kk2 T o hTw q1,q2⟩
  ·rw[Z0a (fun z=>hTw (by rw[<- z];exact hb))]
   exact(hf b hb).1
 done:=by
  intro X hP hw hK hc i pins s σ H E I hf st hg
  subst hP hw hK
  obtain⟨xs,hq,hx⟩:=hg
  obtain⟨its,rv,p,hz⟩:=I.list hq
  have hae:a≠e:=fun z=>by
   obtain⟨⟨old,s1⟩,_⟩:=st
   obtain⟨o,q1,q2,_⟩:=p.isList
   rw[z,s1] at q1
   cases q1
   injection q2 with q2
   exact absurd q2 (by decide)
  have hai:a≠it:=fun z=>by
   obtain⟨_,o',s2,s3,_⟩:=st
   obtain⟨o,q1,q2,_⟩:=p.isList
   rw[z,s2] at q1
   cases q1
   rw[s3] at q2
   injection q2 with q2
   exact absurd q2 (by decide)
  have W:=WalksT.enumerate (prog:=X.prog) (w:=X.w) (I.ok.hd hc) e it a hne hae hai its.toArray
  have hl:=rv.length
  have hi:i=its.toArray.size:=by rw[size_toArray];omega
  subst hi
  exact W.done s _ _ ⟨st.1,st.2,p.isList⟩ fun h' tk kk=>⟨rfl,I.turnedL (ch:=[e,it]) (fun b o hb q=>kk b o hb q) hf⟩
 self:=by
  intro A i s Q E st h
  obtain⟨⟨old,s1⟩,_⟩:=st
  exact wpAny_pyIter_enum s1 h
end L2
namespace L2
open PySem PySem.Spec PyProof.Rows PySem.Builtin PySem.AutoSeq1
section
variable {P:Program}{w:World}{B:Around}{G:Value->Shared->Prop}{z:Shared}
theorem Zbz {gi tp:Addr}{n:Nat}{ys:Array Value}{y:Value}{R:Value->Shared->Prop}(g:z.heap.IsTupleIter gi tp n)(t:z.heap.IsTuple tp ys)(hy:ys[n]? = some y)
  (q:∀k,k.IsTupleIter gi tp (n+1)->Heap.SameBut gi z.heap k->R y { z with heap:=k }):wpAny (model P w) B (SmallTypes.nextOf (.ref gi)) R G z:=by
 obtain⟨og,g1,g2,g3⟩:=id g
 obtain⟨ot,t1,t2,m,t3⟩:=t
 unfold SmallTypes.nextOf
 refine wpAny_bind (wpAny_callSpecial?_slot (name:=Str.ofString "__next__") g.typeIs F.slot_tuple_iterator_next (wpAny_call_entry F.slot_tuple_iterator_next g.typeIs F.entry_tuple_iterator_next ?_ (F.args_tuple_iterator_next_1 _)))
 show wpAny _ _ (field (.ref gi) 0 >>= _) _ _ z
 refine wpAny_bind (wpAny_field g1 g3 (x:=.ref tp) rfl ?_)
 show wpAny _ _ (if (Value.ref tp==Value.none)=true then _ else _) _ _ z
 rw[if_neg (show ¬ ((Value.ref tp==Value.none)=true) from Bool.false_ne_true)]
 show wpAny _ _ (field (.ref gi) 1 >>= _) _ _ z
 refine wpAny_bind (wpAny_field g1 g3 (x:=.int n 0) rfl ?_)
 show wpAny _ _ (seqItems? (.ref tp) >>= _) _ _ z
 refine wpAny_bind (wpAny_seqItems t1 t3 ?_)
 simp only [Int.toNat_natCast,hy]
 refine wpAny_bind (wpAny_setField g1 g3 (by simp) (wpAny_pure ⟨y,rfl,wpAny_pure (q _ ?_ (Heap.SameBut.update ..))⟩))
 exact⟨_,Heap.get?_update_self _ g1 (Obj.isFreed_of_fields (Obj.data_mapFields g3 _)),(Obj.cls_mapFields ..).trans g2,by rw[Obj.data_mapFields g3];simp [rawInt]⟩
theorem Zdj {gi tp:Addr}{n:Nat}{ys:Array Value}{R:Value->Shared->Prop}(hb:B.handled=none)(g:z.heap.IsTupleIter gi tp n)(t:z.heap.IsTuple tp ys)(hy:ys[n]? = none)
  (q:∀k e,Heap.ExtBut gi z.heap k->(∃o,k.get? e=some o/\o.cls = .type "StopIteration")->G (.ref e) { z with heap:=k }):wpAny (model P w) B (SmallTypes.nextOf (.ref gi)) R G z:=by
 obtain⟨og,g1,g2,g3⟩:=id g
 obtain⟨ot,t1,t2,m,t3⟩:=t
 unfold SmallTypes.nextOf
 refine wpAny_bind (wpAny_callSpecial?_slot (name:=Str.ofString "__next__") g.typeIs F.slot_tuple_iterator_next (wpAny_call_entry F.slot_tuple_iterator_next g.typeIs F.entry_tuple_iterator_next ?_ (F.args_tuple_iterator_next_1 _)))
 show wpAny _ _ (field (.ref gi) 0 >>= _) _ _ z
 refine wpAny_bind (wpAny_field g1 g3 (x:=.ref tp) rfl ?_)
 show wpAny _ _ (if (Value.ref tp==Value.none)=true then _ else _) _ _ z
 rw[if_neg (show ¬ ((Value.ref tp==Value.none)=true) from Bool.false_ne_true)]
 show wpAny _ _ (field (.ref gi) 1 >>= _) _ _ z
 refine wpAny_bind (wpAny_field g1 g3 (x:=.int n 0) rfl ?_)
 show wpAny _ _ (seqItems? (.ref tp) >>= _) _ _ z
 refine wpAny_bind (wpAny_seqItems t1 t3 ?_)
 simp only [Int.toNat_natCast,hy]
 refine wpAny_bind (wpAny_rule (wpAny_bind (wpAny_setField g1 g3 (by simp) ?_)))
 refine wpAny_bind (m:=newExc (.type "StopIteration") []) ?_
 simp only [newExc,newTuple];refine wpAny_bind (wpAny_newObj_type ?_ (by size_fits))
 refine wpAny_bind (m:=firstArgMember _ _) (wpAny_of_eq (a:=Value.none) (by first|rfl | (simp only [firstArgMember];rfl)) ?_);refine wpAny_newObj_type ?_ (by size_fits)
 simp only [raiseNew];refine wpAny_bind (wpAny_handled ?_)
 first|rw[show B.in1.handled=none from hb] | rw[hb]
 refine wpAny_bind (wpAny_pure (wpAny_throw ?_));exact q _ _ (((Heap.SameBut.update ..).extBut.push _).push _) ⟨_,Heap.get?_push_size _ rfl,rfl⟩
theorem Zhj (hb:B.handled=none)(gi tp:Addr)(hne:tp≠gi)(ys:Array Value):Draws P w B gi [gi,tp] ys.size (fun i v=>ys[i]? = some v) (fun i k=>k.IsTupleIter gi tp i/\k.IsTuple tp ys) where
 live:=fun _ _ st=>let ⟨o,ho,_⟩:=st.1;⟨o,ho⟩
 frame:=fun _ _ _ st k=>⟨st.1.at fun o e=>k gi (by simp) o e,let ⟨o,q1,q2⟩:=st.2;⟨o,k tp (by simp) o q1,q2⟩⟩
 item:=fun i z R G hi st q=>by
  refine Zbz st.1 st.2 (y:=ys[i]) (by simp [hi]) fun k g sb=>?_
  refine q _ k z.toks (by simp [hi]) ⟨g,?_⟩ sb
  obtain⟨o,q1,q2⟩:=st.2
  exact⟨o,(sb.2 tp hne).trans q1,q2⟩
 done:=fun z R G st q=>Zdj hb st.1 st.2 (by simp) q
theorem Zdk (tp:Addr)(ys:Array Value)(n:Nat)(dd:Option Addr)(sl:Array (Option Value)):
  Meets (Builtin.«enumerate.__new__» ⟨[.type "enumerate", .ref tp], []⟩) (fun _ R s => s.heap.get? tp = some { cls := .type "tuple", dict := dd, data := .seq ys n, slots := sl } ∧
   R (.ok (.ret (.ref (s.heap.push { cls:=.type "tuple_iterator",data:=.fields #[.ref tp,.int 0 0] }).objs.size)))
    { s with heap:=(s.heap.push { cls:=.type "tuple_iterator",data:=.fields #[.ref tp,.int 0 0] }).push { cls:=.type "enumerate",data:=.fields #[.none,.bool false,.ref s.heap.objs.size,rawInt 0,.none,.none] } }):=
 .of_wp fun prog w A R s h=>by
  obtain⟨hp,g,d,tk,os⟩:=s
  obtain⟨ht,h⟩:=h
  have hsub:=sub_enumerate
  have hT:Heap.IsTuple (Shared.heap ⟨hp,g,d,tk,os⟩) tp ys:=⟨_,ht,rfl,n,rfl⟩
  wp_walk using wpAny_loadPart' ht
  refine wpAny_stack_any fun st=>wpAny_pure ?_
  split
  ·rename_i c _ _ _ _ _
   cases (c==Value.type "enumerate")
   ·wp_walk using wpAny_loadPart' ht,wpAny_pyIter_tuple hT
    exact⟨_,rfl,h⟩
   ·wp_walk using wpAny_loadPart' ht,wpAny_pyIter_tuple hT
    exact⟨_,rfl,h⟩
  ·wp_walk using wpAny_loadPart' ht,wpAny_pyIter_tuple hT
   exact⟨_,rfl,h⟩
theorem Zc0 {tp:Addr}{ys:Array Value}{R:Value->Shared->Prop}(t:z.heap.IsTuple tp ys)
  (h:∀k,IsEnum k (z.heap.objs.size+1) z.heap.objs.size 0 .none->k.IsTupleIter z.heap.objs.size tp 0->(∀b o,z.heap.get? b=some o->k.get? b=some o)->R (.ref (z.heap.objs.size+1)) { z with heap:=k }):
  wpAny (model P w) B (call (.type "enumerate") [.ref tp]) R G z:=by
 obtain⟨⟨c,dd,dt,sl⟩,t1,t2,n,t3⟩:=t
 simp only at t2 t3
 subst t2 t3
 refine callType_new F.called_enumerate (by decide) (F.typeCall_enumerate_1 _) (F.newCall_enumerate_1 _) (fun obj=>F.args_object_init_2 obj _) F.entry_enumerate_new (Zdk tp ys n dd sl) ⟨t1,?_⟩
 have hz:(z.heap.push { cls:=.type "tuple_iterator",data:=.fields #[.ref tp,.int 0 0] }).objs.size=z.heap.objs.size+1:=Heap.size_push ..
 show _/\_
 rw[hz]
 have he:=Heap.get?_push_size (z.heap.push { cls:=.type "tuple_iterator",data:=.fields #[.ref tp,.int 0 0] }) (o:={ cls:=.type "enumerate",data:=.fields #[.none,.bool false,.ref z.heap.objs.size,rawInt 0,.none,.none] }) rfl
 rw[hz] at he
 exact⟨⟨_,he,rfl⟩,h _ he ⟨_,Heap.get?_push_of_some _ (Heap.get?_push_size _ rfl),rfl,rfl⟩ fun b o x=>Heap.get?_push_of_some _ (Heap.get?_push_of_some _ x)⟩
end
end L2
namespace L2
open PySem PySem.Spec PyProof.Rows
def Itf (K:PySem.W.Frag)(a:Addr):It:=
 ⟨fun i H=>∃xs x,SqT K H a xs/\xs[i]? = some x,fun i H v H'=>∃T x,v = .ref T/\H T=none/\(∀xs,SqT K H a xs->xs[i]? = some x)/\H'=upd H T (.tup [.int i,x]),fun i H=>∃xs,SqT K H a xs/\xs.length=i⟩
theorem Zc1 {P:Program}{w:World}{K:PySem.W.Frag}{elts:List Expr}{k:Nat}{pos:Pos}(a e it:Addr)(hne:e≠it):
  Turn P w K (.Tuple elts k pos) (Itf K a) [e,it] e (fun i h=>(∃old,IsEnum h e it (i:Nat) old)/\h.IsTupleIter it a i) where
 mem:=by simp
 obj:=fun i h st b hb=>by
  obtain⟨⟨old,s1⟩,o,s2,_,s3⟩:=st
  rcases mem_cons.mp hb with z|z
  ·subst z
   exact⟨_,s1,fun v z=>by cases z⟩
  ·have z:b=it:=by simpa using z
   subst z
   exact⟨o,s2,fun v z=>by rw[s3] at z;cases z⟩
 keep:=fun i h h' st k=>by
  obtain⟨⟨old,s1⟩,s2⟩:=st
  exact⟨⟨old,k e (by simp) _ s1⟩,s2.at fun o e=>k it (by simp) o e⟩
 item:=by
  intro X hP hw hK hc i pins s σ H E I hf st hg
  subst hP hw hK
  obtain⟨xs,x,hq,hx⟩:=hg
  obtain⟨its,rv,p,hz⟩:=I.tuple hq
  obtain⟨u,hu,ru⟩:=rv.get hx
  have p':s.heap.IsTuple a its.toArray:=p
  have hae:a≠e:=fun z=>by
   obtain⟨⟨old,s1⟩,_⟩:=st
   obtain⟨o,q1,q2,_⟩:=p'
   rw[z,s1] at q1
   cases q1
   injection q2 with q2
   exact absurd q2 (by decide)
  have hai:a≠it:=fun z=>by
   obtain⟨_,o',s2,s3,_⟩:=st
   obtain⟨o,q1,q2,_⟩:=p'
   rw[z,s2] at q1
   cases q1
   rw[s3] at q2
   injection q2 with q2
   exact absurd q2 (by decide)
  have W:=WalksT.enumerateD (prog:=X.prog) (w:=X.w) (A:=X.A) (Zhj (B:=X.A.in1) (I.ok.hd hc) it a hai its.toArray) e hne (by simp [hne,Ne.symm hae]) (by simp)
  have hi:i<its.toArray.size:=by
   rw[size_toArray]
   exact(List.getElem?_eq_some_iff.mp hu).1
  refine W.item i s _ _ hi ⟨st.1,st.2,p'⟩ fun T vals h' tk hv hT hTup mid kk=>?_
  obtain⟨t,x',hx',rfl⟩:=hv
  have ex:x'=u:=by
   have:its.toArray[i]? = some u:=by simpa using hu
   rw[this] at hx'
   exact(Option.some.inj hx').symm
  subst ex
  refine⟨_,rfl,W.go elts k pos i T _ _ _ mid fun h'' st'' kk2=>?_⟩
  have hTw:T ∉ [e,it]:=W.apart i T _ mid
  have hfresh:H T=none:=I.hok.fresh hT
  refine⟨.ref T,_,I.turnedLaid (a:=T) (o:=.tup [.int i,x]) (ch:=[e,it]) (fun b o hb q=>kk2 b o hb (kk b o hb q)) hf hT ?_,rfl,⟨T,x,rfl,hfresh,fun ys hy=>by rw[I.tuple_inj hy hq];exact hx,rfl⟩,⟨st''.1,st''.2.1⟩,fun b hb=>?_⟩
  ·refine⟨by show 2<=sizeLine;decide,[Value.int (i:Nat) t,x'],.cons ⟨t,rfl⟩ (.cons ru .nil),?_⟩
   obtain⟨o,q1,q2⟩:=hTup
   exact⟨o,kk2 T o hTw q1,q2⟩
  ·rw[Z0a (fun z=>hTw (by rw[<- z];exact hb))]
   exact(hf b hb).1
 done:=by
  intro X hP hw hK hc i pins s σ H E I hf st hg
  subst hP hw hK
  obtain⟨xs,hq,hx⟩:=hg
  obtain⟨its,rv,p,hz⟩:=I.tuple hq
  have p':s.heap.IsTuple a its.toArray:=p
  have hae:a≠e:=fun z=>by
   obtain⟨⟨old,s1⟩,_⟩:=st
   obtain⟨o,q1,q2,_⟩:=p'
   rw[z,s1] at q1
   cases q1
   injection q2 with q2
   exact absurd q2 (by decide)
  have hai:a≠it:=fun z=>by
   obtain⟨_,o',s2,s3,_⟩:=st
   obtain⟨o,q1,q2,_⟩:=p'
   rw[z,s2] at q1
   cases q1
   rw[s3] at q2
   injection q2 with q2
   exact absurd q2 (by decide)
  have W:=WalksT.enumerateD (prog:=X.prog) (w:=X.w) (A:=X.A) (Zhj (B:=X.A.in1) (I.ok.hd hc) it a hai its.toArray) e hne (by simp [hne,Ne.symm hae]) (by simp)
  have hl:=rv.length
  have hi:i=its.toArray.size:=by rw[size_toArray];omega
  subst hi
  exact W.done s _ _ ⟨st.1,st.2,p'⟩ fun h' tk kk=>⟨rfl,I.turnedL (ch:=[e,it]) (fun b o hb q=>kk b o hb q) hf⟩
 self:=by
  intro A i s Q E st h
  obtain⟨⟨old,s1⟩,_⟩:=st
  exact wpAny_pyIter_enum s1 h
section
variable {X:Cx}
def Zm2 (K:PySem.W.Frag)(ta:TA):TI:=fun σ H R=>ta σ H fun vs H1=>∃a,vs = [.ref a]/\(((∃xs,SqL K H1 a xs)/\R (Ite K a) H1)∨((∃xs,SqT K H1 a xs)/\R (Itf K a) H1))
theorem Zic {a:Expr}{ta:TA}{p pos qq:Pos}{elts:List Expr}{kn:Nat}(hg:Gl X "enumerate")(hm:X.mg "enumerate"=none)(ha:PA X [a] ta)(hs:starEach [a] X.env = [(false,eval a X.env)]:=by rfl):
  PI X (.Tuple elts kn qq) (.Call (.Name "enumerate" p) [a] [] pos) (Zm2 X.K ta):=by
 intro pins s σ H R I h
 refine Call_ (Z76 I hg hm boot_enumerate (PyProof.Rows.callWith_type1 (thn (ha pos pins s σ H _ I h) fun us s1 ⟨vs,H1,I1,r1,q1⟩=>?_) hs rfl))
 obtain⟨l,e,q1⟩:=q1
 subst e
 cases r1 with
 |cons r rr=>
  cases rr
  cases r
  have fin:∀{k:Heap} {J:It} {tn:Nat->Heap->Prop},(∀b o,s1.heap.get? b=some o->k.get? b=some o)->IsEnum k (s1.heap.objs.size+1) s1.heap.objs.size 0 .none →
    Turn X.prog X.w X.K (.Tuple elts kn qq) J [s1.heap.objs.size+1,s1.heap.objs.size] (s1.heap.objs.size+1) tn->tn 0 k->R J H1 →
    wpAny (model X.prog X.w) X.A (pyIter (.ref (s1.heap.objs.size+1))) (PIE X pins σ (.Tuple elts kn qq) R) X.xe { s1 with heap:=k }:=fun {k J tn} kk ie T t0 hR=>by
   refine wpAny_pyIter_enum ie ?_
   refine⟨_,_,tn,J,H1,rfl,I1.kept (t':=s1.toks) kk,T,t0,fun b hb=>?_,hR⟩
   rcases mem_cons.mp hb with z|z
   ·subst z;exact I1.fpOk (Nat.le_succ _) (I1.hok.fresh (Nat.le_succ _))
   ·have z:b=s1.heap.objs.size:=by simpa using z
    subst z;exact I1.fpOk (Nat.le_refl _) (I1.hok.fresh (Nat.le_refl _))
  rcases q1 with ⟨⟨xs,hq⟩,hR⟩|⟨⟨xs,hq⟩,hR⟩
  ·obtain⟨its,rv,pl,hz⟩:=I1.list hq
   exact call_enumerate_list pl.isList fun k ie il _ kk=>fin kk ie (Zdi l _ _ (Nat.succ_ne_self _)) ⟨⟨_,ie⟩,il⟩ hR
  ·obtain⟨its,rv,pl,hz⟩:=I1.tuple hq
   exact Zc0 (show s1.heap.IsTuple l its.toArray from pl) fun k ie il kk=>fin kk ie (Zc1 l _ _ (Nat.succ_ne_self _)) ⟨⟨_,ie⟩,il⟩ hR
end
def Zax:V->PyData
 | .bl b=>.bool b
 | .int i=>.int i
 | .str x=>.str x
 |_=>.none
mutual
def dat:Th->PyData
 | .at v=>Zax v
 | .tup xs=>.tuple (Z9u xs)
 | .lst xs=>.list (Z9u xs)
def Z9u:List Th->List PyData
 |[]=>[]
 |x::xs=>dat x::Z9u xs
end
mutual
theorem Z7i:∀t:Th,(dat t).hasDict=false
 | .at v=>by cases v <;> simp only [dat,Zax,PyData.hasDict]
 | .tup xs=>by simp only [dat,PyData.hasDict];exact Z4d xs
 | .lst xs=>by simp only [dat,PyData.hasDict];exact Z4d xs
theorem Z4d:∀ts:List Th,PyData.hasDictAll (Z9u ts)=false
 |[]=>by simp only [Z9u,PyData.hasDictAll]
 |t::ts=>by simp only [Z9u,PyData.hasDictAll,Z7i t,Z4d ts,Bool.or_self]
end
mutual
theorem Zay {X:Cx}{pins:List (Addr×Obj)}{σ:St}{H:Hp}{s:Shared}(I:Inv X pins σ H s):∀{v:V} {t:Th} {u:Value},IsTh H v t->RelV v u->∃as,Reads s.heap u (dat t) as
 |v,_,u,.at f,r=>by
  cases v with
  |non=>cases r;exact⟨[],.none⟩
  |bl b=>cases r;exact⟨[],.bool b⟩
  |int i=>obtain⟨k,rfl⟩:=r;exact⟨[],.int i k⟩
  |str x=>obtain⟨k,rfl⟩:=r;exact⟨[],.str x k⟩
  |_=>cases f
 |_,_,u,.tup h q,r=>by
  cases r
  obtain⟨its,v1,p,_⟩:=I.tuple (SqT.of (K:=X.K) h)
  obtain⟨as,ra⟩:=Z4e I q v1
  obtain⟨o,o1,o2,n,o3⟩:=(show s.heap.IsTuple _ its.toArray from p)
  exact⟨as,.tuple o1 o2 o3 ra⟩
 |_,_,u,.lst h q,r=>by
  cases r
  obtain⟨its,v1,p,_⟩:=I.list (SqL.of (K:=X.K) h)
  obtain⟨as,ra⟩:=Z4e I q v1
  obtain⟨o,o1,o2,n,o3⟩:=p.isList
  exact⟨_,.list o1 o2 o3 ra⟩
theorem Z4e {X:Cx}{pins:List (Addr×Obj)}{σ:St}{H:Hp}{s:Shared}(I:Inv X pins σ H s):∀{vs:List V} {ts:List Th} {us:List Value},IsThs H vs ts->Vals vs us->∃as,ReadsAll s.heap us (Z9u ts) as
 |_,_,us,.nil,r=>by cases r;exact⟨[],.nil⟩
 |_,_,us,.cons h q,r=>by
  cases r with
  |cons r1 r2=>
   obtain⟨a1,e1⟩:=Zay I h r1
   obtain⟨a2,e2⟩:=Z4e I q r2
   exact⟨_,.cons e1 e2⟩
end
section
variable {X:Cx}
theorem Zdl (hg:X.A.guards=some []):Z3l X (.builtin "repr") (fun xs H Q=>∃(a:Addr) (t:Th),xs = [.ref a]/\IsTh H (.ref a) t/\(dat t).showable=true/\X.A.units+((dat t).depth+1)<cLine/\(dat t).shown.length<=sizeLine/\Q (.str (dat t).shown) H):=by
 intro pins s σ H xs us Q I r h
 obtain⟨a,t,rfl,ha,h1,h2,h3,q⟩:=h
 obtain⟨u,rfl,ru⟩:=Z61 r
 obtain⟨as,rd⟩:=Zay I ha ru
 cases ru
 exact repr_of_reads' rd h1 (fun z=>by rw[Z7i] at z;cases z) hg h2 (fun b o e=>e) (fun h' u tk k=>⟨.str _,H,I.kept k,⟨u,rfl⟩,q⟩) h3
end
def isTup:Th->Bool
 | .tup _=>true
 |_=>false
def Zli:Th->String
 | .at .non=>"NoneType"
 | .at (.bl _)=>"bool"
 | .at (.int _)=>"int"
 | .at (.str _)=>"str"
 | .tup _=>"tuple"
 | .lst _=>"list"
 |_=>""
def Zm3:Th->Bool
 | .at (.bl _)=>true
 |_=>false
def Zke:Th->Bool
 | .at (.int _)=>true
 | .at (.bl _)=>true
 |_=>false
theorem Zfw {K:PySem.W.Frag}{H:Hp}{v:V}{t:Th}(h:IsTh H v t):TyOf K H v (.type (Zli t)):=by
 cases h with
 | «at» f =>
  cases v with
  |non=>exact .non
  |bl b=>exact .bl b
  |int i=>exact .int i
  |str x=>exact .str x
  |_=>exact absurd (show false=true from f) Bool.false_ne_true
 |tup e r=>exact .tup e
 |lst e r=>exact .lst e
structure Kits (K:PySem.W.Frag):Prop where
 int:∀{H:Hp} {v:V} {t:Th},IsTh H v t->PySem.W.kitOne K (.type (Zli t)) (.type "int")=some (Zke t)
 bl:∀{H:Hp} {v:V} {t:Th},IsTh H v t->PySem.W.kitOne K (.type (Zli t)) (.type "bool")=some (Zm3 t)
 tup:∀{H:Hp} {v:V} {t:Th},IsTh H v t->PySem.W.kitOne K (.type (Zli t)) (.type "tuple")=some (isTup t)
theorem Z1f {H:Hp}:∀(vs:List V) {ts:List Th} {i:Nat} {v:V},IsThs H vs ts->vs[i]? = some v->∃t,ts[i]? = some t/\IsTh H v t:=by
 intro vs
 induction vs with
 |nil=>intro ts i v h e;cases e
 |cons u vs ih=>
  intro ts i v h e
  cases h with
  |cons a b=>
   cases i with
   |zero=>
    have e':u=v:=by simpa using e
    subst e'
    exact⟨_,rfl,a⟩
   |succ i=>
    rw[List.getElem?_cons_succ] at e
    obtain⟨t,e1,e2⟩:=ih b e
    exact⟨t,by rw[List.getElem?_cons_succ];exact e1,e2⟩
theorem Zkf {H:Hp}:∀(vs:List V) {ts:List Th} {i:Nat} {t:Th},IsThs H vs ts->ts[i]? = some t->∃v,vs[i]? = some v/\IsTh H v t:=by
 intro vs
 induction vs with
 |nil=>intro ts i t h e;cases h;simp at e
 |cons v vs ih=>
  intro ts i t h e
  cases h with
  |cons a b=>
   cases i with
   |zero=>simp at e;subst e;exact⟨v,rfl,a⟩
   |succ i=>simp at e;obtain⟨w,e1,e2⟩:=ih b e;exact⟨w,by simpa using e1,e2⟩
theorem Z1b {H:Hp}{v:V}{ts:List Th}(h:IsTh H v (.tup ts)):∃a vs,v = .ref a/\H a=some (.tup vs)/\IsThs H vs ts:=by
 cases h with
 |tup e r=>exact⟨_,_,rfl,e,r⟩
theorem Zhk {H:Hp}{v:V}{ts:List Th}(h:IsTh H v (.lst ts)):∃a vs,v = .ref a/\H a=some (.lst vs)/\IsThs H vs ts:=by
 cases h with
 |lst e r=>exact⟨_,_,rfl,e,r⟩
theorem Z1w {H:Hp}{v w:V}(h:IsTh H v (.at w)):v=w/\smallV w=true:=by
 cases h with
 | «at» f => exact ⟨rfl, f⟩
theorem Zfx {H:Hp}:∀(ws:List V) {us:List Th},IsThs H ws us->ws ≠ []->∃ws' y us' u,ws=ws' ++ [y]/\us=us' ++ [u]/\IsThs H ws' us'/\IsTh H y u:=by
 intro ws
 induction ws with
 |nil=>intro us h n;exact absurd rfl n
 |cons v vs ih=>
  intro us h _
  cases h with
  | @cons _ _ t ts a b=>
   cases vs with
   |nil=>cases b;exact⟨[],v,[],t,rfl,rfl,.nil,a⟩
   |cons v2 vs2=>
    obtain⟨ws',y,us',u,e1,e2,h1,h2⟩:=ih b (by intro z;cases z)
    exact⟨v::ws',y,t::us',u,by rw[e1];rfl,by rw[e2];rfl,.cons a h1,h2⟩
theorem Zdm {H:Hp}:∀(vs:List V) {ts:List Th},IsThs H vs ts->IsThs H vs.reverse ts.reverse:=by
 intro vs
 induction vs with
 |nil=>intro ts h;cases h;exact .nil
 |cons v vs ih=>
  intro ts h
  cases h with
  |cons a b=>
   rw[reverse_cons,reverse_cons]
   exact IsThs.app _ (ih b) (.cons a .nil)
mutual
def Th.sz:Th->Nat
 | .at _=>1
 | .tup xs=>1+szs xs
 | .lst xs=>1+szs xs
def szs:List Th->Nat
 |[]=>0
 |x::xs=>Th.sz x+szs xs
end
theorem Zkg (t:Th):1<=Th.sz t:=by
 cases t with
 | «at» v => simp [Th.sz]
 |tup xs=>simp [Th.sz]
 |lst xs=>simp [Th.sz]
theorem Zdn:∀us ws:List Th,szs (us++ws)=szs us+szs ws:=by
 intro us
 induction us with
 |nil=>intro ws;simp [szs]
 |cons u us ih=>intro ws;rw[cons_append,szs,szs,ih];omega
theorem Za2:∀ts:List Th,ts.length<=szs ts:=by
 intro ts
 induction ts with
 |nil=>simp [szs]
 |cons t ts ih=>have:=Zkg t;rw[length_cons,szs];omega
theorem Zkh:∀(ts:List Th) (t:Th),t∈ts->Th.sz t<=szs ts:=by
 intro ts
 induction ts with
 |nil=>intro t h;cases h
 |cons u ts ih=>
  intro t h
  rw[szs]
  rcases mem_cons.mp h with z|z
  ·subst z;omega
  ·have:=ih t z;omega
def Z11 (ts:List Th):List Th:=ts.filter isTup
def OkT:Nat->Th->Prop
 | 0,_=>False
 |n+1,t=>∃(w:Str) (ts:List Th),t = .tup (.at (.str w)::ts)/\(w="let"->(Z11 ts).length=2)/\∀x∈ts,isTup x=true->OkT n x
theorem OkT.up:∀(n:Nat) {t:Th},OkT n t->OkT (n+1) t:=by
 intro n
 induction n with
 |zero=>intro t h;exact h.elim
 |succ n ih=>
  intro t h
  obtain⟨w,ts,e,h1,h2⟩:=h
  exact⟨w,ts,e,h1,fun x hx hx2=>ih (h2 x hx hx2)⟩
theorem Z1u {H H':Hp}{p:Addr}(s:Same H H')(h:H' p=none):H p=none:=by
 cases e:H p with
 |none=>rfl
 |some o=>rw[s p o e] at h;cases h
theorem Zm4 (x:V)(xs:List V):Z79 (x::xs) (some 1) none=xs:=by
 have e1:HT.sIx (x::xs).length 0 (some 1)=min 1 (x::xs).length:=rfl
 have e2:HT.sIx (x::xs).length (x::xs).length none=(x::xs).length:=rfl
 unfold Z79
 rw[e1,e2,length_cons]
 have e3:min 1 (xs.length+1)=1:=by omega
 rw[e3]
 show List.take (xs.length+1-1) xs=xs
 exact take_of_length_le (by omega)
end L2
namespace L2
open PySem
def Z2g (xs:List Th):Bool:=match xs with
 | .at (.str w)::_=>decide (w="let")
 |_=>false
def Z37 (l:Bool)(me:Th):Nat->List (Str×Th)
 | 0=>if l=true then [(("opened":Str),me)] else []
 | 1=>if l=true then [(("closed":Str),me)] else []
 |_=>[]
mutual
def Z0u:Th->List (Str×Th)
 | .tup xs=>(("node":Str),Th.tup xs)::Z3h (Z2g xs) (.tup xs) 0 xs
 | .at _=>[]
 | .lst _=>[]
def Z3h (l:Bool)(me:Th):Nat->List Th->List (Str×Th)
 |_,[]=>[]
 |i,x::xs=>if isTup x=true then Z0u x++(Z37 l me i++Z3h l me (i+1) xs) else Z3h l me i xs
end
def Z2h (l:Bool)(me:Th):Nat->List Th->List (Str×Th)
 |_,[]=>[]
 |i,k::ks=>Z0u k++(Z37 l me i++Z2h l me (i+1) ks)
theorem Z38 (l:Bool)(me:Th):∀(xs:List Th) (i:Nat),Z3h l me i xs=Z2h l me i (Z11 xs):=by
 intro xs
 induction xs with
 |nil=>intro i;simp [Z3h,Z2h,Z11]
 |cons x xs ih=>
  intro i
  rw[Z3h]
  unfold Z11
  rw[filter_cons]
  split
  ·rw[Z2h,ih];rfl
  ·rw[ih];rfl
theorem Z3o (me:Th):∀(ks:List Th) (i:Nat),Z2h false me i ks=(ks.map Z0u).flatten:=by
 intro ks
 induction ks with
 |nil=>intro i;rfl
 |cons k ks ih=>
  intro i
  have e:Z37 false me i = []:=by
   match i with
   | 0=>rfl
   | 1=>rfl
   |_+2=>rfl
  rw[Z2h,ih,e,map_cons,flatten_cons,nil_append]
theorem Za3 {xs:List Th}(h:Z2g xs=false):Z0u (.tup xs)=(("node":Str),Th.tup xs)::((Z11 xs).map Z0u).flatten:=by
 rw[Z0u,Z38,h,Z3o]
theorem Zdo {xs:List Th}{k1 k2:Th}(h:Z2g xs=true)(hk:Z11 xs = [k1,k2]):Z0u (.tup xs)=(("node":Str),Th.tup xs)::(Z0u k1++((("opened":Str),Th.tup xs)::(Z0u k2 ++ [(("closed":Str),Th.tup xs)]))):=by
 rw[Z0u,Z38,h,hk]
 simp [Z2h,Z37]
def Z56 (p:Str×Th):List (Str×Th):=if p.1="node" then Z0u p.2 else [p]
def Z2d (st:List (Str×Th)):List (Str×Th):=(st.reverse.map Z56).flatten
theorem Z4q (st:List (Str×Th))(x:Str×Th):Z2d (st ++ [x])=Z56 x++Z2d st:=by
 unfold Z2d;simp
theorem Zaz (st r:List (Str×Th)):Z2d (st++r.reverse)=(r.map Z56).flatten++Z2d st:=by
 unfold Z2d;simp
theorem Z3x (t:Th):Z56 (("node":Str),t)=Z0u t:=by unfold Z56;simp
theorem Zc2 (t:Th):Z56 (("opened":Str),t) = [(("opened":Str),t)]:=by
 unfold Z56;rw[if_neg (by show ¬ (("opened":Str)="node");decide+kernel)]
theorem Za4 (t:Th):Z56 (("closed":Str),t) = [(("closed":Str),t)]:=by
 unfold Z56;rw[if_neg (by show ¬ (("closed":Str)="node");decide+kernel)]
theorem Zc3 {st:List (Str×Th)}{xs:List Th}(h:Z2g xs=false):Z2d (st ++ [(("node":Str),Th.tup xs)])=(("node":Str),Th.tup xs)::Z2d (st++((Z11 xs).map fun k=>(("node":Str),k)).reverse):=by
 rw[Z4q,Zaz,Z3x,Za3 h,map_map]
 show _::(_++_)=_::(_++_)
 congr 2
theorem Zfy {st:List (Str×Th)}{xs:List Th}{k1 k2:Th}(h:Z2g xs=true)(hk:Z11 xs = [k1,k2]):
  Z2d (st ++ [(("node":Str),Th.tup xs)])=(("node":Str),Th.tup xs)::Z2d (st++([(("node":Str),k1),(("opened":Str),Th.tup xs),(("node":Str),k2),(("closed":Str),Th.tup xs)]:List (Str×Th)).reverse):=by
 rw[Z4q,Zaz,Z3x,Zdo h hk]
 simp [Z3x,Zc2,Za4]
def pr (p:Str×Th):Th:=.tup [.at (.str p.1),p.2]
mutual
def cnt:Th->Nat
 | .tup xs=>1+Z1o xs
 | .at _=>0
 | .lst _=>0
def Z1o:List Th->Nat
 |[]=>0
 |x::xs=>cnt x+Z1o xs
end
mutual
def dp:Th->Nat
 | .tup xs=>1+dps xs
 | .at _=>0
 | .lst _=>0
def dps:List Th->Nat
 |[]=>0
 |x::xs=>max (dp x) (dps xs)
end
theorem Zid (t:Th)(h:isTup t=false):cnt t=0:=by
 cases t with
 | «at» v => simp [cnt]
 |lst xs=>simp [cnt]
 |tup xs=>cases h
theorem Zdp:∀xs:List Th,Z1o xs=Z1o (Z11 xs):=by
 intro xs
 induction xs with
 |nil=>rfl
 |cons x xs ih=>
  unfold Z11
  rw[Z1o,filter_cons]
  split
  ·rw[Z1o,ih];rfl
  ·rw[Zid x (by simp_all),Nat.zero_add,ih];rfl
def Z2c (l:List (Str×Th)):List (Str×Th):=l.filter fun p=>decide (p.1="node")
end L2
namespace L2
open PySem PySem.Spec PyProof.Rows
theorem Zdq {K:PySem.W.Frag}{a:Addr}{xs:List V}{g:TG}{tb:TS}{D:Ends}{σ:St}{H:Hp}(Pv:Nat->St->Hp->Prop)(h0:Pv 0 σ H)(hl:∀i σ H,i<=xs.length->Pv i σ H->SqL K H a xs)
  (hs:∀i x σ H T,xs[i]? = some x->Pv i σ H->H T=none->g (.ref T) σ (upd H T (.tup [.int i,x])) fun σ2 H2=>tb { D with nx:=Pv (i+1),ct:=Pv (i+1),bk:=D.nx } σ2 H2) (hd:∀ σ H,Pv xs.length σ H->D.nx σ H):
  ∃W:Nat->Nat->St->Hp->Prop,(∃m,W 0 m σ H)/\∀i m σ H,W i m σ H →
   ((Ite K a).stop i H/\D.nx σ H)∨((Ite K a).go i H/\∃N:St->Hp->Prop,(∀ σ' H',N σ' H'->∃m',m'<m/\W (i+1) m' σ' H')/\∀x H',(Ite K a).yld i H x H'->g x σ H' fun σ2 H2=>tb { D with nx:=N,ct:=N,bk:=D.nx } σ2 H2):=by
 refine⟨fun i m σ H=>m=xs.length-i/\i<=xs.length/\Pv i σ H,⟨xs.length,by simp,Nat.zero_le _,h0⟩,?_⟩
 rintro i m σ H ⟨rfl,hi,p⟩
 have q:=hl i σ H hi p
 by_cases hlt:i<xs.length
 ·refine .inr ⟨⟨xs,xs[i],q,by simp [hlt]⟩,Pv (i+1),fun σ' H' p'=>⟨xs.length-(i+1),by omega,rfl,hlt,p'⟩,fun v H' y=>?_⟩
  obtain⟨T,x,rfl,hT,hxx,rfl⟩:=y
  exact hs i x σ H T (hxx xs q) p hT
 ·have e:i=xs.length:=by omega
  subst e
  exact .inl ⟨⟨xs,q,rfl⟩,hd σ H p⟩
end L2
namespace Srt
open PySem PyProof.Rows
end Srt
namespace Srt
open PySem PyProof.Rows PySem.Spec
end Srt
namespace L2
open PySem PySem.Spec PyProof.Rows Srt
end L2
namespace L2
open PySem PySem.Spec PyProof.Rows
mutual
def plT:Th->Bool
 | .at (.int _)=>true
 | .at (.str _)=>true
 | .at _=>false
 | .tup xs=>Z44 xs
 | .lst _=>false
def Z44:List Th->Bool
 |[]=>true
 |x::xs=>plT x&&Z44 xs
end
mutual
def pvT:Th->PV
 | .at v=>.at v
 | .tup xs=>.tup (Z5k xs)
 | .lst _=>.at .non
def Z5k:List Th->List PV
 |[]=>[]
 |x::xs=>pvT x::Z5k xs
end
mutual
theorem Zm5 {K:PySem.W.Frag}{H:Hp}:∀{v:V} {t:Th},IsTh H v t->∀n,plT t=true->dp t<=n->IsPV K H n v (pvT t)
 |_,_,.at f,n,hp,hd=>by rw[pvT];exact .at (smallV.flat f)
 |_,_,.tup h r,n,hp,hd=>by
  rw[dp] at hd
  rw[plT] at hp
  rw[pvT]
  cases n with
  |zero=>exact absurd hd (by omega)
  |succ n=>exact .tup (SqT.of h) (Z7j r n hp (by omega))
 |_,_,.lst h r,n,hp,hd=>by rw[plT] at hp;cases hp
theorem Z7j {K:PySem.W.Frag}{H:Hp}:∀{vs:List V} {ts:List Th},IsThs H vs ts->∀n,Z44 ts=true->dps ts<=n->IsPVs K H n vs (Z5k ts)
 |_,_,.nil,n,hp,hd=>by rw[Z5k];exact .nil
 |_,_,.cons h r,n,hp,hd=>by
  rw[Z44,Bool.and_eq_true] at hp
  rw[dps] at hd
  rw[Z5k]
  exact .cons (Zm5 h n hp.1 (by omega)) (Z7j r n hp.2 (by omega))
end
theorem Zdr {v w:V}(hv:plT (.at v)=true)(hw:plT (.at w)=true):eqV v w=true↔v=w:=by
 cases v with
 |int i=>
  cases w with
  |int j=>simp [eqV]
  |str y=>simp [eqV]
  |_=>simp [plT] at hw
 |str x=>
  cases w with
  |int j=>simp [eqV]
  |str y=>simp [eqV]
  |_=>simp [plT] at hw
 |_=>simp [plT] at hv
mutual
theorem Zfz:∀(t u:Th),plT t=true->plT u=true->(Z69 (pvT t) (pvT u)=true↔t=u)
 | .at v,.at w,ht,hu=>by rw[pvT,pvT,Z69,Zdr ht hu];simp
 | .at v,.tup ys,ht,hu=>by rw[pvT,pvT,Z69];simp
 | .tup xs,.at w,ht,hu=>by rw[pvT,pvT,Z69];simp
 | .tup xs,.tup ys,ht,hu=>by rw[plT] at ht hu;rw[pvT,pvT,Z69,Z6c xs ys ht hu];simp
 | .lst _,_,ht,hu=>by rw[plT] at ht;cases ht
 |_,.lst _,ht,hu=>by rw[plT] at hu;cases hu
theorem Z6c:∀(ts us:List Th),Z44 ts=true->Z44 us=true->(Z2b (Z5k ts) (Z5k us)=true↔ts=us)
 |[],[],_,_=>by rw[Z5k,Z2b];simp
 |[],y::ys,_,_=>by rw[Z5k,Z5k,Z2b];simp
 |x::xs,[],_,_=>by rw[Z5k,Z5k,Z2b];simp
 |x::xs,y::ys,ht,hu=>by
  rw[Z44,Bool.and_eq_true] at ht hu
  rw[Z5k,Z5k,Z2b,Bool.and_eq_true,Zfz x y ht.1 hu.1,Z6c xs ys ht.2 hu.2]
  simp
end
section
variable {X:Cx}
inductive rSame (neg:Bool)(n:Nat)(mk:List Th->Th)(x:V)(y:V)(H:Hp)(Q:VK):Prop
 |mk (ts us:_) (_:IsTh H x (mk ts)) (_:IsTh H y (mk us)) (_:Z44 ts=true) (_:Z44 us=true) (_:dps ts<=n) (_:dps us<=n) (_:(ts=us->Q (.bl (!neg)) H)) (_:(ts≠us->Q (.bl neg) H)):rSame neg n mk x y H Q
theorem Za5 {n:Nat}{ts us:List Th}{Q:V->Hp->Prop}{H:Hp}{b neg:Bool}(p1:Z44 ts=true)(p2:Z44 us=true)(q1:ts=us->Q (.bl (!neg)) H)(q2:ts≠us->Q (.bl neg) H)(e:b=if neg then !Z2b (Z5k ts) (Z5k us) else Z2b (Z5k ts) (Z5k us)):Q (.bl b) H:=by
 have hi:=Z6c ts us p1 p2
 by_cases z:ts=us
 ·rw[hi.mpr z] at e
  have:b = !neg:=by rw[e];cases neg <;> rfl
  rw[this]
  exact q1 z
 ·have hf:Z2b (Z5k ts) (Z5k us)=false:=by
   cases h:Z2b (Z5k ts) (Z5k us) with
   |false=>rfl
   |true=>exact absurd (hi.mp h) z
  rw[hf] at e
  have:b=neg:=by rw[e];cases neg <;> rfl
  rw[this]
  exact q2 z
theorem Zie {K:PySem.W.Frag}(hK:X.K=K)(n:Nat)(hu:X.A.units+(n+1)<cLine):OpR X (compareOp .Eq) (rSame false n .tup):=by
 subst hK
 intro pins s σ H x y v u Q I rx ry h
 obtain⟨ts,us,hx,hy,p1,p2,d1,d2,q1,q2⟩:=h
 obtain⟨a,vs,rfl,ha,hvs⟩:=Z1b hx
 obtain⟨b,ws,rfl,hb,hws⟩:=Z1b hy
 exact Zdh n hu pins s σ H _ _ v u Q I rx ry ⟨a,b,vs,ws,_,_,rfl,rfl,SqT.of ha,Z7j hvs n p1 d1,SqT.of hb,Z7j hws n p2 d2,Za5 (n:=n) (neg:=false) p1 p2 q1 q2 rfl⟩
end
def Zki (td ty tx:TE):TE:=fun σ H Q=>td σ H fun x H1=>∃a,x = .ref a/\IsD H1 a/\ty σ H1 fun y H2=>tx σ H2 fun z H3=>∃kvs k,H3 a=some (.dK kvs)/\y=kV k/\kvs.length<sizeLine ∧
 (∀v,Z27 kvs k=some v->Q v H3)/\(Z27 kvs k=none->Q z (upd H3 a (.dK (Z2t kvs k z))))
section
variable {X:Cx}{o e f:Expr}{apos cpos:Pos}{td ty tx:TE}
theorem Zg0 (ho:PE X o td)(he:PE X e ty)(hf:PE X f tx)(m:M2 X o "setdefault" apos e f cpos):PE X (.Call (.Attribute o "setdefault" apos) [e,f] [] cpos) (Zki td ty tx):=by
 intro pins s σ H Q I h
 refine wpAny_Call_method m.base m.few m.line PySem.F.plainAttrs_dict PySem.F.slot_dict_setdefault PySem.F.type_dict_setdefault (thn (ho pins s σ H _ I h) fun u s1 ⟨x,H1,I1,rx,a,ex,d,q1⟩=>?_)
 subst ex
 obtain rfl:u=Value.ref a:=rx
 obtain⟨t1,t2,_⟩:=Zdc I1 d
 refine⟨t1,t2,?_⟩
 rw[m.trees]
 refine Calls.callWith_builtin rfl (Calls.evalArgs_plain (Calls.spliced_cons (thn (he pins s1 σ H1 _ I1 q1) fun iv s2 ⟨y,H2,I2,ry,q2⟩=>
  Calls.spliced_cons (thn (hf pins s2 σ H2 _ I2 q2) fun fv s3 ⟨z,H3,I3,rz,kvs,k,ea,ey,hl,q3,q4⟩=>Calls.spliced_nil ?_))))
 subst ey
 obtain⟨hz,hd,vs,rel,dd⟩:=Zfm I3.hok ea
 refine call_meetsIn PySem.F.slot_dict_setdefault dd.typeIs PySem.F.entry_dict_setdefault (PySem.F.args_dict_setdefault_3 _ _ _) (kt_meets_setdefault (Z13 X.prog X.w) a (Z81 ry) hd fv) ⟨vs,dd,by rw[<- rel.length];exact hz,fun v' hv=>?_,fun hn h' dd' hs=>?_⟩
 ·cases l:Z27 kvs k with
  |none=>
   have hn:valueAt vs k=none:=RelO.none_of (by rw[<- l];exact rel.val k)
   rw[hn] at hv
   cases hv
  |some v=>
   obtain⟨w',hw,rw'⟩:=RelO.some_of (v:=v) (o:=valueAt vs k) (by rw[<- l];exact rel.val k)
   rw[hw] at hv
   cases hv
   exact⟨v,H3,I3.tok _,rw',q3 v l⟩
 ·have l:Z27 kvs k=none:=by
   cases l:Z27 kvs k with
   |none=>rfl
   |some v=>
    obtain⟨w',hw,rw'⟩:=RelO.some_of (v:=v) (o:=valueAt vs k) (by rw[<- l];exact rel.val k)
    rw[hw] at hn
    cases hn
  have he:∃q,h'.get? a=some q:=let ⟨q,_,_,hq,_⟩:=dd';⟨q,hq⟩
  have hl':(Z2t kvs k z).length<=sizeLine:=by have:=Z1n kvs k z;omega
  exact⟨z,_,Z65 I3 (by rw[ea];exact True.intro) hs he (Z97 hl' hd (rel.put k rz) dd'),rz,q4 l⟩
end
end L2
namespace L2
open PySem PySem.Spec PyProof.Rows PySem.Builtin PySem.AutoSeq1
end L2
namespace L2
open PySem PySem.Spec PyProof.Rows
end L2
namespace L2
open PySem PySem.Spec PyProof.Rows
open Sem (wp)
open AutoSeq1 (wpAny_loadPart')
end L2
namespace L2
open PySem PySem.Spec PyProof.Rows PySem.Builtin PySem.AutoSeq1
end L2
namespace L2
open PySem PySem.Spec PyProof.Rows
end L2
namespace L2
open PySem PySem.Spec PyProof.Rows PySem.Builtin PySem.AutoSeq1
theorem Z5l:mroOf (.type "reversed")=pure [.type "reversed",.type "object"]:=by rw[mroOf_type];kernel_rfl
theorem Z4f:typeLookup (.type "reversed") "__new__"=pure (some (.builtin "reversed.__new__")):=by rw[typeLookup_type,builtinLookup_eq_fast];kernel_rfl
theorem Z83:Bind.madeBy (.type "reversed")=pure (some "reversed.__new__"):=madeBy_type Z5l Z4f (by decide+kernel)
theorem Z9c:isSubtype (.type "reversed") (.type "reversed")=pure true:=by rw[isSubtype_type];kernel_rfl
theorem Zc4:isSubtype (.type "list_reverseiterator") (.type "reversed")=pure false:=by rw[isSubtype_type];kernel_rfl
theorem Z4r : entryFor table "reversed.__new__" = some Builtin.«reversed.__new__» := entryFor_of_tree (by kernel_rfl)
theorem Z57 (a:Value):checkTypeCall "reversed" ⟨[a],[]⟩=pure ():=by kernel_rfl
theorem Z5p (a:Value):checkBuiltinCall "reversed.__new__" ⟨[.type "reversed",a],[]⟩=pure ():=by kernel_rfl
section
variable {prog:Program}{w:World}{A:Around}{E:Value->Shared->Prop}{s:Shared}
theorem Z74 {T U newId:String}{Bn:Builtin}{args:List Value}{S:PySem.Spec}{Q:Value->Shared->Prop}{c:Value}{tl:List Value}(h1:(Value.type T==Value.type "type")=false)
  (h2:((Manifest.find? T).bind (·.mro.findSome? fun t=>(Manifest.find? t).bind fun b=>if b.noNew then some true else if b.attrs.any (·.1=="__new__") then some false else none)).getD false=false)
  (hmro:mroOf (.type T)=pure (c::tl)) (hmade:Bind.madeBy (.type T)=pure (some newId)) (plain:plainId newId=true) (hsub:isSubtype (.type U) (.type T)=pure false)
  (hct:checkTypeCall T ⟨args,[]⟩=pure ()) (hcn:checkBuiltinCall newId ⟨.type T::args,[]⟩=pure ())
  (entryN:entryFor table newId=some Bn) (g:Meets (Bn ⟨.type T::args,[]⟩) S)
  (h:S A.in1 (wants (fun obj s₁=>s₁.TypeIs obj U/\Q obj s₁) E) s):wpAny (model prog w) A (call (.type T) args) Q E s:=by
 refine wpAny_call (codeAny_of_tree ?_)
 show wpAny _ _ (callAny (.type T) _) _ _ _
 refine wpAny_pure ⟨Code.quiet_builtin _ (by decide+kernel),codeAny_builtin F.entry_type_call ?_⟩
 rw[Around.under_plain (weight_type_call_type T args []) (units_type_call_type T args [])]
 repeat (any_goals (first|assumption|wp_step))
 refine codeAny_mono (codeAny_call_builtin plain entryN (wpAny_of_eq hcn (g prog w A.in1 _ s h))) fun r s₁ hr=>?_
 cases r with
 |error e=>exact hr
 |ok fl=>
  cases fl with
  |ret obj=>
   obtain⟨hT,hq⟩:=hr
   repeat (any_goals (first|assumption|wp_step))
  |_=>exact hr.elim
end
theorem Zg1 {prog:Program}{w:World}{A:Around}{s:Shared}{R:Result->Shared->Prop}{l:Addr}{items:Array Value}{n:Nat}(hl:s.heap.get? l=some { cls:=.type "list",dict:=none,data:=.seq items n,slots:=#[] })
  (h:R (.ok (.ret (Value.ref s.heap.objs.size))) { s with heap:=s.heap.push { cls:=Value.type "list_reverseiterator",data:=.fields #[.ref l,rawInt ((items.size:Int)-1)] } }):
  codeAny (model prog w) A (.call (.builtin "list.__reversed__") ⟨[.ref l],[]⟩) R s:=
 codeAny_call_builtin F.slot_list_reversed.plain F.entry_list_reversed (F.slot_list_reversed.check _ _ _ _ _ _ _ _ ⟨_,hl,rfl⟩ (F.args_list_reversed_1 _) (PySem.AutoListH.list___reversed___list_0 l items n prog w A R s ⟨hl,h⟩))
theorem Z4s (l:Addr)(items:Array Value)(n:Nat):
  Meets (Builtin.«reversed.__new__» ⟨[.type "reversed", .ref l], []⟩) (fun _ R s => s.heap.get? l = some { cls := .type "list", dict := none, data := .seq items n, slots := #[] } ∧
   R (.ok (.ret (Value.ref s.heap.objs.size))) { s with heap:=s.heap.push { cls:=Value.type "list_reverseiterator",data:=.fields #[.ref l,rawInt ((items.size:Int)-1)] } }):=
 .of_wp fun prog w A R s h=>by
  obtain⟨hp,g,d,tk,os⟩:=s;obtain⟨hl,h⟩:=h
  have hsub:=Z9c
  have hT:Shared.TypeIs ⟨hp,g,d,tk,os⟩ (.ref l) "list":=⟨_,hl,rfl⟩
  have hlk:=F.slot_list_reversed.lookup
  have hbd:=F.slot_list_reversed.bind (.ref l)
  wp_walk
  refine Zg1 hl ?_
  exact wpAny_pure ⟨_,rfl,h⟩
section
variable {prog:Program}{w:World}{A:Around}{E:Value->Shared->Prop}{s:Shared}
theorem Z84 {l:Addr}{items:Array Value}{n:Nat}{Q:Value->Shared->Prop}(hl:s.heap.get? l=some { cls:=.type "list",dict:=none,data:=.seq items n,slots:=#[] })
  (h:Q (.ref s.heap.objs.size) { s with heap:=s.heap.push { cls:=Value.type "list_reverseiterator",data:=.fields #[.ref l,rawInt ((items.size:Int)-1)] } }):
  wpAny (model prog w) A (call (.type "reversed") [.ref l]) Q E s:=
 Z74 (U:="list_reverseiterator") (by decide+kernel) (by decide+kernel) Z5l Z83 (by decide+kernel) Zc4 (Z57 _) (Z5p _) Z4r (Z4s l items n)
  ⟨hl,⟨_,Heap.get?_push_size _ rfl,rfl⟩,h⟩
def IsRevIter (h:Heap)(it l:Addr)(k:Int):Prop:=∃o,h.get? it=some o/\o.cls = .type "list_reverseiterator"/\o.data = .fields #[.ref l,.int k 0]
theorem IsRevIter.typeIs {it l:Addr}{k:Int}(x:IsRevIter s.heap it l k):s.TypeIs (.ref it) "list_reverseiterator":=let ⟨o,ho,hc,_⟩:=x;⟨o,ho,hc⟩
theorem slot_rev_next:Slot "list_reverseiterator" "__next__" "list_reverseiterator.__next__":=
 .of (owner:="list_reverseiterator") (n:="__next__") (by rw[typeLookup_type,builtinLookup_eq_fast];kernel_rfl) (by decide+kernel) (by decide+kernel) (by decide+kernel)
  (by first|exact .inl (by decide+kernel)|exact .inr (by decide+kernel)) (by rw[isSubtype_type];kernel_rfl)
theorem Z4t:Slot "list_reverseiterator" "__iter__" "list_reverseiterator.__iter__":=
 .of (owner:="list_reverseiterator") (n:="__iter__") (by rw[typeLookup_type,builtinLookup_eq_fast];kernel_rfl) (by decide+kernel) (by decide+kernel) (by decide+kernel)
  (by first|exact .inl (by decide+kernel)|exact .inr (by decide+kernel)) (by rw[isSubtype_type];kernel_rfl)
theorem Z45 : entryFor table "list_reverseiterator.__next__" = some Builtin.«list_reverseiterator.__next__» := entryFor_of_tree (by kernel_rfl)
theorem Z75 : entryFor table "list_reverseiterator.__iter__" = some Builtin.«dict_keyiterator.__iter__» :=
 entryFor_alias (id':="dict_keyiterator.__iter__") (by kernel_rfl) (by first|rfl|decide+kernel | (unfold String.splitOn;simp +decide [String.splitOnAux])) (by decide+kernel) (by kernel_rfl)
theorem Z4u (a:Value):argsOk "list_reverseiterator.__next__" ⟨[a],[]⟩:=by unfold argsOk;kernel_rfl
theorem Z85 (a:Value):argsOk "list_reverseiterator.__iter__" ⟨[a],[]⟩:=by unfold argsOk;kernel_rfl
theorem Z7k {it l:Addr}{k:Int}{Q:Value->Shared->Prop}(hz:IsRevIter s.heap it l k)(h:Q (.ref it) s):wpAny (model prog w) A (pyIter (.ref it)) Q E s:=by
 refine wpAny_pyIter_slot hz.typeIs Z4t (wpAny_call_entry Z4t hz.typeIs Z75 ?_ (Z85 _))
 show wpAny _ _ (ret (.ref it)) _ _ s
 exact wpAny_pure ⟨_,rfl,"list_reverseiterator",_,hz.typeIs,slot_rev_next.lookup,h⟩
theorem Z86 {it l:Addr}{k:Nat}{items:Array Value}{x:Value}{Q:Option Value->Shared->Prop}(hit:IsRevIter s.heap it l k)(hl:s.heap.IsList l items)(hx:items[k]? = some x)
  (hQ:∀h',IsRevIter h' it l ((k:Int)-1)->Heap.SameBut it s.heap h'->Q (some x) { s with heap:=h' }):wpAny (model prog w) A (pyNext (.ref it)) Q E s:=by
 obtain⟨o,ho,hc,hd⟩:=id hit
 obtain⟨ol,hol,_,nl,hdl⟩:=hl
 unfold pyNext
 refine wpAny_bind (wpAny_attempt (wpAny_callSpecial?_slot (name:=Str.ofString "__next__") hit.typeIs slot_rev_next
  (wpAny_call_entry slot_rev_next hit.typeIs Z45 ?_ (Z4u _))))
 show wpAny _ _ (field (.ref it) 1 >>= _) _ _ s
 refine wpAny_bind (wpAny_field ho hd (x:=.int k 0) rfl ?_)
 show wpAny _ _ (if ((k:Int)<0) then _ else _) _ _ s
 rw[if_neg (by omega)]
 show wpAny _ _ (field (.ref it) 0 >>= _) _ _ s
 refine wpAny_bind (wpAny_field ho hd (x:=.ref l) rfl ?_)
 refine wpAny_bind (wpAny_seqItems hol hdl ?_)
 simp only [Int.toNat_natCast,hx]
 refine wpAny_bind (wpAny_setField ho hd (by simp) (wpAny_pure ⟨x,rfl,wpAny_pure (hQ _ ?_ (Heap.SameBut.update ..))⟩))
 exact⟨_,Heap.get?_update_self _ ho (Obj.isFreed_of_fields (Obj.data_mapFields hd _)),(Obj.cls_mapFields ..).trans hc,by
  rw[Obj.data_mapFields hd];simp [rawInt]⟩
theorem Z9d {it l:Addr}{Q:Option Value->Shared->Prop}(hh:A.handled=none)(hit:IsRevIter s.heap it l (-1))
  (hQ:∀h',(∀b o,s.heap.get? b=some o->h'.get? b=some o)->Q none { s with heap:=h' }):wpAny (model prog w) A (pyNext (.ref it)) Q E s:=by
 obtain⟨o,ho,hc,hd⟩:=id hit
 unfold pyNext
 refine wpAny_bind (wpAny_attempt (wpAny_callSpecial?_slot (name:=Str.ofString "__next__") hit.typeIs slot_rev_next
  (wpAny_call_entry slot_rev_next hit.typeIs Z45 ?_ (Z4u _))))
 show wpAny _ _ (field (.ref it) 1 >>= _) _ _ s
 refine wpAny_bind (wpAny_field ho hd (x:=.int (-1) 0) rfl ?_)
 show wpAny _ _ (if ((-1:Int)<0) then _ else _) _ _ s
 rw[if_pos (by decide)]
 refine wpAny_bind (wpAny_rule ?_)
 refine wpAny_bind ?_
 show wpAny _ _ (newExc (.type "StopIteration") [] >>= _) _ _ _
 refine wpAny_bind ?_
 simp only [newExc,newTuple]
 refine wpAny_bind (wpAny_newObj_type ?_ (by size_fits))
 refine wpAny_bind (m:=firstArgMember _ _) (wpAny_of_eq (a:=Value.none) (by first|rfl | (simp only [firstArgMember];rfl)) ?_)
 refine wpAny_newObj_type ?_ (by size_fits)
 simp only [raiseNew]
 refine wpAny_bind (wpAny_handled ?_)
 rw[show A.in1.handled=none from hh]
 refine wpAny_bind (wpAny_pure (wpAny_throw ?_))
 refine wpAny_bind (wpAny_isInstance (T:="StopIteration") (b:=true) ⟨_,Heap.get?_push_size _ rfl,rfl⟩ isSubtype_stop ?_)
 exact wpAny_pure (hQ _ fun b o e=>Heap.get?_push_of_some _ (Heap.get?_push_of_some _ e))
end
def Itv (K:PySem.W.Frag)(a:Addr)(n:Nat):It:=
 ⟨fun i H=>i<n/\∃xs x,SqL K H a xs/\xs[n-1-i]? = some x,fun i H x H'=>H'=H/\∀xs,SqL K H a xs->xs[n-1-i]? = some x,fun i H=>i=n⟩
theorem Zg2 {P:Program}{w:World}{K:PySem.W.Frag}{tg:Expr}(a it:Addr)(n:Nat):Turn P w K tg (Itv K a n) [it] it (fun i h=>IsRevIter h it a ((n:Int)-1-i)) where
 mem:=by simp
 obj:=fun i h st b hb=>by
  have e:b=it:=by simpa using hb
  subst e
  obtain⟨o,e,c,d⟩:=st
  exact⟨o,e,fun v z=>by rw[d] at z;cases z⟩
 keep:=fun i h h' st k=>by
  obtain⟨o,e,c,d⟩:=st
  exact⟨o,k it (by simp) o e,c,d⟩
 item:=by
  intro X hP hw hK hc i pins s σ H E I hf st hg
  subst hP hw hK
  obtain⟨hin,xs,x,hq,hx⟩:=hg
  obtain⟨its,rv,p,hz⟩:=I.list hq
  obtain⟨u,hu,ru⟩:=rv.get hx
  obtain⟨f0,f1,f2,f3,f4,f5⟩:=hf it (by simp)
  have ek:(n:Int)-1-i=((n-1-i:Nat):Int):=by omega
  rw[ek] at st
  refine Z86 st p.isList (x:=u) (by simpa using hu) fun h' st' sb=>?_
  have I1:Inv X pins σ H { s with heap:=h' }:=I.turned (t':=s.toks) (fun b o hb e=>(sb.2 b hb).trans e) f0 f1 f3 f4 f5
  have e2:((n-1-i:Nat):Int)-1=(n:Int)-1-((i+1:Nat):Int):=by omega
  rw[e2] at st'
  obtain⟨o,e,c,d⟩:=id st'
  exact⟨u,rfl,Zfd (s:={ s with heap:=h' }) e c d (by decide) ⟨x,H,I1,ru,⟨rfl,fun ys hy=>by rw[I.list_inj hy hq];exact hx⟩,st',fun b hb=>(hf b hb).1⟩⟩
 done:=by
  intro X hP hw hK hc i pins s σ H E I hf st hg
  subst hP hw hK
  have e:i=n:=hg
  subst e
  have ek:(i:Int)-1-i = -1:=by omega
  rw[ek] at st
  exact Z9d (I.ok.hd hc) st fun h' kk=>⟨rfl,I.kept (t':=s.toks) kk⟩
 self:=fun _ _ _ _ _ st h=>Z7k st h
def Znm (K:PySem.W.Frag)(ta:TA):TI:=fun σ H R=>ta σ H fun vs H1=>∃a xs,vs = [.ref a]/\H1 a=some (.lst xs)/\R (Itv K a xs.length) H1
section
variable {X:Cx}
theorem Zkj {tg:Expr}{a:Expr}{ta:TA}{p pos:Pos}(hg:Gl X "reversed")(hm:X.mg "reversed"=none)(ha:PA X [a] ta)(hs:starEach [a] X.env = [(false,eval a X.env)]:=by rfl):
  PI X tg (.Call (.Name "reversed" p) [a] [] pos) (Znm X.K ta):=by
 intro pins s σ H R I h
 refine wpAny_Call_Name_kw (Z76 I hg hm (by decide+kernel:bootBuiltins "reversed"=some (.type "reversed")) ?_)
 refine PyProof.Rows.callWith_type1 (thn (ha pos pins s σ H _ I h) fun us s1 ⟨vs,H1,I1,r1,q1⟩=>?_) hs (by rfl)
 obtain⟨l,xs,rfl,hl,hR⟩:=q1
 cases r1 with
 |cons r rr=>
  cases rr
  cases r
  obtain⟨_,its,n,rv,h1⟩:=(show ObjOk X.prog X.w H1 s1.heap l (.lst xs) from I1.hok l _ hl)
  refine Z84 h1 ?_
  have hlen:=rv.length
  have st:IsRevIter (s1.heap.push { cls:=Value.type "list_reverseiterator",data:=.fields #[.ref l,rawInt ((its.toArray.size:Int)-1)] }) s1.heap.objs.size l ((xs.length:Int)-1-((0:Nat):Int)):=by
   refine⟨_,Heap.get?_push_size _ rfl,rfl,?_⟩
   rw[size_toArray,<- hlen]
   simp [rawInt]
  refine Z7k st ?_
  refine⟨s1.heap.objs.size,[s1.heap.objs.size],_,_,H1,rfl,I1.kept (t':=s1.toks) fun b o e=>Heap.get?_push_of_some _ e,Zg2 l _ xs.length,st,fun b hb=>?_,hR⟩
  have e:b=s1.heap.objs.size:=by simpa using hb
  subst e
  exact I1.fpOk (Nat.le_refl _) (I1.hok.fresh (Nat.le_refl _))
end
end L2
namespace L2
open PySem PySem.Spec PyProof.Rows
theorem Zif {K:PySem.W.Frag}{a:Addr}{xs:List V}{g:TG}{tb:TS}{D:Ends}{σ:St}{H:Hp}(Pv:Nat->St->Hp->Prop)(h0:Pv 0 σ H)(hl:∀i σ H,i<=xs.length->Pv i σ H->SqL K H a xs)
  (hs:∀i x σ H,i<xs.length->xs[xs.length-1-i]? = some x->Pv i σ H->g x σ H fun σ2 H2=>tb { D with nx:=Pv (i+1),ct:=Pv (i+1),bk:=D.nx } σ2 H2) (hd:∀ σ H,Pv xs.length σ H->D.nx σ H):
  ∃W:Nat->Nat->St->Hp->Prop,(∃m,W 0 m σ H)/\∀i m σ H,W i m σ H →
   ((Itv K a xs.length).stop i H/\D.nx σ H)∨((Itv K a xs.length).go i H/\∃N:St->Hp->Prop,(∀ σ' H',N σ' H'->∃m',m'<m/\W (i+1) m' σ' H')/\∀x H',(Itv K a xs.length).yld i H x H'->g x σ H' fun σ2 H2=>tb { D with nx:=N,ct:=N,bk:=D.nx } σ2 H2):=by
 refine⟨fun i m σ H=>m=xs.length-i/\i<=xs.length/\Pv i σ H,⟨xs.length,by simp,Nat.zero_le _,h0⟩,?_⟩
 rintro i m σ H ⟨rfl,hi,p⟩
 have q:=hl i σ H hi p
 by_cases hlt:i<xs.length
 ·have hj:xs.length-1-i<xs.length:=by omega
  refine .inr ⟨⟨hlt,xs,xs[xs.length-1-i],q,List.getElem?_eq_getElem hj⟩,Pv (i+1),fun σ' H' p'=>⟨xs.length-(i+1),by omega,rfl,hlt,p'⟩,fun x H' y=>?_⟩
  obtain⟨e,y⟩:=y
  subst e
  exact hs i x σ _ hlt (y xs q) p
 ·have e:i=xs.length:=by omega
  subst e
  exact .inl ⟨rfl,hd σ H p⟩
theorem Zds {xs:List V}{z:Int}(h0:0<=z)(h1:z.toNat<=xs.length):Z79 xs none (some z)=xs.take z.toNat:=by
 have e:HT.sIx xs.length xs.length (some z)=z.toNat:=by
  show(if z<0 then (z+(xs.length:Int)).toNat else min z.toNat xs.length)=_
  rw[if_neg (by omega)]
  omega
 unfold Z79
 rw[e]
 show(xs.drop 0).take (z.toNat-0)=_
 rw[drop_zero,Nat.sub_zero]
theorem Z2n {xs:List V}{z:Int}(h0:0<=z)(h1:z.toNat<=xs.length):Z79 xs (some z) none=xs.drop z.toNat:=by
 have e:HT.sIx xs.length 0 (some z)=z.toNat:=by
  show(if z<0 then (z+(xs.length:Int)).toNat else min z.toNat xs.length)=_
  rw[if_neg (by omega)]
  omega
 unfold Z79
 rw[e]
 show(xs.drop z.toNat).take (xs.length-z.toNat)=_
 rw[take_of_length_le (by rw[length_drop];omega)]
theorem Z87 {H:Hp}:∀(n:Nat) {vs:List V} {ts:List Th},IsThs H vs ts->IsThs H (vs.take n) (ts.take n)
 | 0,_,_,_=>by simp only [take_zero];exact .nil
 |_+1,_,_,.nil=>.nil
 |n+1,_,_,.cons h r=>.cons h (Z87 n r)
theorem Zb0 {H:Hp}:∀(n:Nat) {vs:List V} {ts:List Th},IsThs H vs ts->IsThs H (vs.drop n) (ts.drop n)
 | 0,_,_,h=>h
 |_+1,_,_,.nil=>.nil
 |n+1,_,_,.cons h r=>Zb0 n r
end L2
namespace K10
open PySem L2
abbrev Za6:Stmt:=top 4
abbrev Z6d:Stmt:=top 5
abbrev Z7l:Stmt:=top 6
abbrev Z9e:Stmt:=top 7
abbrev Z39:Stmt:=top 9
abbrev Z9f:Stmt:=top 10
abbrev Z3p:Stmt:=top 12
abbrev Z3a:Stmt:=top 13
abbrev Zdt:Stmt:=top 14
abbrev Z9g:Stmt:=top 15
abbrev Zdu:Stmt:=top 17
abbrev Zdv:Stmt:=top 18
abbrev Z3b:Stmt:=top 19
abbrev Z4v:Stmt:=top 20
abbrev Z2j:Stmt:=top 21
abbrev Z9h:Stmt:=top 22
abbrev Z25:Stmt:=top 23
abbrev Zc5:Stmt:=top 24
abbrev Z6e:Stmt:=top 25
abbrev Z3y:Stmt:=top 26
abbrev Z7m:Stmt:=top 27
abbrev Zdw:Stmt:=top 28
abbrev Z58:Stmt:=top 29
abbrev Z6f:Stmt:=top 30
abbrev Z4g:Stmt:=top 31
abbrev Z6g:Stmt:=top 32
abbrev Z4h:Stmt:=top 33
abbrev Z88:Stmt:=top 34
abbrev Z9i:Stmt:=top 35
abbrev Z9j:Stmt:=top 36
abbrev Zc6:Stmt:=top 37
abbrev Z5m:Stmt:=top 38
abbrev Z7n:Stmt:=top 39
abbrev Zjj:Stmt:=top 40
abbrev Z3z:Stmt:=top 41
abbrev Z6h:Stmt:=top 42
abbrev Zg3:Stmt:=top 43
def Z1k (l:Addr)(n:Nat)(z:Int):List (Key×V):=[(Sum.inr "cells",.ref l),(Sum.inr "at",.int n),(Sum.inr "left",.int z)]
structure Feed (H:Hp)(d l:Addr)(ns:List Int)(n:Nat):Prop where
 dc:∃z,H d=some (.dK (Z1k l n z))
 ls:H l=some (.lst (ns.map V.int))
 sz:ns.length<=63
def But (d:Addr)(H H':Hp):Prop:=∀b o,H b=some o->b≠d->H' b=some o
theorem But.refl (d:Addr)(H:Hp):But d H H:=fun _ _ e _=>e
theorem But.trans {d:Addr}{H H1 H2:Hp}(a:But d H H1)(b:But d H1 H2):But d H H2:=fun c o e n=>b c o (a c o e n) n
theorem But.of {d:Addr}{H H1:Hp}(a:Same H H1):But d H H1:=fun c o e _=>a c o e
theorem Zg4 (l:Addr)(n:Nat)(z:Int):Z27 (Z1k l n z) (Sum.inr "cells")=some (.ref l):=by with_unfolding_all rfl
theorem Zm6 (l:Addr)(n:Nat)(z:Int):Z27 (Z1k l n z) (Sum.inr "at")=some (.int n):=by with_unfolding_all rfl
theorem Zig (l:Addr)(n:Nat)(z:Int):Z27 (Z1k l n z) (Sum.inr "left")=some (.int z):=by with_unfolding_all rfl
theorem Zkk (l:Addr)(n:Nat)(z:Int):Z2t (Z1k l n z) (Sum.inr "at") (.int ((n:Int)+1))=Z1k l (n+1) z:=by with_unfolding_all rfl
theorem Zg5 (l:Addr)(n:Nat)(z y:Int):Z2t (Z1k l n z) (Sum.inr "left") (.int y)=Z1k l n y:=by with_unfolding_all rfl
theorem Z6i {H:Hp}{d l:Addr}{n:Nat}{z:Int}(h:H d=some (.dK (Z1k l n z))):DGet H d (.str "cells") (some (.ref l)):=by
 have:=DGet.k (k:=Sum.inr "cells") h;rw[Zg4] at this;exact this
theorem Zkl {H:Hp}{d l:Addr}{n:Nat}{z:Int}(h:H d=some (.dK (Z1k l n z))):DGet H d (.str "at") (some (.int n)):=by
 have:=DGet.k (k:=Sum.inr "at") h;rw[Zm6] at this;exact this
theorem Z89 {H:Hp}{d l:Addr}{n:Nat}{z:Int}(h:H d=some (.dK (Z1k l n z))):DGet H d (.str "left") (some (.int z)):=by
 have:=DGet.k (k:=Sum.inr "left") h;rw[Zig] at this;exact this
theorem Zkm {H:Hp}{d l:Addr}{n:Nat}{z:Int}(h:H d=some (.dK (Z1k l n z))):DPut H d (.str "at") (.int ((n:Int)+1)) (upd H d (.dK (Z1k l (n+1) z))):=by
 have:=DPut.k (k:=Sum.inr "at") (v:=.int ((n:Int)+1)) h (by show 3<sizeLine;decide);rw[Zkk] at this;exact this
theorem Zb1 {H:Hp}{d l:Addr}{n:Nat}{z y:Int}(h:H d=some (.dK (Z1k l n z))):DPut H d (.str "left") (.int y) (upd H d (.dK (Z1k l n y))):=by
 have:=DPut.k (k:=Sum.inr "left") (v:=.int y) h (by show 3<sizeLine;decide);rw[Zg5] at this;exact this
theorem Feed.ne {H:Hp}{d l:Addr}{ns:List Int}{n:Nat}(F:Feed H d l ns n):l≠d:=by
 obtain⟨⟨z,h⟩,g,_⟩:=F
 exact Z3i g h (by intro q;cases q)
theorem Feed.but {H H':Hp}{d l:Addr}{ns:List Int}{n m:Nat}{z:Int}(F:Feed H d l ns n)(b:But d H H')(h:H' d=some (.dK (Z1k l m z))):Feed H' d l ns m:=⟨⟨z,h⟩,b l _ F.ls F.ne,F.sz⟩
theorem But.upd {d:Addr}{H:Hp}{o:HO}:But d H (upd H d o):=fun c u e n=>by rw[Z0a n];exact e
inductive spFeed_ (K:PySem.W.Frag)(vs:List V)(H:Hp)(Q:VK):Prop
 |mk (a:Addr) (ns:List Int) (_:vs = [.ref a]) (_:SqL K H a (ns.map V.int)) (_:ns.length<=63) (_:∀d l H',Feed H' d l ns 0->H d=none->Same H H'->Q (.ref d) H'):spFeed_ K vs H Q
def Zhl (K:PySem.W.Frag):Sp:=fun vs H Q _=>spFeed_ K vs H Q
inductive spDraw_ (vs:List V)(H:Hp)(Q:VK):Prop
 |mk (d l:Addr) (ns:List Int) (n:Nat) (m:Int) (_:vs = [.ref d,.int m]) (_:Feed H d l ns n) (_:n<=1000000000000) (_:0<m) (_:m<18446744073709551616) (_:∀r n' H',0<=r->r<m->n'<=n+1->Feed H' d l ns n'->But d H H'->Q (.int r) H'):spDraw_ vs H Q
def spDraw:Sp:=fun vs H Q _=>spDraw_ vs H Q
theorem Zm7 {ns:List Int}(h:ns.length<=63):Z79 (ns.map V.int) none (some 63)=ns.map V.int:=by
 have e1:HT.sIx (ns.map V.int).length 0 none=0:=rfl
 have e2:HT.sIx (ns.map V.int).length (ns.map V.int).length (some 63)=min 63 (ns.map V.int).length:=rfl
 unfold Z79
 rw[e1,e2,drop_zero,take_of_length_le]
 rw[length_map];omega
theorem Zn0 (x:Int) : -(2 ^ 64)<x % 2147483629:=by omega
theorem Zn1 (x:Int):x % 2147483629<2 ^ 64:=by omega
theorem Zdx (ns:List Int):(ns.map V.int).all Z42=true:=by
 rw[all_map];exact all_eq_true.mpr fun _ _=>rfl
theorem Feed.same {H H':Hp}{d l:Addr}{ns:List Int}{n:Nat}(F:Feed H d l ns n)(s:Same H H'):Feed H' d l ns n:=let ⟨⟨z,h⟩,g,q⟩:=F;⟨⟨z,s _ _ h⟩,s _ _ g,q⟩
theorem Z4w {xs:List V}(h:xs.length<=1000):xs.length<=sizeLine:=Nat.le_trans h (by decide)
structure Txt0 (mg:Str->Option Value):Prop where
 len:mg "len"=none
 list:mg "list"=none
 range:mg "range"=none
section
variable {P:Program}{w:World}{K:PySem.W.Frag}{mg:Str->Option Value}{base:Heap}
theorem Zkn:FnScope ["_law_script"] ["_law_script"] (Z06 Zdu):=⟨rfl,rfl,rfl,by decide+kernel,rfl,by decide+kernel,by decide+kernel⟩
theorem Zih {f:Addr}{fd:FuncData}(F:Fun K "_law_feed" "_law_feed" Zdu f fd)(T:Txt0 mg):FnOk P w K mg base CX0 1 f fd ["_law_script"] (Zhl K):=by
 refine F.ok Zkn (fun vs H Q E h=>?_) (fun cdv A outer s H vs Q E hr h=>?_)
 ·obtain⟨a,ns,rfl,_⟩:=h
  rfl
 ·obtain⟨a,ns,rfl,hS,hl,k⟩:=h
  refine⟨_,Z07 (Z0h (Zdb (Z23 Z09 (Z14 Z5j (by rfl) T.list (by rfl) (Z08 (Z1e Z80 (pv 0) Z1z (Z1m Z03)) Z01)) (Z23 Z09 Z03 (Z23 Z09 Z03 Zda))) rfl rfl (by intro z;cases z) (by decide))),?_⟩
  intro d hd
  refine⟨_,rfl,_,rfl,a,_,rfl,(Z02 hd).seq hS,fun p hp=>?_⟩
  refine⟨p,_,rfl,.inl (SqL.of Z00),fun l hl'=>?_⟩
  have hdl:d≠l:=Z0g (H:=upd (upd H d (.dK [])) p (.lst (Z79 (ns.map V.int) none (some 63)))) (by rw[Z0a (Z0g Z00 hp)];exact Z00) hl'
  have hpd:p≠d:=fun z=>by rw[z,Z00] at hp;cases hp
  refine⟨by rw[Z0a hdl,Z0a hpd.symm];exact Z00,Z1k l 0 0,rfl,by show 3<=15;decide,?_⟩
  have em:Z66 [] (Z1k l 0 0)=Z1k l 0 0:=by with_unfolding_all rfl
  rw[em]
  refine k d l _ ⟨⟨0,Z00⟩,?_,hl⟩ hd ?_
  ·rw[Z0a hdl.symm,Z00,Zm7 hl]
  ·intro b o e
   have hb:(upd H d (.dK [])) b=some o:=Z02 hd b o e
   have hb2:=Z02 (o:=.lst (Z79 (ns.map V.int) none (some 63))) hp b o hb
   rw[Z0a (Z0g e hd)]
   exact Z02 hl' b o hb2
theorem scDraw:FnScope ["_law_feed_here","_law_many","_law_found","_law_at","_law_cell","_law_number"] ["_law_feed_here","_law_many"] (Z06 Zdv):=⟨rfl,rfl,rfl,by decide+kernel,rfl,by decide+kernel,by decide+kernel⟩
theorem Z6j {f:Addr}{fd:FuncData}(F:Fun K "_law_draw" "_law_draw" Zdv f fd)(T:Txt0 mg):FnOk P w K mg base CX0 1 f fd ["_law_feed_here","_law_many"] spDraw:=by
 refine F.ok scDraw (fun vs H Q E h=>?_) (fun cdv A outer s H vs Q E hr h=>?_)
 ·obtain⟨d,l,ns,n,m,rfl,_⟩:=h
  rfl
 ·obtain⟨d,l,ns,n,m,rfl,FD,hn,hm0,hm1,k⟩:=h
  have hu:=Zkb hr
  have hu0:=hr.units0
  obtain⟨⟨z,hd⟩,hls,hsz⟩:=id FD
  refine⟨_,Z04 (Z0x (Z0b Zi0 (Z0t hu (pv 0) Z09 (fun _ _=>rfl)) Z03 (Z0k _))
    (Z04 (Z0c (i:=2) scDraw.nd rfl (Or.inl rfl) (Z0i Z32 (Z0t hu (pv 0) Z09 (fun _ _=>rfl)) (pv 1))) <|
     Z04 (Z22 hu (pv 0) Z09 (Z0i Z5s (Z0t hu (pv 0) Z09 (fun _ _=>rfl)) (pv 1)) rfl) <|
     Z07 (Z0h (pv 2))) Z0f) <|
   Z04 (Z0c (i:=3) scDraw.nd rfl (Or.inl rfl) (Z0t hu (pv 0) Z09 (fun _ _=>rfl))) <|
   Z04 (Z22 hu (pv 0) Z09 (Z0i Z1h (pv 3) Z03) rfl) <|
   Z04 (Z0c (i:=4) scDraw.nd rfl (Or.inl rfl) (Z0i Z1h (Z0i Z1x (pv 3) (pv 3)) Z03)) <|
   Z0l (Z0x (Z0b (Z36 hu0) (Z0t hu (pv 0) Z09 (fun _ _=>rfl)) (Z0y Z01) (Z0k _))
    (Z07 (Z0c (i:=4) scDraw.nd rfl (Or.inl rfl) (Z0q Z0w (Z0t hu (pv 0) Z09 (fun _ _=>rfl)) (Z0i Z32 (pv 3) (Z0n Z0o (by rfl) T.len PySem.boot_len (Z08 (Z0t hu (pv 0) Z09 (fun _ _=>rfl)) Z01))) (fun _ _=>rfl)))) Z0f) <|
   Z04 (Z0x (Z0b Zjx (pv 4) (Z0i Zh9 Z03 Z03) (Z0k _))
    (Z04 (Z22 hu (pv 0) Z09 (Z0i Z5s (pv 4) (pv 1)) rfl) <| Z07 (Z0h (Z0i Z32 (pv 4) (pv 1)))) Z0f) <|
   Z04 (Z0c (i:=5) scDraw.nd rfl (Or.inl rfl) (Z0i Z32 (Z0i Z1x (Z0i Z1h (Z0i Z1h (Z0i Z32 (pv 4) Z03) (Z0i Z1x Z03 (pv 3))) Z03) Z03) Z03)) <|
   Z04 (Z0c (i:=5) scDraw.nd rfl (Or.inl rfl) (Z0i Z32 (Z0i Z1h (Z0i Z1h (Z0i Z1x (pv 5) (pv 5)) (Z0i Z1x Z03 (pv 3))) Z03) Z03)) <|
   Z04 (Z0c (i:=5) scDraw.nd rfl (Or.inl rfl) (Z0i Z32 (Z0i Z1h (Z0i Z1x (pv 5) Z03) (pv 3)) Z03)) <|
   Z07 (Z0h (Z0i Z32 (Z0i Z5s (Z0i Z32 (Z0i Z1x (pv 5) (pv 5)) Z03) Z03) (pv 1))),?_⟩
  refine⟨_,rfl,d,.int z,rfl,Z89 hd,_,_,rfl,rfl,_,rfl,?_⟩
  refine Z1a (fun hz=>?_) (fun hz=>?_)
  ·refine⟨_,rfl,d,.int z,rfl,Z89 hd,_,rfl,_,_,rfl,rfl,hm0,?_⟩
   refine⟨_,rfl,d,.int z,rfl,Z89 hd,_,rfl,_,_,rfl,rfl,⟨hm0,hm1⟩,_,rfl,d,_,rfl,Zb1 hd,_,rfl,?_⟩
   exact k _ n _ (Int.emod_nonneg _ (by omega)) (Int.emod_lt_of_pos _ hm0) (Nat.le_succ _) (FD.but But.upd Z00) But.upd
  ·refine⟨_,rfl,d,.int n,rfl,Zkl hd,?_⟩
   refine⟨_,rfl,_,_,rfl,rfl,_,rfl,d,_,rfl,Zkm hd,?_⟩
   have hd1:upd H d (.dK (Z1k l (n+1) z)) d=some (.dK (Z1k l (n+1) z)):=Z00
   have F1:Feed (upd H d (.dK (Z1k l (n+1) z))) d l ns (n+1):=FD.but But.upd Z00
   have B1:But d H (upd H d (.dK (Z1k l (n+1) z))):=But.upd
   generalize upd H d (.dK (Z1k l (n+1) z))=H1 at hd1 F1 B1 ⊢
   have hls1:=F1.ls
   refine⟨_,rfl,_,rfl,_,_,rfl,rfl,.inl ⟨by omega,by omega⟩,_,_,rfl,rfl,?_⟩
   refine⟨fun σ' H'=>∃c o,σ' = [some (.ref d),some (.int m),o,some (.int n),some (.int c),none]/\Feed H' d l ns (n+1)/\But d H H',?_,?_⟩
   ·refine⟨_,rfl,d,.ref l,rfl,Z6i hd1,Nat.zero_le _,fun e he=>⟨l,e,ns.map V.int,[],rfl,rfl,SqL.of (Z02 he _ _ hls1),SqL.of Z00,Zdx ns,rfl,_,rfl,?_⟩⟩
    have F2:=F1.same (Z02 (o:=.lst []) he)
    have B2:But d H (upd H1 e (.lst [])):=B1.trans (But.of (Z02 he))
    obtain⟨⟨z2,hd2⟩,hls2,_⟩:=id F2
    refine Z1a (fun hne=>?_) (fun hne=>?_)
    ·have hpos:0<(ns.map V.int).length:=by
      cases ns with
      |nil=>exact absurd hne (by decide)
      |cons _ _=>exact Nat.succ_pos _
     obtain⟨v,hv,hat⟩:=Zkd hpos (n:Int)
     obtain⟨c,_,rfl⟩:=mem_map.mp hv
     refine⟨_,rfl,d,.ref l,rfl,Z6i hd2,_,rfl,_,rfl,d,.ref l,rfl,Z6i hd2,l,ns.map V.int,rfl,.inl (SqL.of hls2),_,_,rfl,rfl,(by show(0:Int)<((ns.map V.int).length:Int);omega),l,ns.map V.int,_,.int c,rfl,rfl,SqL.of hls2,hat,?_⟩
     exact⟨c,none,rfl,F2,B2⟩
    ·exact⟨_,none,rfl,F2,B2⟩
   ·rintro σ' H2 ⟨c,o,rfl,F2,B2⟩
    obtain⟨⟨z2,hd2⟩,hls2,_⟩:=id F2
    refine⟨_,rfl,_,_,rfl,rfl,⟨by decide,by decide,by decide⟩,_,_,rfl,rfl,_,rfl,?_⟩
    refine Z1a (fun hge=>?_) (fun hge=>?_)
    ·refine⟨_,rfl,_,rfl,_,_,rfl,rfl,⟨hm0,hm1⟩,_,rfl,d,_,rfl,Zb1 hd2,_,rfl,_,rfl,_,_,rfl,rfl,hm0,?_⟩
     exact k _ (n+1) _ (Int.emod_nonneg _ (by omega)) (Int.emod_lt_of_pos _ hm0) (Nat.le_refl _) (F2.but But.upd Z00) (B2.trans But.upd)
    ·refine⟨_,rfl,_,_,rfl,rfl,(by show(0:Int)<2147483647;decide),_,rfl,_,_,rfl,rfl,.inl ⟨by decide,by decide⟩,_,_,rfl,rfl,_,_,rfl,rfl,_,_,rfl,rfl,.inr ⟨by decide,by decide⟩,_,_,rfl,rfl,(by show(0:Int)<2147483629;decide),?_⟩
     refine⟨_,rfl,_,rfl,_,_,rfl,rfl,.inl ⟨Zn0 _,Zn1 _⟩,_,rfl,_,_,rfl,rfl,.inl ⟨by decide,by decide⟩,_,_,rfl,rfl,_,_,rfl,rfl,_,_,rfl,rfl,(by show(0:Int)<2147483647;decide),?_⟩
     refine⟨_,rfl,_,_,rfl,rfl,.inr ⟨by decide,by decide⟩,_,rfl,_,_,rfl,rfl,_,_,rfl,rfl,(by show(0:Int)<2147483629;decide),?_⟩
     refine⟨_,rfl,_,rfl,_,_,rfl,rfl,.inl ⟨Zn0 _,Zn1 _⟩,_,_,rfl,rfl,(by show(0:Int)<2147483587;decide),_,_,rfl,rfl,⟨by decide,by decide⟩,_,rfl,_,_,rfl,rfl,hm0,?_⟩
     exact k _ (n+1) _ (Int.emod_nonneg _ (by omega)) (Int.emod_lt_of_pos _ hm0) (Nat.le_refl _) F2 B2
def Low (t:Str):Prop:=∀c∈t.cps.toList,97<=c/\c<=122
theorem Zii:Low "":=by
 have e:("":Str).cps.toList = []:=by decide+kernel
 intro c hc
 rw[e] at hc
 cases hc
theorem Z6k {x y:Str}(a:Low x)(b:Low y):Low (x++y):=by
 intro c hc
 have e:(x++y).cps.toList=x.cps.toList++y.cps.toList:=by
  show(x.cps++y.cps).toList=_
  rw[Array.toList_append]
 rw[e] at hc
 rcases mem_append.mp hc with z|z
 ·exact a c z
 ·exact b c z
theorem Za7 {c:Nat}(h:97<=c/\c<=122):Low ⟨#[c]⟩:=by
 intro d hd
 have:d=c:=by simpa using hd
 subst this
 exact h
def Zdy (t:Str)(x m:Int):Prop:=((t.length:Int)=m/\Low t)/\(0<m->t.cps.toList[0]? = some (97+(x % 26).toNat))
inductive spSpelled_ (vs:List V)(H:Hp)(Q:VK):Prop
 |mk (x m:Int) (_:vs = [.int x,.int m]) (_:0<=m) (_:m<=10) (_:∀t:Str,Zdy t x m->Q (.str t) H):spSpelled_ vs H Q
def spSpelled:Sp:=fun vs H Q _=>spSpelled_ vs H Q
abbrev abc:Str:="abcdefghijklmnopqrstuvwxyz"
theorem Zko:∀k:Fin 26,abc.cps.toList[k.val]? = some (97+k.val):=by decide+kernel
theorem Zkp (y:Int):atI abc.cps.toList (y % 26)=some (97+(y % 26).toNat):=by
 have h0:0<=y % 26:=by omega
 have h1:y % 26<26:=by omega
 have e:y % 26=((y % 26).toNat:Int):=by omega
 have h:=Z1r (Zko ⟨(y % 26).toNat,by omega⟩)
 rw[<- e] at h
 exact h
theorem scSpelled:FnScope ["_law_number","_law_long","_law_word","_law_k"] ["_law_number","_law_long"] (Z06 Z4v):=⟨rfl,rfl,rfl,by decide+kernel,rfl,by decide+kernel,by decide+kernel⟩
theorem Zc7 {f:Addr}{fd:FuncData}(F:Fun K "_law_spelled" "_law_spelled" Z4v f fd)(T:Txt0 mg):FnOk P w K mg base CX0 1 f fd ["_law_number","_law_long"] spSpelled:=by
 refine F.ok scSpelled (fun vs H Q E h=>?_) (fun cdv A outer s H vs Q E hr h=>?_)
 ·obtain⟨x,m,rfl,_⟩:=h
  rfl
 ·obtain⟨x,m,rfl,h0,h1,k⟩:=h
  refine⟨_,Z04 (Z0c (i:=2) scSpelled.nd rfl (Or.inl rfl) Z09) <|
   Z04 (Z43 PassesOwn.never rfl (Z1y rfl T.range (Z08 (pv 1) Z01)) (Z0s (i:=3) scSpelled.nd rfl (Or.inl rfl))
    (Z04 (Z0c (i:=2) scSpelled.nd rfl (Or.inl rfl) (Z0i Z33 (pv 2) (Z0q Z8y Z09 (Z0i Z32 (pv 0) Z03) (fun _ _=>rfl)))) <|
     Z07 (Z0c (i:=0) scSpelled.nd rfl (Or.inl rfl) (Z0i Z5s (pv 0) Z03)))) <|
   Z07 (Z0h (pv 2)),?_⟩
  refine⟨_,rfl,m,rfl,by omega,by omega,Z31 (n:=m.toNat) (fun i σ H'=>∃y t o,σ = [some (.int y),some (.int m),some (.str t),o]/\t.length=i/\Low t/\(i=0->y=x)/\(0<i->t.cps.toList[0]? = some (97+(x % 26).toNat))/\H'=H) ⟨x,_,none,rfl,rfl,Zii,fun _=>rfl,fun z=>absurd z (Nat.lt_irrefl _),rfl⟩ ?_ ?_⟩
  ·rintro i σ H' hi ⟨y,t,o,rfl,ht,hlow,hy,hf,rfl⟩
   have hat:=Zkp y
   refine⟨_,rfl,_,rfl,_,_,rfl,rfl,(by show(0:Int)<26;decide),abc,_,_,rfl,rfl,(by decide+kernel),hat,_,_,rfl,rfl,?_,_,rfl,_,_,rfl,rfl,⟨by decide,by decide⟩,?_⟩
   ·show t.length+1<=sizeLine
    have:sizeLine=16777216:=sizeLine_eq
    omega
   ·refine⟨_,_,_,rfl,by rw[PySem.Str.length_append,ht];rfl,Z6k hlow (Za7 (by omega)),fun z=>absurd z (Nat.succ_ne_zero _),fun _=>?_,rfl⟩
    show(t.cps ++ #[97+(y % 26).toNat]).toList[0]? = _
    by_cases hz:i=0
    ·have h2:t.cps.toList = []:=by
      apply eq_nil_of_length_eq_zero
      rw[Array.length_toList]
      show t.length=0
      omega
     rw[Array.toList_append,h2,hy hz]
     rfl
    ·have h2:=hf (by omega)
     rw[Array.toList_append,List.getElem?_append_left (by rw[Array.length_toList];show 0<t.length;omega)]
     exact h2
  ·rintro σ H' ⟨y,t,o,rfl,ht,hlow,_,hf,rfl⟩
   exact⟨_,rfl,k t ⟨⟨by omega,hlow⟩,fun z=>hf (by omega)⟩⟩
end
theorem Z1p (ts:List Str):(ts.map V.str).all Z42=true:=by
 rw[all_map]
 exact all_eq_true.mpr fun _ _=>rfl
instance (t:Str):Decidable (Low t):=by unfold Low;exact inferInstance
theorem Z6l {x:Str}{lo hi:Option Int}(h:Low x):Low (Txt.slice x lo hi):=by
 unfold Txt.slice
 split
 ·exact h
 ·intro c hc
  have hc':=hc
  simp only [mem_filterMap] at hc'
  obtain⟨i,_,e⟩:=hc'
  refine h c ?_
  rw[Array.mem_toList_iff]
  exact Array.mem_of_getElem? e
def words8:List Str:=["num","name","op","pick","let","set","say","take"]
def words5:List Str:=["do","again","call","own","hole"]
def words13:List Str:=words8++words5
def short12:List Str:=["a","b","c","d","x","y","z","n","v","aa","ab","tmp"]
theorem Zc8:∀t∈words13,(1<=t.length/\t.length<=5)/\Low t:=by decide+kernel
theorem Zc9:∀t∈short12,(1<=t.length/\t.length<=5)/\Low t:=by decide+kernel
theorem Z29 (t:Str)(ts:List Str):inV (.str t) (ts.map V.str)=true↔t∈ts:=by
 unfold inV
 rw[List.any_map,List.any_eq_true]
 constructor
 ·rintro⟨y,hy,e⟩
  have e':(y==t)=true:=e
  rw[<- beq_iff_eq.mp e']
  exact hy
 ·intro h
  exact⟨t,h,beq_self_eq_true t⟩
theorem But.lst {d a:Addr}{H H':Hp}{kvs:List (Key×V)}{xs:List V}(b:But d H H')(hd:H d=some (.dK kvs))(h:H a=some (.lst xs)):H' a=some (.lst xs):=b a _ h (Z3i h hd (by intro q;cases q))
theorem Z59 (x y:Str):(x++y).length=x.length+y.length:=PySem.Str.length_append x y
theorem Z5a {x:Str}(h:x.length<=1000):x.length<=sizeLine:=Nat.le_trans h (by decide)
abbrev Nm (t:Str):Prop:=(1<=t.length/\t.length<=8)/\Low t
inductive spLawName_ (vs:List V)(H:Hp)(Q:VK):Prop
 |mk (d l a:Addr) (ns:List Int) (n:Nat) (ts:List Str) (_:vs = [.ref d,.ref a]) (_:Feed H d l ns n) (_:n<=900000000000) (_:H a=some (.lst (ts.map V.str))) (_:ts.length<=89) (_:(∀t∈ts,Nm t)) (_:∀(t:Str) n' H',Nm t->t∉ts->t∉words13->n'<=n+8->Feed H' d l ns n'->But d H H'->Q (.str t) H'):spLawName_ vs H Q
def spLawName:Sp:=fun vs H Q _=>spLawName_ vs H Q
theorem Zb2 {t:Str}(h:1<=t.length):∃c,atI t.cps.toList 0=some c:=by
 have hl:t.cps.toList.length=t.length:=by simp [Str.length]
 obtain⟨c,_,e⟩:=Z2w (xs:=t.cps.toList) (i:=0) (by decide) (by rw[hl];omega)
 exact⟨c,e⟩
theorem Zhm {t:Str}{i:Int}{c:Nat}(h:Low t)(e:atI t.cps.toList i=some c):97<=c/\c<=122:=by
 obtain⟨j,_,e2,_⟩:=Z63 e
 exact h c (mem_of_getElem? e2)
def mi (m:Int)(i:Nat):Int:=(m-1+i) % 8+1
def Z5q (x m:Int)(u:Str)(j:Nat):Prop:=(u.length:Int)=mi m j/\u.cps.toList[0]? = some (97+((x+j) % 26).toNat)
instance (x m:Int)(u:Str)(j:Nat):Decidable (Z5q x m u j):=by unfold Z5q;exact inferInstance
theorem Zdz {x m:Int}{u:Str}{i j:Nat}(hi:i<=103)(hj:j<i)(a:Z5q x m u i)(b:Z5q x m u j):False:=by
 obtain⟨a1,a2⟩:=a
 obtain⟨b1,b2⟩:=b
 unfold mi at a1 b1
 rw[a2] at b2
 have b3:=Option.some.inj b2
 have h1:0<=(x+i) % 26:=by omega
 have h2:0<=(x+j) % 26:=by omega
 omega
structure Left (x m:Int)(ex R:List Str)(i:Nat):Prop where
 few:R.length+i<=103
 all:∀u∈ex,u∈R∨∃j,j<i/\Z5q x m u j
theorem Left.zero {x m:Int}{ex:List Str}(h:ex.length<=102):Left x m ex ex 0:=⟨by omega,fun u hu=>.inl hu⟩
theorem Left.one {x m:Int}{ex R:List Str}(h:ex.length<=102):Left x m ex ex 1:=⟨by omega,fun u hu=>.inl hu⟩
theorem Left.next {x m:Int}{ex R:List Str}{i:Nat}{t:Str}(h:Left x m ex R i)(ht:t∈ex)(k:Z5q x m t i):Left x m ex (R.filter fun u => !decide (Z5q x m u i)) (i+1):=by
 have hR:t∈R:=by
  rcases h.all t ht with z|⟨j,hj,kj⟩
  ·exact z
  ·exact(Zdz (by have:=h.few;omega) hj k kj).elim
 have hlt:(R.filter fun u => !decide (Z5q x m u i)).length<R.length:=by
  rw[List.length_filter_lt_length_iff_exists]
  exact⟨t,hR,by simp [k]⟩
 refine⟨by have:=h.few;omega,fun u hu=>?_⟩
 rcases h.all u hu with z|⟨j,hj,kj⟩
 ·by_cases q:Z5q x m u i
  ·exact .inr ⟨i,Nat.lt_succ_self _,q⟩
  ·exact .inl (mem_filter.mpr ⟨z,by simp [q]⟩)
 ·exact .inr ⟨j,by omega,kj⟩
theorem Ze0 {X:Cx}{i:Nat}{x:Str}{e:Expr}{te:TE}{pos pos':Pos}(hN:X.N.Nodup)(hi:X.N[i]? = some x)(hx:Loc X.env.scope x)(he:PE X e te)(hs:swapsWith e (some (.Name x pos')) pos.line X.env=pure false)(hf:X.fn x=true∨X.env.scope.names.lookup x=some .local):
  PS X (.Assign [.Name x pos'] e pos) (Zlg te (Zbn i)):=Z0c hN hi hx he hs hf
section
variable {P:Program}{w:World}{K:PySem.W.Frag}{mg:Str->Option Value}{base:Heap}
structure Helpers (K:PySem.W.Frag)(mg:Str->Option Value)(fD fS:Addr)(dD dS:FuncData):Prop where
 T:Txt0 mg
 D:Fun K "_law_draw" "_law_draw" Zdv fD dD
 bD:Binds K dD ["_law_feed_here","_law_many"] []
 mD:mg "_law_draw"=some (.ref fD)
 S:Fun K "_law_spelled" "_law_spelled" Z4v fS dS
 bS:Binds K dS ["_law_number","_law_long"] []
 mS:mg "_law_spelled"=some (.ref fS)
theorem scLawName:FnScope ["_law_feed_here","_law_taken","_law_words","_law_way","_law_long","_law_number","_law_name_here","_law_word","_law_at"] ["_law_feed_here","_law_taken"] (Z06 Z2j):=⟨rfl,rfl,rfl,by decide+kernel,rfl,by decide+kernel,by decide+kernel⟩
inductive Mid (d l a wd:Addr)(ns:List Int)(n k:Nat)(ts:List Str)(H:Hp)(way m x:Int)(σ':St)(H':Hp):Prop
 |mk (t:Str) (n':Nat) (o7 o8:Option V) (_:σ' = [some (.ref d),some (.ref a),some (.ref wd),some (.int way),some (.int m),some (.int x),some (.str t),o7,o8]) (_:Nm t) (_:n'<=n+k) (_:Feed H' d l ns n') (_:H' a=some (.lst (ts.map V.str))) (_:H' wd=some (.lst (words13.map V.str))) (_:But d H H'):Mid d l a wd ns n k ts H way m x σ' H'
theorem Z5b {f fD fS:Addr}{fd dD dS:FuncData}(F:Fun K "_law_name" "_law_name" Z2j f fd)(U:Helpers K mg fD fS dD dS):FnOk P w K mg base CX0 2 f fd ["_law_feed_here","_law_taken"] spLawName:=by
 have GD:FnOk P w K mg base CX0 1 fD dD ["_law_feed_here","_law_many"] spDraw:=Z6j U.D U.T
 have GS:FnOk P w K mg base CX0 1 fS dS ["_law_number","_law_long"] spSpelled:=Zc7 U.S U.T
 refine F.ok scLawName (fun vs H Q E h=>?_) (fun cdv A outer s H vs Q E hr h=>?_)
 ·obtain⟨d,l,a,ns,n,ts,rfl,_⟩:=h
  rfl
 ·obtain⟨d,l,a,ns,n,ts,rfl,F0,hn,A0,hts,hall,k⟩:=h
  have hu0:=hr.units0
  have hsz:sizeLine=16777216:=sizeLine_eq
  have hr1:Room 1 _:=hr.mono (by decide)
  refine'⟨?tt,?body,?fin⟩
  case body=>
   refine' Z04 ?s1 (Z04 ?s2 (Z04 ?s3 (Z04 ?s4 (Z04 ?s5 (Z04 ?s6 (Z0l ?s7 (Z0l ?s8 (Z0l ?s9 (Z0l ?s10 (Z04 ?s11 (Z07 ?s12)))))))))))
   case s1=>exact Z0c (i:=2) scLawName.nd rfl (Or.inl rfl) (Z4o (vs:=words8.map V.str) (by decide+kernel))
   case s2=>exact Z0c (i:=2) scLawName.nd rfl (Or.inl rfl) (Z0i Z2q (pv 2) (Z4o (vs:=words5.map V.str) (by decide+kernel)))
   case s3=>exact Z0c (i:=3) scLawName.nd rfl (Or.inl rfl) (Z05 GD hr1 (by rfl) U.mD U.D.kp U.bD .nil Z0e (Z0d (pv 0) (Z17 Z03 Z01)))
   case s4=>exact Z0c (i:=4) scLawName.nd rfl (Or.inl rfl) (Z0i Z1h Z03 (Z05 GD hr1 (by rfl) U.mD U.D.kp U.bD .nil Z0e (Z0d (pv 0) (Z17 Z03 Z01))))
   case s5=>exact Z0c (i:=5) scLawName.nd rfl (Or.inl rfl) (Z0i Z1h (Z0i Z1x (Z05 GD hr1 (by rfl) U.mD U.D.kp U.bD .nil Z0e (Z0d (pv 0) (Z17 Z03 Z01))) Z03) (Z05 GD hr1 (by rfl) U.mD U.D.kp U.bD .nil Z0e (Z0d (pv 0) (Z17 Z03 Z01))))
   case s6=>exact Z0c (i:=6) scLawName.nd rfl (Or.inl rfl) (Z05 GS hr1 (by rfl) U.mS U.S.kp U.bS .nil Z0e (Z0d (pv 5) (Z0d (pv 4) Z01)))
   case s7=>
    refine' Z0x (Z0b Z1d (pv 3) Z03 (Z0k _)) (Z07 ?b) Z0f
    case b=>
     refine' Z0c (i:=6) scLawName.nd rfl (Or.inl rfl) (Z0i Z33 ?l ?r)
     case l=>exact Z0q Z0w (pv 2) (Z05 GD hr1 (by rfl) U.mD U.D.kp U.bD .nil Z0e (Z0d (pv 0) (Z17 Z03 Z01))) (fun _ _=>rfl)
     case r=>exact Z0q Z8y (pv 6) Z03 (fun _ _=>rfl)
   case s8=>
    refine' Z0x (Z0b Z1d (pv 3) Z03 (Z0k _)) (Z07 ?b) Z0f
    case b=>
     refine' Ze0 (i:=6) ?ha ?hb ?hc ?hd ?he ?hf
     case ha=>exact scLawName.nd
     case hb=>exact rfl
     case hc=>exact(Or.inl rfl)
     case he=>exact rfl
     case hf=>exact(.inr rfl)
     case hd=>
      refine' @Z0q ((Zfi CX0 P w K mg base ["_law_feed_here","_law_taken","_law_words","_law_way","_law_long","_law_number","_law_name_here","_law_word","_law_at"] "_law_name" (Z06 Z2j) f cdv A outer s H E).nox) _ _ _ _ _ _ Z0w ?hl (Z05 GD hr1 (by rfl) U.mD U.D.kp U.bD .nil Z0e (Z0d (pv 0) (Z17 Z03 Z01))) ?hp
      case hl=>
       refine' @Z4o ((Zfi CX0 P w K mg base ["_law_feed_here","_law_taken","_law_words","_law_way","_law_long","_law_number","_law_name_here","_law_word","_law_at"] "_law_name" (Z06 Z2j) f cdv A outer s H E).nox) _ (short12.map V.str) ?q
       case q=>decide+kernel
      case hp=>exact(fun _ _=>rfl)
   case s9=>
    refine' Z0x ?c (Z07 ?b) Z0f
    case c=>exact(Z5h (Z0b Z1d (pv 3) Z03 (Z0k _)) (Z3j (Z0b (Z36 hu0) (pv 1) (Z0y Z01) (Z0k _)))).pt
    case b=>
     refine' Z0c (i:=6) scLawName.nd rfl (Or.inl rfl) (Z1e Zdf (Z0i Z33 (Z0q Z0w ?x ?y (fun _ _=>rfl)) ?z) Z1z (Z1m ?u))
     case x=>exact pv 1
     case y=>exact(Z05 GD hr1 (by rfl) U.mD U.D.kp U.bD .nil Z0e (Z0d (pv 0) (Z2x (Z0n Z0o (by rfl) U.T.len PySem.boot_len (Z0d (pv 1) Z01)) Z01)))
     case z=>exact pv 6
     case u=>exact Z0i Z1h Z03 (Z0i Z32 (pv 5) Z03)
   case s10=>
    refine' Z0x ?c (Z04 ?b1 (Z04 ?b2 (Z07 ?b3))) Z0f
    case c=>exact(Z5h (Z0b Z1d (pv 3) Z03 (Z0k _)) (Z3j (Z0b (Z36 hu0) (pv 1) (Z0y Z01) (Z0k _)))).pt
    case b1=>
     refine' Z0c (i:=7) scLawName.nd rfl (Or.inl rfl) (Z0q Z0w ?x ?y (fun _ _=>rfl))
     case x=>exact pv 1
     case y=>exact(Z05 GD hr1 (by rfl) U.mD U.D.kp U.bD .nil Z0e (Z0d (pv 0) (Z2x (Z0n Z0o (by rfl) U.T.len PySem.boot_len (Z0d (pv 1) Z01)) Z01)))
    case b2=>exact Z0c (i:=8) scLawName.nd rfl (Or.inl rfl) (Z0i Z32 (pv 5) (Z0n Z91 (by rfl) U.T.len PySem.boot_len (Z0d (pv 7) Z01)))
    case b3=>
     refine' Z0c (i:=6) scLawName.nd rfl (Or.inl rfl) (Z0i Z33 (Z0i Z33 ?x ?y) ?z)
     case x=>exact Z1e Zdf (pv 7) Z1z (Z1m (pv 8))
     case y=>exact Z0q Z8y (pv 6) Z03 (fun _ _=>rfl)
     case z=>exact Z1e Zdf (pv 7) (Z1m (Z0i Z1h (pv 8) Z03)) Z1z
   case s11=>
    refine' Zai PassesOwn.never ?c (Z04 ?b1 (Z04 ?b2 (Z07 ?b3)))
    case c=>exact(Z5w (Z0b Z2p (pv 6) (pv 1) (by with_unfolding_all rfl)) (Z5g (Z0b Z2p (pv 6) (pv 2) (by with_unfolding_all rfl)))).pt
    case b1=>exact Z0c (i:=5) scLawName.nd rfl (Or.inl rfl) (Z0i Z1h (pv 5) Z03)
    case b2=>exact Z0c (i:=4) scLawName.nd rfl (Or.inl rfl) (Z0i Z1h (Z0i Z32 (pv 4) Z03) Z03)
    case b3=>exact Z0c (i:=6) scLawName.nd rfl (Or.inl rfl) (Z05 GS hr1 (by rfl) U.mS U.S.kp U.bS .nil Z0e (Z0d (pv 5) (Z0d (pv 4) Z01)))
   case s12=>exact Z0h (pv 6)
  case fin=>
   refine⟨Z4w (by decide+kernel),fun p hp=>?_⟩
   refine⟨_,rfl,Z4w (by decide+kernel),fun q hq=>⟨p,q,words8.map V.str,words5.map V.str,rfl,rfl,Z02 hq _ _ Z00,Z00,(by decide+kernel),fun wd hwd=>?_⟩⟩
   have s1:=((Z02 (o:=.lst (words8.map V.str)) hp).trans (Z02 (o:=.lst (words5.map V.str)) hq)).trans (Z02 (o:=.lst (words8.map V.str++words5.map V.str)) hwd)
   have W1:upd (upd (upd H p (.lst (words8.map V.str))) q (.lst (words5.map V.str))) wd (.lst (words8.map V.str++words5.map V.str)) wd=some (.lst (words13.map V.str)):=by
    rw[Z00,words13,map_append]
   have F1:=F0.same s1
   have A1:=s1 _ _ A0
   have B1:But d H _:=But.of s1
   generalize upd (upd (upd H p (.lst (words8.map V.str))) q (.lst (words5.map V.str))) wd (.lst (words8.map V.str++words5.map V.str))=H1 at W1 F1 A1 B1 ⊢
   refine⟨_,rfl,d,l,ns,n,_,rfl,F1,by omega,by decide,by decide,fun way n2 H2 _ _ hn2 F2 B2=>?_⟩
   obtain⟨z1,hd1⟩:=F1.dc
   have A2:=B2.lst hd1 A1
   have W2:=B2.lst hd1 W1
   have B2':=B1.trans B2
   refine⟨_,rfl,d,l,ns,n2,_,rfl,F2,by omega,by decide,by decide,fun lg n3 H3 lg0 lg1 hn3 F3 B3=>?_⟩
   obtain⟨z2,hd2⟩:=F2.dc
   have A3:=B3.lst hd2 A2
   have W3:=B3.lst hd2 W2
   have B3':=B2'.trans B3
   refine⟨_,_,rfl,rfl,?_⟩
   refine⟨_,rfl,d,l,ns,n3,_,rfl,F3,by omega,by decide,by decide,fun r4 n4 H4 r40 r41 hn4 F4 B4=>?_⟩
   obtain⟨z3,hd3⟩:=F3.dc
   have A4:=B4.lst hd3 A3
   have W4:=B4.lst hd3 W3
   have B4':=B3'.trans B4
   refine⟨_,_,rfl,rfl,.inr ⟨by decide,by decide⟩,?_⟩
   refine⟨_,rfl,d,l,ns,n4,_,rfl,F4,by omega,by decide,by decide,fun r5 n5 H5 r50 r51 hn5 F5 B5=>?_⟩
   obtain⟨z4,hd4⟩:=F4.dc
   have A5:=B5.lst hd4 A4
   have W5:=B5.lst hd4 W4
   have B5':=B4'.trans B5
   refine⟨_,_,rfl,rfl,?_⟩
   have hx0:0<=r4*456976+r5:=by omega
   refine⟨_,rfl,_,rfl,r4*456976+r5,1+lg,rfl,by omega,by omega,fun t5 ht5=>?_⟩
   obtain⟨⟨hl5,hw5⟩,hf5⟩:=ht5
   have hm0:1<=1+lg:=by omega
   have hm1:1+lg<=8:=by omega
   refine⟨Mid d l a wd ns n 5 ts H way (1+lg) (r4*456976+r5),?_,?_⟩
   ·refine⟨_,rfl,rfl,_,rfl,Z1a (fun _=>?_) (fun _=>?_)⟩
    ·refine⟨_,rfl,_,rfl,d,l,ns,n5,_,rfl,F5,by omega,by decide,by decide,fun r6 n6 H6 r60 r61 hn6 F6 B6=>?_⟩
     obtain⟨z5,hd5⟩:=F5.dc
     have A6:=B6.lst hd5 A5
     have W6:=B6.lst hd5 W5
     obtain⟨v6,hv6,hat6⟩:=Z2w (xs:=words13.map V.str) (i:=r6) r60 (Int.lt_of_lt_of_le r61 (by decide+kernel))
     obtain⟨t6,ht6,rfl⟩:=mem_map.mp hv6
     have h6:=Zc8 t6 ht6
     obtain⟨c6,hc6⟩:=Zb2 (t:=t5) (by omega)
     refine⟨wd,words13.map V.str,r6,.str t6,rfl,rfl,SqL.of W6,hat6,?_⟩
     refine⟨_,rfl,t5,0,c6,rfl,rfl,Z5a (by omega),hc6,?_⟩
     refine⟨t6,⟨#[c6]⟩,rfl,rfl,(by show t6.length+1<=sizeLine;omega),?_⟩
     exact⟨_,n6,none,none,rfl,⟨⟨by rw[Z59];show 1<=t6.length+1;omega,by rw[Z59];show t6.length+1<=8;omega⟩,Z6k h6.2 (Za7 (Zhm hw5 hc6))⟩,by omega,F6,A6,W6,B5'.trans B6⟩
    ·exact⟨t5,n5,none,none,rfl,⟨⟨by omega,by omega⟩,hw5⟩,by omega,F5,A5,W5,B5'⟩
   generalize r4*456976+r5=x at hx0 ⊢
   generalize 1+lg=m at hm0 hm1 ⊢
   rintro σ6 H6 ⟨t6,n6,o67,o68,rfl,ht6,hn6,F6,A6,W6,B6⟩
   obtain⟨z6,hd6⟩:=F6.dc
   refine⟨Mid d l a wd ns n 6 ts H way m x,?_,?_⟩
   ·refine⟨_,rfl,rfl,_,rfl,Z1a (fun _=>?_) (fun _=>?_)⟩
    ·refine⟨Z4w (by decide+kernel),fun e he=>?_⟩
     have se:=Z02 (o:=.lst (short12.map V.str)) he
     refine⟨_,rfl,d,l,ns,n6,_,rfl,F6.same se,by omega,by decide,by decide,fun r7 n7 H7 r70 r71 hn7 F7 B7=>?_⟩
     have E7:H7 e=some (.lst (short12.map V.str)):=B7.lst (se _ _ hd6) Z00
     have A7:=B7.lst (se _ _ hd6) (se _ _ A6)
     have W7:=B7.lst (se _ _ hd6) (se _ _ W6)
     obtain⟨v7,hv7,hat7⟩:=Z2w (xs:=short12.map V.str) (i:=r7) r70 (Int.lt_of_lt_of_le r71 (by decide+kernel))
     obtain⟨t7,ht7,rfl⟩:=mem_map.mp hv7
     have h7:=Zc9 t7 ht7
     refine⟨e,short12.map V.str,r7,.str t7,rfl,rfl,SqL.of E7,hat7,?_⟩
     exact⟨_,n7,o67,o68,rfl,⟨⟨by omega,by omega⟩,h7.2⟩,by omega,F7,A7,W7,(B6.trans (But.of se)).trans B7⟩
    ·exact⟨t6,n6,o67,o68,rfl,ht6,by omega,F6,A6,W6,B6⟩
   rintro σ7 H7 ⟨t7,n7,o77,o78,rfl,ht7,hn7,F7,A7,W7,B7⟩
   obtain⟨z7,hd7⟩:=F7.dc
   refine⟨Mid d l a wd ns n 7 ts H way m x,?_,?_⟩
   ·refine⟨_,rfl,rfl,_,rfl,Z1a (fun _=>?_) (fun _=>Za0 ⟨t7,n7,o77,o78,rfl,ht7,by omega,F7,A7,W7,B7⟩)⟩
    refine⟨_,rfl,Nat.zero_le _,fun e he=>⟨a,e,ts.map V.str,[],rfl,rfl,SqL.of (Z02 he _ _ A7),SqL.of Z00,Z1p ts,rfl,_,rfl,?_⟩⟩
    have se:=Z02 (o:=.lst []) he
    have F7':=F7.same se
    have A7':=se _ _ A7
    have W7':=se _ _ W7
    have B7':=B7.trans (But.of (d:=d) se)
    obtain⟨z7',hd7'⟩:=F7'.dc
    generalize upd H7 e (.lst [])=H7e at F7' A7' W7' B7' hd7' ⊢
    refine Z1a (fun hne=>?_) (fun _=>⟨t7,n7,o77,o78,rfl,ht7,by omega,F7',A7',W7',B7'⟩)
    have hpos:0<(ts.map V.str).length:=by
     cases ts with
     |nil=>exact absurd hne (by decide)
     |cons _ _=>exact Nat.succ_pos _
    have hfew:(ts.map V.str).length<=89:=by rw[length_map];exact hts
    refine⟨_,rfl,_,rfl,_,rfl,a,ts.map V.str,rfl,.inl (SqL.of A7'),d,l,ns,n7,_,rfl,F7',by omega,(by show(0:Int)<((ts.map V.str).length:Int);omega),(by show((ts.map V.str).length:Int)<18446744073709551616;omega),fun r8 n8 H8 r80 r81 hn8 F8 B8=>?_⟩
    have A8:=B8.lst hd7' A7'
    have W8:=B8.lst hd7' W7'
    obtain⟨v8,hv8,hat8⟩:=Z2w (xs:=ts.map V.str) (i:=r8) r80 r81
    obtain⟨t8,ht8,rfl⟩:=mem_map.mp hv8
    have h8:=hall t8 ht8
    refine⟨a,ts.map V.str,r8,.str t8,rfl,rfl,SqL.of A8,hat8,?_⟩
    refine⟨_,rfl,t8,t7,rfl,rfl,(by omega),?_⟩
    have hlen:(t8++t7).length=t8.length+t7.length:=Z59 _ _
    refine⟨_,rfl,_,_,rfl,rfl,(by show(0:Int)<8;decide),_,_,rfl,rfl,_,rfl,_,rfl,Z5a (by omega),?_⟩
    have hj:1<=1+x % 8:=by omega
    have hj2:1+x % 8<=8:=by omega
    have q1:=Zia (x:=t8++t7) (j:=1+x % 8) (by omega) hj
    have q2:=Zhi (x:=t8++t7) (j:=1+x % 8) (by omega)
    exact⟨_,n8,o77,o78,rfl,⟨⟨q1,by omega⟩,Z6l (Z6k h8.2 ht7.2)⟩,by omega,F8,A8,W8,B7'.trans B8⟩
   rintro σ8 H8 ⟨t8,n8,o87,o88,rfl,ht8,hn8,F8,A8,W8,B8⟩
   obtain⟨z8,hd8⟩:=F8.dc
   refine⟨Mid d l a wd ns n 8 ts H way m x,?_,?_⟩
   ·refine⟨_,rfl,rfl,_,rfl,Z1a (fun _=>?_) (fun _=>Za0 ⟨t8,n8,o87,o88,rfl,ht8,by omega,F8,A8,W8,B8⟩)⟩
    refine⟨_,rfl,Nat.zero_le _,fun e he=>⟨a,e,ts.map V.str,[],rfl,rfl,SqL.of (Z02 he _ _ A8),SqL.of Z00,Z1p ts,rfl,_,rfl,?_⟩⟩
    have se:=Z02 (o:=.lst []) he
    have F8':=F8.same se
    have A8':=se _ _ A8
    have W8':=se _ _ W8
    have B8':=B8.trans (But.of (d:=d) se)
    obtain⟨z8',hd8'⟩:=F8'.dc
    generalize upd H8 e (.lst [])=H8e at F8' A8' W8' B8' hd8' ⊢
    refine Z1a (fun hne=>?_) (fun _=>⟨t8,n8,o87,o88,rfl,ht8,by omega,F8',A8',W8',B8'⟩)
    have hpos:0<(ts.map V.str).length:=by
     cases ts with
     |nil=>exact absurd hne (by decide)
     |cons _ _=>exact Nat.succ_pos _
    have hfew:(ts.map V.str).length<=89:=by rw[length_map];exact hts
    refine⟨_,rfl,_,rfl,_,rfl,a,ts.map V.str,rfl,.inl (SqL.of A8'),d,l,ns,n8,_,rfl,F8',by omega,(by show(0:Int)<((ts.map V.str).length:Int);omega),(by show((ts.map V.str).length:Int)<18446744073709551616;omega),fun r9 n9 H9 r90 r91 hn9 F9 B9=>?_⟩
    have A9:=B9.lst hd8' A8'
    have W9:=B9.lst hd8' W8'
    obtain⟨v9,hv9,hat9⟩:=Z2w (xs:=ts.map V.str) (i:=r9) r90 r91
    obtain⟨t9,ht9,rfl⟩:=mem_map.mp hv9
    have h9:=hall t9 ht9
    refine⟨a,ts.map V.str,r9,.str t9,rfl,rfl,SqL.of A9,hat9,?_⟩
    refine⟨_,rfl,_,rfl,t9,rfl,Z5a (by omega),_,_,rfl,rfl,(by show(0:Int)<(t9.length:Int);omega),?_⟩
    have at0:0<=x % (t9.length:Int):=Int.emod_nonneg _ (by omega)
    have at1:x % (t9.length:Int)<t9.length:=Int.emod_lt_of_pos _ (by omega)
    obtain⟨c9,hc9⟩:=Zb2 (t:=t8) ht8.1.1
    have q1:=Zhi (x:=t9) (j:=x % (t9.length:Int)) at0
    have q2:=Zfs (x:=t9) (i:=x % (t9.length:Int)+1) (by omega) (by omega)
    refine⟨_,rfl,_,rfl,_,rfl,t9,rfl,Z5a (by omega),_,rfl,t8,0,c9,rfl,rfl,Z5a (by omega),hc9,_,⟨#[c9]⟩,rfl,rfl,(by show _+1<=sizeLine;omega),?_⟩
    have hlen:(Txt.slice t9 none (some (x % (t9.length:Int)))++(⟨#[c9]⟩:Str)).length=(Txt.slice t9 none (some (x % (t9.length:Int)))).length+1:=Z59 _ _
    refine⟨_,rfl,_,rfl,_,_,rfl,rfl,_,rfl,t9,rfl,Z5a (by omega),_,_,rfl,rfl,(by omega),?_⟩
    exact⟨_,n9,_,_,rfl,⟨⟨by rw[Z59];omega,by rw[Z59];omega⟩,Z6k (Z6k (Z6l h9.2) (Za7 (Zhm ht8.2 hc9))) (Z6l h9.2)⟩,by omega,F9,A9,W9,B8'.trans B9⟩
   rintro σ9 H9 ⟨t9,n9,o97,o98,rfl,ht9,hn9,F9,A9,W9,B9⟩
   have hex:(ts++words13).length<=102:=by
    rw[length_append]
    have:words13.length=13:=by decide+kernel
    omega
   refine Zff (fun σ H'=>∃(i:Nat) (R:List Str) (t:Str),σ = [some (.ref d),some (.ref a),some (.ref wd),some (.int way),some (.int (mi m i)),some (.int (x+i)),some (.str t),o97,o98]/\Nm t/\Left x m (ts++words13) R i/\(0<i->Z5q x m t i)/\H'=H9)
    (fun(σ:St) (_:Hp)=>match σ[5]? with|some (some (V.int z))=>(x+200-z).toNat|_=>0) ⟨0,_,t9,?_,ht9,Left.zero hex,fun z=>absurd z (Nat.lt_irrefl _),rfl⟩ ?_ ?_
   ·have e1:mi m 0=m:=by unfold mi;omega
    have e2:x+((0:Nat):Int)=x:=by omega
    rw[e1,e2]
   ·rintro σ H' ⟨i,R,t,rfl,ht,hL,hK,rfl⟩
    have hi:i<=103:=by have:=hL.few;omega
    have e1:mi m i % 8+1=mi m (i+1):=by unfold mi;omega
    have e2:x+(i:Int)+1=x+((i+1:Nat):Int):=by omega
    have e3:1<=mi m (i+1)/\mi m (i+1)<=8:=by unfold mi;omega
    have body:t∈ts++words13->∀t':Str,Zdy t' (x+((i+1:Nat):Int)) (mi m (i+1)) →
      ∃R',Nm t'/\Left x m (ts++words13) R' (i+1)/\(0<i+1->Z5q x m t' (i+1)):=by
     intro hin t' ht'
     have hk:Z5q x m t' (i+1):=⟨ht'.1.1,ht'.2 (by omega)⟩
     have hl:=ht'.1.1
     by_cases hz:i=0
     ·subst hz
      exact⟨_,⟨⟨by omega,by omega⟩,ht'.1.2⟩,Left.one (R:=R) hex,fun _=>hk⟩
     ·exact⟨_,⟨⟨by omega,by omega⟩,ht'.1.2⟩,hL.next hin (hK (by omega)),fun _=>hk⟩
    refine⟨_,rfl,_,rfl,a,ts.map V.str,rfl,.inl (SqL.of A9),rfl,Z1p ts,_,rfl,Z1a (fun g=>Zaq ?_) (fun g=>?_)⟩
    ·refine⟨_,rfl,_,_,rfl,rfl,_,rfl,_,_,rfl,rfl,(by show(0:Int)<8;decide),_,_,rfl,rfl,_,rfl,_,rfl,_,_,rfl,(by rw[e1];omega),(by rw[e1];omega),fun t' ht'=>?_⟩
     rw[e1,e2] at ht'
     obtain⟨R',q1,q2,q3⟩:=body (mem_append.mpr (.inl ((Z29 t ts).mp g))) t' ht'
     refine⟨⟨i+1,R',t',?_,q1,q2,q3,rfl⟩,?_⟩
     ·show[some (.ref d),some (.ref a),some (.ref wd),some (.int way),some (.int (mi m i % 8+1)),some (.int (x+i+1)),some (.str t'),o97,o98]=_
      rw[e1,e2]
     ·show(x+200-(x+i+1)).toNat<(x+200-(x+i)).toNat
      omega
    ·refine⟨_,rfl,_,rfl,wd,words13.map V.str,rfl,.inl (SqL.of W9),rfl,Z1p words13,_,rfl,Z1a (fun g2=>?_) (fun g2=>?_)⟩
     ·refine⟨_,rfl,_,_,rfl,rfl,_,rfl,_,_,rfl,rfl,(by show(0:Int)<8;decide),_,_,rfl,rfl,_,rfl,_,rfl,_,_,rfl,(by rw[e1];omega),(by rw[e1];omega),fun t' ht'=>?_⟩
      rw[e1,e2] at ht'
      obtain⟨R',q1,q2,q3⟩:=body (mem_append.mpr (.inr ((Z29 t words13).mp g2))) t' ht'
      refine⟨⟨i+1,R',t',?_,q1,q2,q3,rfl⟩,?_⟩
      ·show[some (.ref d),some (.ref a),some (.ref wd),some (.int way),some (.int (mi m i % 8+1)),some (.int (x+i+1)),some (.str t'),o97,o98]=_
       rw[e1,e2]
      ·show(x+200-(x+i+1)).toNat<(x+200-(x+i)).toNat
       omega
     ·exact⟨_,rfl,k t n9 _ ht (fun z=>g ((Z29 t ts).mpr z)) (fun z=>g2 ((Z29 t words13).mpr z)) hn9 F9 B9⟩
   ·rintro σ H' Q1 Q2 hq ⟨v,f1,w1,f2,p,xs,f3,f4,f5,f6,c,f7,q⟩
    refine⟨v,f1,w1,f2,p,xs,f3,f4,f5,f6,c,f7,?_⟩
    cases c with
    |true=>exact Zaq (hq _ _ (by simpa using q))
    |false=>
     refine Za0 ?_
     simp only [Bool.false_eq_true,if_false] at q
     obtain⟨v,f1,w1,f2,p,xs,f3,f4,f5,f6,c,f7,q⟩:=q
     exact⟨v,f1,w1,f2,p,xs,f3,f4,f5,f6,c,f7,hq _ _ q⟩
end
theorem Zca {l:List Str}{x:Str}(h:l.Nodup)(hx:x∉l):(l ++ [x]).Nodup:=by
 rw[List.nodup_append]
 refine⟨h,by simp,fun a ha b hb e=>?_⟩
 rw[mem_singleton] at hb
 rw[e,hb] at ha
 exact hx ha
inductive spNames_ (vs:List V)(H:Hp)(Q:VK):Prop
 |mk (d l:Addr) (ns:List Int) (n:Nat) (m:Int) (_:vs = [.ref d,.int m]) (_:Feed H d l ns n) (_:n<=800000000000) (_:0<=m) (_:m<=89) (_:∀(nm:Addr) (ts:List Str) n' H',H nm=none->H' nm=some (.lst (ts.map V.str))->(ts.length:Int)=m->(∀t∈ts,Nm t)->ts.Nodup->n'<=n+8*m.toNat->Feed H' d l ns n'->But d H H'->Q (.ref nm) H'):spNames_ vs H Q
def spNames:Sp:=fun vs H Q _=>spNames_ vs H Q
section
variable {P:Program}{w:World}{K:PySem.W.Frag}{mg:Str->Option Value}{base:Heap}
theorem scNames:FnScope ["_law_feed_here","_law_many","_law_names_here","_law_k"] ["_law_feed_here","_law_many"] (Z06 Z9h):=⟨rfl,rfl,rfl,by decide+kernel,rfl,by decide+kernel,by decide+kernel⟩
theorem Zg6 {f fN fD fS:Addr}{fd dN dD dS:FuncData}(F:Fun K "_law_names" "_law_names" Z9h f fd)(U:Helpers K mg fD fS dD dS)
  (FN:Fun K "_law_name" "_law_name" Z2j fN dN) (bN:Binds K dN ["_law_feed_here","_law_taken"] []) (mN:mg "_law_name"=some (.ref fN)):FnOk P w K mg base CX0 3 f fd ["_law_feed_here","_law_many"] spNames:=by
 have GN:FnOk P w K mg base CX0 2 fN dN ["_law_feed_here","_law_taken"] spLawName:=Z5b FN U
 refine F.ok scNames (fun vs H Q E h=>?_) (fun cdv A outer s H vs Q E hr h=>?_)
 ·obtain⟨d,l,ns,n,m,rfl,_⟩:=h
  rfl
 ·obtain⟨d,l,ns,n,m,rfl,F0,hn,hm0,hm1,k⟩:=h
  have hsz:sizeLine=16777216:=sizeLine_eq
  refine⟨_,Z04 (Z0c (i:=2) scNames.nd rfl (Or.inl rfl) (Z0y Z01)) <|
   Z04 (Z43 PassesOwn.never rfl (Z1y (by rfl) U.T.range (Z0d (pv 1) Z01)) (Z0s (i:=3) scNames.nd rfl (Or.inl rfl))
    (Z07 (Z3k (Z92 PySem.F.plainAttrs_list PySem.F.slot_list_append PySem.F.type_list_append Z34 (pv 2) (Z2x (Z05 GN hr (by rfl) mN FN.kp bN .nil Z0e (Z0d (pv 0) (Z0d (pv 2) Z01))) Z01))))) <|
   Z07 (Z0h (pv 2)),?_⟩
  refine⟨Nat.zero_le _,fun nm hnm=>?_⟩
  refine⟨_,rfl,m,rfl,by omega,by omega,Z31 (n:=m.toNat) (fun i σ H'=>∃(ts:List Str) (n':Nat) (o:Option V),σ = [some (.ref d),some (.int m),some (.ref nm),o]/\ts.length=i/\(∀t∈ts,Nm t)/\ts.Nodup/\n'<=n+8*i/\Feed H' d l ns n'/\H' nm=some (.lst (ts.map V.str))/\But d H H')
   ⟨[],n,none,rfl,rfl,(fun t ht=>absurd ht not_mem_nil),List.nodup_nil,Nat.le_refl _,F0.same (Z02 hnm),Z00,But.of (Z02 hnm)⟩ ?_ ?_⟩
  ·rintro i σ H' hi ⟨ts,n',o,rfl,hl,hall,hnd,hn',F',L',B'⟩
   refine⟨_,rfl,.inl ⟨rfl,_,SqL.of L'⟩,_,rfl,_,rfl,d,l,nm,ns,n',ts,rfl,F',by omega,L',by omega,hall,fun t n2 H2 ht htn _ hn2 F2 B2=>?_⟩
   obtain⟨z,hd⟩:=F'.dc
   have L2:=B2.lst hd L'
   refine⟨nm,_,_,rfl,rfl,L2,(by rw[length_map];omega),?_⟩
   have hne:nm≠d:=(Z3i L2 (F2.dc.choose_spec) (by intro q;cases q))
   have hne2:nm≠l:=fun e=>by
    have h0:H l=some _:=F0.ls
    rw[<- e,hnm] at h0
    cases h0
   refine⟨ts ++ [t],n2,_,rfl,by rw[length_append,hl];rfl,?_,Zca hnd htn,by omega,?_,?_,?_⟩
   ·intro u hu
    rcases mem_append.mp hu with z|z
    ·exact hall u z
    ·rw[mem_singleton.mp z];exact ht
   ·obtain⟨⟨z2,hd2⟩,hls,hz⟩:=F2
    exact⟨⟨z2,by rw[Z0a (Ne.symm hne)];exact hd2⟩,by rw[Z0a (Ne.symm hne2)];exact hls,hz⟩
   ·rw[Z00,map_append];rfl
   ·intro b u e hb
    rw[Z0a (Z0g e hnm)]
    exact B2 b u (B' b u e hb) hb
  ·rintro σ H' ⟨ts,n',o,rfl,hl,hall,hnd,hn',F',L',B'⟩
   exact⟨_,rfl,k nm ts n' H' hnm L' (by omega) hall hnd hn' F' B'⟩
end
theorem But.kp {d l:Addr}{ns:List Int}{n:Nat}{H H':Hp}(b:But d H H')(F:Feed H d l ns n):Kp H H':=by
 obtain⟨⟨z,hd⟩,_,_⟩:=F
 intro a o h hk
 exact b a o h (fun q=>by subst q;rw[hd] at h;cases h;exact hk _ rfl)
theorem Feed.lst {d l a:Addr}{ns:List Int}{n:Nat}{H H':Hp}{xs:List V}(F:Feed H d l ns n)(b:But d H H')(h:H a=some (.lst xs)):H' a=some (.lst xs):=by
 obtain⟨⟨z,hd⟩,_,_⟩:=F
 exact b.lst hd h
inductive spValue_ (vs:List V)(H:Hp)(Q:VK):Prop
 |mk (d l:Addr) (ns:List Int) (n:Nat) (_:vs = [.ref d]) (_:Feed H d l ns n) (_:n<=900000000000) (_:∀(i:Int) n' H',0<=i->i<=1000000000->n'<=n+3->Feed H' d l ns n'->But d H H'->Q (.int i) H'):spValue_ vs H Q
def spValue:Sp:=fun vs H Q _=>spValue_ vs H Q
section
variable {P:Program}{w:World}{K:PySem.W.Frag}{mg:Str->Option Value}{base:Heap}
theorem scLawValue:FnScope ["_law_feed_here","_law_way"] ["_law_feed_here"] (Z06 Z3b):=⟨rfl,rfl,rfl,by decide+kernel,rfl,by decide+kernel,by decide+kernel⟩
theorem Zg7 {f fD fS:Addr}{fd dD dS:FuncData}(F:Fun K "_law_value" "_law_value" Z3b f fd)(U:Helpers K mg fD fS dD dS):FnOk P w K mg base CX0 2 f fd ["_law_feed_here"] spValue:=by
 have GD:FnOk P w K mg base CX0 1 fD dD ["_law_feed_here","_law_many"] spDraw:=Z6j U.D U.T
 refine F.ok scLawValue (fun vs H Q E h=>?_) (fun cdv A outer s H vs Q E hr h=>?_)
 ·obtain⟨d,l,ns,n,rfl,_⟩:=h
  rfl
 ·obtain⟨d,l,ns,n,rfl,F0,hn,k⟩:=h
  have hr1:Room 1 _:=hr.mono (by decide)
  refine'⟨?tt,?body,?fin⟩
  case body=>
   refine' Z04 ?s1 (Z04 ?s2 (Z04 ?s3 (Z07 ?s4)))
   case s1=>exact Z0c (i:=1) scLawValue.nd rfl (Or.inl rfl) (Z05 GD hr1 (by rfl) U.mD U.D.kp U.bD .nil Z0e (Z0d (pv 0) (Z17 Z03 Z01)))
   case s2=>exact Z0x (Z0b Z1d (pv 1) Z03 (Z0k _)) (Z07 (Z0h (Z0i Z1l Z03 (Z05 GD hr1 (by rfl) U.mD U.D.kp U.bD .nil Z0e (Z0d (pv 0) (Z17 Z03 Z01)))))) Z0f
   case s3=>exact Z0x (Z0b Z1d (pv 1) Z03 (Z0k _)) (Z07 (Z0h (Z0i Z1h (Z0i Z1x (Z05 GD hr1 (by rfl) U.mD U.D.kp U.bD .nil Z0e (Z0d (pv 0) (Z17 Z03 Z01))) Z03) (Z05 GD hr1 (by rfl) U.mD U.D.kp U.bD .nil Z0e (Z0d (pv 0) (Z17 Z03 Z01)))))) Z0f
   case s4=>exact Z0h (Z05 GD hr1 (by rfl) U.mD U.D.kp U.bD .nil Z0e (Z0d (pv 0) (Z08 (Z0i Z1l (Z0i Z1x Z03 (pv 1)) Z03) Z01)))
  case fin=>
   refine⟨_,rfl,d,l,ns,n,_,rfl,F0,by omega,by decide,by decide,fun way n1 H1 w0 w1 hn1 F1 b1=>?_⟩
   refine⟨_,rfl,rfl,_,rfl,Z1a (fun g=>?_) (fun g=>?_)⟩
   ·refine⟨_,rfl,d,l,ns,n1,_,rfl,F1,by omega,by decide,by decide,fun i n2 H2 i0 i1 hn2 F2 b2=>⟨_,_,rfl,rfl,?_⟩⟩
    exact k _ n2 H2 (by omega) (by omega) (by omega) F2 (b1.trans b2)
   ·refine⟨_,rfl,rfl,_,rfl,Z1a (fun g2=>?_) (fun g2=>?_)⟩
    ·refine⟨_,rfl,d,l,ns,n1,_,rfl,F1,by omega,by decide,by decide,fun i n2 H2 i0 i1 hn2 F2 b2=>⟨_,_,rfl,rfl,.inr ⟨by decide,by decide⟩,?_⟩⟩
     refine⟨_,rfl,d,l,ns,n2,_,rfl,F2,by omega,by decide,by decide,fun j n3 H3 j0 j1 hn3 F3 b3=>⟨_,_,rfl,rfl,?_⟩⟩
     exact k _ n3 H3 (by omega) (by omega) (by omega) F3 ((b1.trans b2).trans b3)
    ·have g':way≠0:=fun z=>g (by rw[z];decide)
     have g2':way≠1:=fun z=>g2 (by rw[z];decide)
     refine⟨_,rfl,_,rfl,_,_,rfl,rfl,.inl ⟨by decide,by decide⟩,_,_,rfl,rfl,d,l,ns,n1,3*way-3,rfl,F1,by omega,by omega,by omega,fun i n2 H2 i0 i1 hn2 F2 b2=>?_⟩
     exact k i n2 H2 i0 (by omega) (by omega) F2 (b1.trans b2)
end
structure TxtT (mg:Str->Option Value):Prop where
 isi:mg "isinstance"=none
 int:mg "int"=none
 bl:mg "bool"=none
 tup:mg "tuple"=none
 len:mg "len"=none
def Z2i (t:Th):Bool := !isTup t
def Z9k (ts:List Th):List Th:=ts.filter Z2i
def lfV:V->Bool
 | .str x=>decide (x.length<=16)&&x.cps.toList.all fun c=>decide (c<16 ^ 8)
 | .int i=>decide (i.natAbs<10 ^ 12)
 |_=>true
structure SS where
 c:List Str
 u:List Str
abbrev NmU (_:SS)(t:Str):Prop:=Nm t/\True
theorem Ze1 {S:SS}{t:Str}(h:NmU S t):lfV (.str t)=true:=by
 show(decide (t.length<=16)&&t.cps.toList.all fun c=>decide (c<16 ^ 8))=true
 rw[Bool.and_eq_true]
 refine⟨decide_eq_true (by have:=h.1.1.2;omega),all_eq_true.mpr fun c hc=>decide_eq_true ?_⟩
 have:=h.1.2 c hc
 omega
inductive Sh (S:SS):Str->List V->Nat->Prop where
 |num {i:Int}:0<=i->i<=1000000000->Sh S "num" [.int i] 0
 |name {x:Str}:NmU S x->Sh S "name" [.str x] 0
 |take:Sh S "take" [] 0
 |op {c:Nat}:c∈("+-*/<=":Str).cps.toList->Sh S "op" [.str ⟨#[c]⟩] 2
 |pick:Sh S "pick" [] 3
 |lt {x:Str}:NmU S x->Sh S "let" [.str x] 2
 |set {x:Str}:NmU S x->Sh S "set" [.str x] 1
 |say:Sh S "say" [] 1
 |seq {n:Nat}:1<=n->n<=6->Sh S "do" [] n
 |again {i:Int}:0<=i->i<=5->Sh S "again" [.int i] 1
 |call {x:Str} {n:Nat}:x∈S.c->NmU S x->n<=6->Sh S "call" [.str x] n
theorem Sh.turn {S:SS}{w x y:Str}{n:Nat}(h:Sh S w [.str x] n)(hw:w="name"∨w="set")(hy:NmU S y):Sh S w [.str y] n:=by
 cases h with
 |name a=>exact .name hy
 |set a=>exact .set hy
 |op a=>rcases hw with q|q <;> exact absurd q (by decide+kernel)
 |lt a=>rcases hw with q|q <;> exact absurd q (by decide+kernel)
 |call a b c=>rcases hw with q|q <;> exact absurd q (by decide+kernel)
structure HdE (S:SS)(w:Str)(hd:List V)(n:Nat):Prop where
 st:w="set"∨w="name"->∃x:Str,hd = [.str x]
 ca:w="call"->∃x:Str,hd = [.str x]/\x∈S.c
 ag:w="again"->∃i:Int,hd = [.int i]/\0<=i/\i<=5
 lv:∀v∈hd,lfV v=true
 lw:lfV (.str w)=true
 sh:Sh S w hd n
def nd (w:Str)(hd:List V)(ks:List Th):Th:=.tup (.at (.str w)::(hd.map Th.at++ks))
def PfT (S:SS):Nat->Th->Prop
 | 0,_=>False
 |n+1,t=>∃(w:Str) (hd:List V) (ks:List Th),t=nd w hd ks/\hd.length<=1/\(∀v∈hd,plT (.at v)=true)/\(w="let"->(∃x:Str,hd = [.str x])/\ks.length=2)/\HdE S w hd ks.length/\ks.length<=6/\∀k∈ks,PfT S n k
section
variable {S:SS}
theorem PfT.up:∀(n:Nat) {t:Th},(PfT S) n t->(PfT S) (n+1) t:=by
 intro n
 induction n with
 |zero=>intro t h;exact h.elim
 |succ n ih=>
  intro t h
  obtain⟨w,hd,ks,e,h1,h2,h3,h4,h5,h6⟩:=h
  exact⟨w,hd,ks,e,h1,h2,h3,h4,h5,fun k hk=>ih (h6 k hk)⟩
theorem PfT.le {n m:Nat}{t:Th}(h:(PfT S) n t)(hm:n<=m):(PfT S) m t:=by
 induction hm with
 |refl=>exact h
 |step _ ih=>exact PfT.up _ ih
theorem PfT.isTup {n:Nat}{t:Th}(h:(PfT S) n t):isTup t=true:=by
 cases n with
 |zero=>exact h.elim
 |succ n=>obtain⟨w,hd,ks,rfl,_⟩:=h;rfl
theorem Z5t (hd:List V):(hd.map Th.at).filter L2.isTup = []:=by
 induction hd with
 |nil=>rfl
 |cons v hd ih=>rw[map_cons,filter_cons];simpa [L2.isTup] using ih
theorem Z8a (hd:List V):(hd.map Th.at).filter Z2i=hd.map Th.at:=by
 induction hd with
 |nil=>rfl
 |cons v hd ih=>rw[map_cons,filter_cons,if_pos (by rfl),ih]
theorem Z5u:∀{ks:List Th},(∀k∈ks,L2.isTup k=true)->ks.filter L2.isTup=ks:=fun h=>List.filter_eq_self.mpr h
theorem Z6m {ks:List Th}(h:∀k∈ks,L2.isTup k=true):ks.filter Z2i = []:=by
 rw[List.filter_eq_nil_iff]
 intro k hk
 unfold Z2i
 rw[h k hk]
 decide
theorem Z3d {w:Str}{hd:List V}{ks:List Th}(h:∀k∈ks,L2.isTup k=true):Z11 (.at (.str w)::(hd.map Th.at++ks))=ks:=by
 unfold Z11
 rw[filter_cons,if_neg (by simp [L2.isTup]),filter_append,Z5t,nil_append,Z5u h]
theorem Z6n {w:Str}{hd:List V}{ks:List Th}(h:∀k∈ks,L2.isTup k=true):Z9k (.at (.str w)::(hd.map Th.at++ks)) = .at (.str w)::hd.map Th.at:=by
 unfold Z9k
 rw[filter_cons,if_pos (by rfl),filter_append,Z8a,Z6m h,append_nil]
theorem Ze2:∀{a b:List V},a.map Th.at=b.map Th.at->a=b:=by
 intro a
 induction a with
 |nil=>intro b h;cases b with
  |nil=>rfl
  |cons=>cases h
 |cons x a ih=>intro b h;cases b with
  |nil=>cases h
  |cons y b=>
   rw[map_cons,map_cons] at h
   injection h with h1 h2
   injection h1 with h1
   rw[h1,ih h2]
theorem Zg8:∀a b:List Th,Z44 (a++b)=(Z44 a&&Z44 b):=by
 intro a
 induction a with
 |nil=>intro b;rw[nil_append,Z44,Bool.true_and]
 |cons x a ih=>intro b;rw[cons_append,Z44,Z44,ih,Bool.and_assoc]
theorem Z2v:∀{a:List Th},(∀x∈a,plT x=true)->Z44 a=true:=by
 intro a
 induction a with
 |nil=>intro _;rw[Z44]
 |cons x a ih=>intro h;rw[Z44,h x (mem_cons_self ..),ih fun y hy=>h y (mem_cons_of_mem _ hy)];rfl
theorem PfT.pl:∀(n:Nat) {t:Th},(PfT S) n t->plT t=true:=by
 intro n
 induction n with
 |zero=>intro t h;exact h.elim
 |succ n ih=>
  intro t h
  obtain⟨w,hd,ks,rfl,h1,h2,h3,h4,h5,h6⟩:=h
  unfold nd
  rw[plT,Z44,Zg8,Z2v (a:=hd.map Th.at) fun x hx=>?_,Z2v (a:=ks) fun x hx=>ih (h6 x hx),plT]
  ·rfl
  ·obtain⟨v,hv,rfl⟩:=mem_map.mp hx
   exact h2 v hv
theorem Zkq {n:Nat}:∀{a:List Th},(∀x∈a,dp x<=n)->dps a<=n:=by
 intro a
 induction a with
 |nil=>intro _;rw[dps];exact Nat.zero_le _
 |cons x a ih=>intro h;rw[dps];exact Nat.max_le.mpr ⟨h x (mem_cons_self ..),ih fun y hy=>h y (mem_cons_of_mem _ hy)⟩
end
inductive spLawParts_ (vs:List V)(H:Hp)(Q:VK):Prop
 |mk (v:V) (w0:Str) (ts:List Th) (_:vs = [v]) (_:IsTh H v (.tup (.at (.str w0)::ts))) (_:ts.length<=1000000) (_:∀(p:Addr) (ws:List V) H',Same H H'->H p=none->H' p=some (.lst ws)->IsThs H' ws (Z11 ts)->Q (.ref p) H'):spLawParts_ vs H Q
def spLawParts:Sp:=fun vs H Q _=>spLawParts_ vs H Q
inductive spWith_ (vs:List V)(H:Hp)(Q:VK):Prop
 |mk (v:V) (la:Addr) (ts ks:List Th) (ws:List V) (_:vs = [v,.ref la]) (_:IsTh H v (.tup ts)) (_:ts.length<=1000) (_:H la=some (.lst ws)) (_:IsThs H ws ks) (_:ks.length<=1000) (_:∀(p:Addr) H',Same H H'->IsTh H' (.ref p) (.tup (Z9k ts++ks))->Q (.ref p) H'):spWith_ vs H Q
def spWith:Sp:=fun vs H Q _=>spWith_ vs H Q
inductive spNodes_ (S:SS)(N:Nat)(vs:List V)(H:Hp)(Q:VK):Prop
 |mk (v:V) (t:Th) (_:vs = [v]) (_:IsTh H v t) (_:(PfT S) N t) (_:∀H',Same H H'->Q (.int (cnt t:Nat)) H'):spNodes_ S N vs H Q
def Z6o (S:SS)(N:Nat):Sp:=fun vs H Q _=>spNodes_ S N vs H Q
theorem Z2y {hd:List V}{ks:List Th}(h:∀k∈ks,L2.isTup k=true):Z11 (hd.map Th.at++ks)=ks:=by
 unfold Z11
 rw[filter_append,Z5t,nil_append,Z5u h]
theorem Z18 {w:Str}{hd:List V}{ks:List Th}(h:∀k∈ks,L2.isTup k=true):cnt (nd w hd ks)=1+Z1o ks:=by
 unfold nd
 rw[cnt,Zdp,Z3d h]
theorem Z2r:∀(a:List Th) (x:Th),Z1o (a ++ [x])=Z1o a+cnt x:=by
 intro a
 induction a with
 |nil=>intro x;simp [Z1o]
 |cons y a ih=>intro x;rw[cons_append,Z1o,Z1o,ih];omega
section
variable {P:Program}{w:World}{K:PySem.W.Frag}{mg:Str->Option Value}{base:Heap}
variable {S:SS}
theorem Zcb:FnScope ["_law_e"] ["_law_e"] (Z06 Z25):=⟨rfl,rfl,rfl,by decide+kernel,rfl,by decide+kernel,by decide+kernel⟩
theorem Z1g {f:Addr}{fd:FuncData}(F:Fun K "_law_parts" "_law_parts" Z25 f fd)(T:TxtT mg)(KI:Kits K):FnOk P w K mg base CX0 1 f fd ["_law_e"] spLawParts:=by
 refine F.ok Zcb (fun vs H Q E h=>?_) (fun cdv A outer s H vs Q E hr h=>?_)
 ·obtain⟨v,w0,ts,rfl,_⟩:=h
  rfl
 ·obtain⟨v,w0,ts,rfl,hv,hz,k⟩:=h
  refine⟨_,Z07 (Z0h (Z1s (N':=["_law_part"]) (src:=[none]) rfl (Z0m (Z06 Z25) rfl ["_law_e"] rfl (by decide+kernel)) (Z8q (Z1e Z3n (pv 0) (Z1m Z03) Z1z))
   (fun cl C ex s0 H0=>⟨Z0s (i:=0) (nd1 _) rfl (Or.inl rfl),Z4b (Z5f (Z0n (id:="isinstance") (Z2u (K:=K) rfl) (by rfl) T.isi (by decide+kernel) (Z0d (pv 0) (Z0d (Z5v (v:=.ty "tuple") (by rfl) T.tup (by decide+kernel) rfl) Z01)))),pv 0⟩))),?_⟩
  obtain⟨a,vs,rfl,a1,a2⟩:=Z1b hv
  cases a2 with
  | @cons x xs _ _ c1 c2=>
   refine⟨_,rfl,_,rfl,a,x::xs,rfl,a1,fun p H1 s1 hp=>?_⟩
   rw[Zm4] at hp
   have hl:=IsThs.len _ c2
   refine⟨p,rfl,⟨_,SqT.of hp⟩,Z4m (K:=K) (a:=p) (xs:=xs) (fun i ys σc H'=>∃o,σc = [o]/\IsThs H ys ((ts.take i).filter isTup)/\ys.length<=i/\H'=H1) ⟨none,rfl,by rw[take_zero];exact .nil,Nat.le_refl _,rfl⟩ (fun i ys σc H' ⟨_,_,_,_,e⟩=>by rw[e];exact SqT.of hp) ?_ ?_⟩
   ·rintro i x ys σc H' hx hi ⟨o,rfl,hys,hyl,rfl⟩
    obtain⟨t,ht,h1⟩:=Z1f _ c2 hx
    have hnext:(ts.take (i+1)).filter isTup=(ts.take i).filter isTup++(if isTup t=true then [t] else []):=Z3w _ ht
    refine⟨by have:sizeLine=16777216:=sizeLine_eq;omega,?_⟩
    refine⟨_,rfl,_,_,_,_,rfl,Zfw (IsTh.kp (Kp.of s1) h1),KI.tup h1,_,rfl,Z1a (fun g=>?_) (fun g=>?_)⟩
    ·refine⟨_,rfl,nx hi ⟨_,rfl,?_,by rw[length_append];show ys.length+1<=i+1;omega,rfl⟩⟩
     rw[hnext,if_pos g]
     exact IsThs.app _ hys (.cons h1 .nil)
    ·refine nx hi ⟨_,rfl,?_,by omega,rfl⟩
     rw[hnext,if_neg g,append_nil]
     exact hys
   ·rintro ys σc H' ⟨o,rfl,hys,hyl,rfl⟩ q hq
    rw[take_of_length_le (by omega)] at hys
    have sA:=s1.trans (Z02 (o:=.lst ys) hq)
    exact k q ys _ sA (Z1u s1 hq) Z00 (IsThs.kp (Kp.of sA) hys)
theorem Zkr:FnScope ["_law_e","_law_inner"] ["_law_e","_law_inner"] (Z06 Zc5):=⟨rfl,rfl,rfl,by decide+kernel,rfl,by decide+kernel,by decide+kernel⟩
theorem Z8b {f:Addr}{fd:FuncData}(F:Fun K "_law_with" "_law_with" Zc5 f fd)(T:TxtT mg)(KI:Kits K):FnOk P w K mg base CX0 1 f fd ["_law_e","_law_inner"] spWith:=by
 refine F.ok Zkr (fun vs H Q E h=>?_) (fun cdv A outer s H vs Q E hr h=>?_)
 ·obtain⟨v,la,ts,ks,ws,rfl,_⟩:=h
  rfl
 ·obtain⟨v,la,ts,ks,ws,rfl,hv,hz,hla,hws,hkz,k⟩:=h
  have hsz:sizeLine=16777216:=sizeLine_eq
  refine'⟨?tt,?body,?fin⟩
  case body=>
   refine' Z07 ?s1
   case s1=>
    refine' Z0h ?r
    case r=>
     refine' Z14 Z1q (by rfl) T.tup (by decide+kernel) ?a
     case a=>
      refine' Z08 ?c Z01
      case c=>
       refine' Z0i Z2q ?x (pv 1)
       case x=>
        refine' Z1s (N':=["_law_part"]) (src:=[none]) ?k1 ?k5 ?k6 ?k7
        case k1=>rfl
        case k5=>exact Z0m (Z06 Zc5) rfl ["_law_e","_law_inner"] rfl (by decide+kernel)
        case k6=>exact Z8q (pv 0)
        case k7=>exact fun cl C ex s0 H0=>⟨Z0s (i:=0) (nd1 _) rfl (Or.inl rfl),Z4b (Z8p (Z5f (Z0n (id:="isinstance") (Z2u (K:=K) rfl) (by rfl) T.isi (by decide+kernel) (Z0d (pv 0) (Z0d (Z5v (v:=.ty "tuple") (by rfl) T.tup (by decide+kernel) rfl) Z01))))),pv 0⟩
  case fin=>
   obtain⟨a,xs,rfl,ha,hts⟩:=Z1b hv
   have hl:=IsThs.len _ hts
   refine⟨_,rfl,a,rfl,⟨_,SqT.of ha⟩,Z4m (K:=K) (a:=a) (xs:=xs) (fun i ys σc H'=>∃o,σc = [o]/\IsThs H ys ((ts.take i).filter Z2i)/\ys.length<=i/\H'=H) ⟨none,rfl,by rw[take_zero];exact .nil,Nat.le_refl _,rfl⟩ (fun i ys σc H' ⟨_,_,_,_,e⟩=>by rw[e];exact SqT.of ha) ?_ ?_⟩
   ·rintro i x ys σc H' hx hi ⟨o,rfl,hys,hyl,rfl⟩
    obtain⟨t,ht,h1⟩:=Z1f _ hts hx
    have hnext:(ts.take (i+1)).filter Z2i=(ts.take i).filter Z2i++(if Z2i t=true then [t] else []):=Z3w _ ht
    refine⟨by omega,?_⟩
    refine⟨_,rfl,_,_,_,_,rfl,Zfw h1,KI.tup h1,_,rfl,Z1a (fun g=>?_) (fun g=>?_)⟩
    ·refine⟨_,rfl,nx hi ⟨_,rfl,?_,by rw[length_append];show ys.length+1<=i+1;omega,rfl⟩⟩
     rw[hnext,if_pos (show Z2i t=true from g)]
     exact IsThs.app _ hys (.cons h1 .nil)
    ·refine nx hi ⟨_,rfl,?_,by omega,rfl⟩
     rw[hnext,if_neg (show ¬Z2i t=true from g),append_nil]
     exact hys
   ·rintro ys σc H' ⟨o,rfl,hys,hyl,rfl⟩ l hl'
    rw[take_of_length_le (by omega)] at hys
    have s1:=Z02 (o:=.lst ys) hl'
    have hwl:=IsThs.len _ hws
    refine⟨_,rfl,l,la,ys,ws,rfl,rfl,Z00,s1 _ _ hla,by omega,fun l2 hl2=>?_⟩
    have s2:=Z02 (o:=.lst (ys++ws)) hl2
    refine⟨l2,_,rfl,.inl ⟨SqL.of Z00,fun p hp=>?_⟩⟩
    have s3:=Z02 (o:=.tup (ys++ws)) hp
    have sA:=(s1.trans s2).trans s3
    exact k p _ sA (.tup Z00 (IsThs.app _ (IsThs.kp (Kp.of sA) hys) (IsThs.kp (Kp.of sA) hws)))
theorem Ze3:FnScope ["_law_e"] ["_law_e"] (Z06 Z6e):=⟨rfl,rfl,rfl,by decide+kernel,rfl,by decide+kernel,by decide+kernel⟩
theorem Zb3 {f fP:Addr}{fd dP:FuncData}(F:Fun K "_law_nodes" "_law_nodes" Z6e f fd)(b:Binds K fd ["_law_e"] [])(m:mg "_law_nodes"=some (.ref f))(T:TxtT mg)(KI:Kits K)(hsum:mg "sum"=none)
  (FP:Fun K "_law_parts" "_law_parts" Z25 fP dP) (bP:Binds K dP ["_law_e"] []) (mP:mg "_law_parts"=some (.ref fP)):∀N,FnOk P w K mg base CX0 (N+2) f fd ["_law_e"] ((Z6o S) N):=by
 have GP:FnOk P w K mg base CX0 1 fP dP ["_law_e"] spLawParts:=Z1g FP T KI
 intro N
 induction N with
 |zero=>
  refine F.ok Ze3 (fun vs H Q E h=>?_) (fun cdv A outer s H vs Q E hr h=>?_)
  ·obtain⟨v,t,rfl,_⟩:=h
   rfl
  ·obtain⟨v,t,rfl,_,h,_⟩:=h
   exact h.elim
 |succ N ih=>
  refine F.ok Ze3 (fun vs H Q E h=>?_) (fun cdv A outer s H vs Q E hr h=>?_)
  ·obtain⟨v,t,rfl,_⟩:=h
   rfl
  ·obtain⟨v,t,rfl,hv,hD,k⟩:=h
   have hsz:sizeLine=16777216:=sizeLine_eq
   have hr1:Room 1 _:=hr.mono (by omega)
   refine⟨_,Z07 (Z0h (Z0i Z1h Z03 (Z0n (Zaw rfl) (by rfl) hsum (by decide+kernel) (Z08 (Z1s (N':=["_law_part"]) (src:=[none]) rfl (Z0m (Z06 Z6e) rfl ["_law_e"] rfl (by decide+kernel)) (Z1v (Z05 GP hr1 (by rfl) mP FP.kp bP .nil Z0e (Z0d (pv 0) Z01)))
    (fun cl C ex s0 H0=>⟨Z0s (i:=0) (nd1 _) rfl (Or.inl rfl),Z24,Z05 ih hr (by rfl) m F.kp b .nil Z0e (Z0d (pv 0) Z01)⟩)) Z01)))),?_⟩
   obtain⟨w0,hd,ks,rfl,h1,h2,h3,h4,h5,h6⟩:=hD
   have nk:∀k∈ks,L2.isTup k=true:=fun k hk=>(h6 k hk).isTup
   refine⟨_,rfl,v,w0,hd.map Th.at++ks,rfl,hv,by rw[length_append,length_map];omega,fun p ws H1 s1 hp0 hp hws=>?_⟩
   rw[Z2y nk] at hws
   have hl:=IsThs.len _ hws
   refine⟨p,rfl,⟨_,SqL.of hp⟩,Z19 (K:=K) (a:=p) (xs:=ws) (fun i ys σc H'=>∃(o:Option V) (ms:List Int),σc = [o]/\ys=ms.map V.int/\ms.length=i/\ms.sum=(Z1o (ks.take i):Nat)/\Same H1 H')
    ⟨none,[],rfl,rfl,rfl,by rw[take_zero];rfl,Same.refl _⟩ (fun i ys σc H' ⟨_,_,_,_,_,_,e⟩=>SqL.of (e _ _ hp)) ?_ ?_⟩
   ·rintro i x ys σc H' hx hi ⟨o,ms,rfl,rfl,hm,hsm,s2⟩
    obtain⟨t,ht,hxt⟩:=Z1f _ hws hx
    refine⟨by rw[length_map];omega,?_⟩
    refine⟨_,rfl,x,t,rfl,IsTh.kp (Kp.of s2) hxt,h6 t (mem_of_getElem? ht),fun H2 s3=>nx hi ⟨_,ms ++ [((cnt t:Nat):Int)],rfl,by rw[map_append];rfl,by rw[length_append,hm];rfl,?_,s2.trans s3⟩⟩
    rw[take_add_one,ht,List.sum_append,hsm]
    show _=((Z1o (ks.take i ++ [t]):Nat):Int)
    rw[Z2r]
    simp
   ·rintro ys σc H' ⟨o,ms,rfl,rfl,hm,hsm,s2⟩ q hq
    rw[take_of_length_le (by omega)] at hsm
    refine⟨q,ms,rfl,SqL.of Z00,_,_,rfl,rfl,?_⟩
    have kk:=k _ (s1.trans (s2.trans (Z02 (o:=.lst (ms.map V.int)) hq)))
    rw[Z18 nk] at kk
    rw[hsm]
    simpa using kk
end
structure HW (K:PySem.W.Frag)(mg:Str->Option Value)(fP fW:Addr)(dP dW:FuncData):Prop where
 T:TxtT mg
 KI:Kits K
 P:Fun K "_law_parts" "_law_parts" Z25 fP dP
 bP:Binds K dP ["_law_e"] []
 mP:mg "_law_parts"=some (.ref fP)
 W:Fun K "_law_with" "_law_with" Zc5 fW dW
 bW:Binds K dW ["_law_e","_law_inner"] []
 mW:mg "_law_with"=some (.ref fW)
mutual
theorem Z9l {H H':Hp}{a:Addr}{xs:List V}(h:H a=some (.lst xs))(b:But a H H'):∀{v:V} {t:Th},IsTh H v t->plT t=true->IsTh H' v t
 |_,_,.at f,_=>.at f
 |_,_,.tup e r,p=>by
  rw[plT] at p
  exact .tup (b _ _ e (Z3i e h (by intro q;cases q))) (Z8c h b r p)
 |_,_,.lst e r,p=>by rw[plT] at p;cases p
theorem Z8c {H H':Hp}{a:Addr}{xs:List V}(h:H a=some (.lst xs))(b:But a H H'):∀{vs:List V} {ts:List Th},IsThs H vs ts->Z44 ts=true->IsThs H' vs ts
 |_,_,.nil,_=>.nil
 |_,_,.cons e r,p=>by
  rw[Z44,Bool.and_eq_true] at p
  exact .cons (Z9l h b e p.1) (Z8c h b r p.2)
end
theorem Zb4 {vs:List V}{i:Nat}{x:V}(h:vs[i]? = some x):atI vs (0+(i:Int))=some x:=by
 rw[Int.zero_add]
 exact Z1r h
section
variable {S:SS}
theorem Z3q {n:Nat}{t:Th}(h:(PfT S) n t):1<=cnt t:=by
 cases n with
 |zero=>exact h.elim
 |succ n=>
  obtain⟨w,hd,ks,rfl,_⟩:=h
  unfold nd
  rw[cnt]
  omega
theorem Za8 {w:Str}{hd:List V}{ks ks':List Th}(h:∀k∈ks,L2.isTup k=true):Th.tup (Z9k (.at (.str w)::(hd.map Th.at++ks))++ks')=nd w hd ks':=by
 rw[Z6n h]
 rfl
end
def bdS (k l:Th):Nat:=Th.sz k+cnt k*Th.sz l
inductive spSpoilt_ (S:SS)(N M:Nat)(vs:List V)(H:Hp)(Q:VK):Prop
 |mk (v vl:V) (z:Int) (t l:Th) (_:vs = [v,.int z,vl]) (_:IsTh H v t) (_:(PfT S) N t) (_:IsTh H vl l) (_:(PfT S) M l) (_:∀(v':V) (t':Th) H',Same H H'->IsTh H' v' t'->(PfT S) (N+M) t'->Th.sz t'<=bdS t l->Q v' H'):spSpoilt_ S N M vs H Q
def Z40 (S:SS)(N M:Nat):Sp:=fun vs H Q _=>spSpoilt_ S N M vs H Q
theorem Zij {H:Hp}:∀(vs:List V) {us:List Th} (i:Nat) {v:V} {t:Th},IsThs H vs us->IsTh H v t->IsThs H (vs.set i v) (us.set i t):=by
 intro vs
 induction vs with
 |nil=>intro us i v t h _;cases h;exact .nil
 |cons w vs ih=>
  intro us i v t h hv
  cases h with
  |cons a b=>
   cases i with
   |zero=>exact .cons hv b
   |succ i=>exact .cons a (ih i b hv)
theorem Zm8 {n:Nat}{i:Nat}(h:i<n):ixN n (0+(i:Int))=some i:=by
 unfold ixN
 rw[if_pos (by omega),if_pos (by omega)]
 congr 1
 omega
theorem Zks {l:Th}:∀(us ks:List Th),us.length=ks.length->(∀(j:Nat) (u k:Th),us[j]? = some u->ks[j]? = some k->Th.sz u<=bdS k l)->szs us<=szs ks+Z1o ks*Th.sz l:=by
 intro us
 induction us with
 |nil=>intro ks _ _;rw[szs];exact Nat.zero_le _
 |cons u us ih=>
  intro ks hl h
  match ks,hl with
  |k::ks,hl=>
   have h1:=h 0 u k rfl rfl
   have h2:=ih ks (by simpa using hl) fun j u k a b=>h (j+1) u k (by simpa using a) (by simpa using b)
   rw[szs,szs,Z1o,Nat.add_mul]
   unfold bdS at h1
   omega
theorem Zik {w:Str}{hd:List V}{ks:List Th}:Th.sz (nd w hd ks)=1+(1+(szs (hd.map Th.at)+szs ks)):=by
 unfold nd
 rw[Th.sz,szs,Zdn,Th.sz]
section
variable {S:SS}{P:Program}{w:World}{K:PySem.W.Frag}{mg:Str->Option Value}{base:Heap}
theorem scSpoilt:FnScope ["_law_e","_law_at","_law_leaf_here","_law_inner","_law_k","_law_long"] ["_law_e","_law_at","_law_leaf_here"] (Z06 Z6f):=⟨rfl,rfl,rfl,by decide+kernel,rfl,by decide+kernel,by decide+kernel⟩
theorem Z9m {f fP fW fN:Addr}{fd dP dW dN:FuncData}(F:Fun K "_law_spoilt" "_law_spoilt" Z6f f fd)(b:Binds K fd ["_law_e","_law_at","_law_leaf_here"] [])(m:mg "_law_spoilt"=some (.ref f))(U:HW K mg fP fW dP dW)(hrange:mg "range"=none)(hsum:mg "sum"=none)
  (FN:Fun K "_law_nodes" "_law_nodes" Z6e fN dN) (bN:Binds K dN ["_law_e"] []) (mN:mg "_law_nodes"=some (.ref fN)) (M:Nat):∀N,FnOk P w K mg base CX0 (N+3) f fd ["_law_e","_law_at","_law_leaf_here"] ((Z40 S) N M):=by
 have GP:FnOk P w K mg base CX0 1 fP dP ["_law_e"] spLawParts:=Z1g U.P U.T U.KI
 have GW:FnOk P w K mg base CX0 1 fW dW ["_law_e","_law_inner"] spWith:=Z8b U.W U.T U.KI
 have GN:∀N,FnOk P w K mg base CX0 (N+2) fN dN ["_law_e"] ((Z6o S) N):=Zb3 FN bN mN U.T U.KI hsum U.P U.bP U.mP
 intro N
 induction N with
 |zero=>
  refine F.ok scSpoilt (fun vs H Q E h=>?_) (fun cdv A outer s H vs Q E hr h=>?_)
  ·obtain⟨v,vl,z,t,l,rfl,_⟩:=h
   rfl
  ·obtain⟨v,vl,z,t,l,rfl,_,h,_⟩:=h
   exact h.elim
 |succ N ih=>
  refine F.ok scSpoilt (fun vs H Q E h=>?_) (fun cdv A outer s H vs Q E hr h=>?_)
  ·obtain⟨v,vl,z,t,l,rfl,_⟩:=h
   rfl
  ·obtain⟨v,vl,z,t,l,rfl,hv,hD,hvl,hl,k⟩:=h
   have hsz:sizeLine=16777216:=sizeLine_eq
   have hr1:Room 1 _:=hr.mono (by omega)
   have hrN:Room (N+2) _:=hr.mono (by omega)
   refine'⟨?tt,?body,?fin⟩
   case body=>
    refine' Z04 ?s1 (Z04 ?s2 (Z0l ?s3 (Z04 ?s4 (Z07 ?s5))))
    case s1=>exact Z0x (Z0b Z1d (pv 1) Z03 (Z0k _)) (Z07 (Z0h (pv 2))) Z0f
    case s2=>exact Z0c (i:=3) scSpoilt.nd rfl (Or.inl rfl) (Z05 GP hr1 (by rfl) U.mP U.P.kp U.bP .nil Z0e (Z0d (pv 0) Z01))
    case s3=>exact Z0c (i:=1) scSpoilt.nd rfl (Or.inl rfl) (Z0i Z1l (pv 1) Z03)
    case s4=>
     refine' Z43 PassesOwn.never rfl (Z1y (by rfl) hrange (Z2x (Z0n Z0o (by rfl) U.T.len PySem.boot_len (Z0d (pv 3) Z01)) Z01)) (Z0s (i:=4) scSpoilt.nd rfl (Or.inl rfl)) (Z04 ?b1 (Z0l ?b2 (Z07 ?b3)))
     case b1=>exact Z0c (i:=5) scSpoilt.nd rfl (Or.inl rfl) (Z05 (GN N) hrN (by rfl) mN FN.kp bN .nil Z0e (Z08 (Z0q Z0w (pv 3) (pv 4) (fun _ _=>rfl)) Z01))
     case b2=>
      refine' Z0x ?c (Z07 ?d1) Z0f
      case c=>exact Zfh Zlr Z9x Z03 (pv 1) (pv 5)
      case d1=>exact Zah (Z05 ih hr (by rfl) m F.kp b .nil Z0e (Z08 (Z0q Z0w (pv 3) (pv 4) (fun _ _=>rfl)) (Z0d (pv 1) (Z0d (pv 2) Z01)))) (Zju (pv 3) (pv 4) Zfl)
     case b3=>exact Z0c (i:=1) scSpoilt.nd rfl (Or.inl rfl) (Z0i Z1l (pv 1) (pv 5))
    case s5=>exact Z0h (Z05 GW hr1 (by rfl) U.mW U.W.kp U.bW .nil Z0e (Z0d (pv 0) (Z0d (pv 3) Z01)))
   case fin=>
    have hct:=Z3q hD
    have pD:=hD
    obtain⟨w0,hd,kt,rfl,h1,h2,h3,h4,h5,h6⟩:=hD
    have nk:∀k∈kt,L2.isTup k=true:=fun k hk=>(h6 k hk).isTup
    refine⟨_,rfl,rfl,_,rfl,Z1a (fun g=>?_) (fun g=>?_)⟩
    ·refine⟨_,rfl,k vl l H (Same.refl _) hvl (hl.le (by omega)) ?_⟩
     unfold bdS
     have:=Nat.mul_le_mul_right (Th.sz l) hct
     omega
    ·refine⟨_,rfl,v,w0,hd.map Th.at++kt,rfl,hv,by rw[length_append,length_map];omega,fun p ws H1 s1 hp0 hp hws=>?_⟩
     rw[Z2y nk] at hws
     have hwl:=IsThs.len _ hws
     refine⟨fun σ' H'=>σ' = [some v,some (.int (z-1)),some vl,some (.ref p),none,none]/\H'=H1,⟨_,rfl,_,_,rfl,rfl,rfl,rfl⟩,?_⟩
     rintro σ3 H3 ⟨rfl,rfl⟩
     refine⟨_,rfl,p,ws,rfl,.inl (SqL.of hp),(ws.length:Int),rfl,by omega,by omega,Z31 (fun i σ' H'=>∃(z':Int) (o4 o5:Option V) (us:List Th) (ws':List V),σ' = [some v,some (.int z'),some vl,some (.ref p),o4,o5]/\But p H3 H'/\H' p=some (.lst ws')/\IsThs H' ws' us/\us.length=kt.length/\(∀u∈us,(PfT S) (N+M) u)/\(∀j,i<=j->us[j]? = kt[j]?)/\∀(j:Nat) (u k:Th),us[j]? = some u->kt[j]? = some k->Th.sz u<=bdS k l)
      ⟨z-1,none,none,kt,ws,rfl,But.refl _ _,hp,hws,rfl,fun u hu=>(h6 u hu).le (by omega),fun _ _=>rfl,fun j u k a b=>?_⟩ ?_ ?_⟩
     ·rw[a] at b
      cases b
      exact Nat.le_add_right _ _
     ·rintro i σ' H' hi ⟨z',o4,o5,us,ws',rfl,b2,hp2,hws2,hul,hupf,hsame,hbd⟩
      have hi':i<kt.length:=by omega
      have hlw:=IsThs.len _ hws2
      have hki:kt[i]? = some kt[i]:=List.getElem?_eq_getElem hi'
      have hui:us[i]? = some kt[i]:=by rw[hsame i (Nat.le_refl _)];exact hki
      obtain⟨x,hx,hxt⟩:=Zkf _ hws2 hui
      have hm:=h6 _ (getElem_mem hi')
      refine⟨_,rfl,_,rfl,p,ws',0+(i:Int),x,rfl,rfl,SqL.of hp2,Zb4 hx,x,kt[i],rfl,hxt,hm,fun H4 s4=>?_⟩
      have hp4:=s4 _ _ hp2
      have b4:=b2.trans (But.of (d:=p) s4)
      have hws4:=IsThs.kp (Kp.of s4) hws2
      refine⟨fun σ' H'=>∃(o5:Option V) (us:List Th) (ws':List V),σ' = [some v,some (.int z'),some vl,some (.ref p),some (.int (0+(i:Int))),some (.int (cnt kt[i]:Nat))]/\But p H3 H'/\H' p=some (.lst ws')/\IsThs H' ws' us/\us.length=kt.length/\(∀u∈us,(PfT S) (N+M) u)/\(∀j,i+1<=j->us[j]? = kt[j]?)/\∀(j:Nat) (u k:Th),us[j]? = some u->kt[j]? = some k->Th.sz u<=bdS k l,?_,?_⟩
      ·have stay:∃(o5:Option V) (us:List Th) (ws':List V),[some v,some (.int z'),some vl,some (.ref p),some (.int (0+(i:Int))),some (.int (cnt kt[i]:Nat))] = [some v,some (.int z'),some vl,some (.ref p),some (.int (0+(i:Int))),some (.int (cnt kt[i]:Nat))]/\But p H3 H4/\H4 p=some (.lst ws')/\IsThs H4 ws' us/\us.length=kt.length/\(∀u∈us,(PfT S) (N+M) u)/\(∀j,i+1<=j->us[j]? = kt[j]?)/\∀(j:Nat) (u k:Th),us[j]? = some u->kt[j]? = some k->Th.sz u<=bdS k l:=
        ⟨none,us,ws',rfl,b4,hp4,hws4,hul,hupf,fun j hj=>hsame j (by omega),hbd⟩
       refine⟨_,rfl,_,_,rfl,rfl,_,rfl,Z1a (fun g1=>⟨_,rfl,_,_,rfl,rfl,_,rfl,Z1a (fun g2=>?_) (fun g2=>stay)⟩) (fun g1=>⟨_,rfl,Za0 stay⟩)⟩
       have hxt4:=IsTh.kp (Kp.of s4) hxt
       have hvl4:=Z9l hp b4 (IsTh.kp (Kp.of s1) hvl) (PfT.pl M hl)
       refine⟨_,rfl,_,rfl,p,ws',0+(i:Int),x,rfl,rfl,SqL.of hp4,Zb4 hx,_,rfl,_,rfl,x,vl,z',kt[i],l,rfl,hxt4,hm,hvl4,hl,fun v' t' H5 s5 hv5 pf5 sz5=>?_⟩
       have hp5:=s5 _ _ hp4
       refine⟨_,rfl,_,rfl,p,ws',0+(i:Int),i,rfl,rfl,hp5,Zm8 (by omega),?_⟩
       have bu:But p H5 (upd H5 p (.lst (ws'.set i v'))):=But.upd
       refine⟨none,us.set i t',ws'.set i v',rfl,(b4.trans (But.of s5)).trans bu,Z00,?_,by rw[List.length_set];exact hul,?_,?_,?_⟩
       ·refine Zij _ i (Z8c hp5 bu (IsThs.kp (Kp.of s5) hws4) (Z2v fun u hu=>PfT.pl _ (hupf u hu))) (Z9l hp5 bu hv5 (PfT.pl _ pf5))
       ·intro u hu
        rcases List.mem_or_eq_of_mem_set hu with y|y
        ·exact hupf u y
        ·rw[y];exact pf5
       ·intro j hj
        rw[List.getElem?_set_ne (by omega)]
        exact hsame j (by omega)
       ·intro j u k a b
        by_cases hji:j=i
        ·subst hji
         rw[List.getElem?_set_self (by omega)] at a
         cases a
         rw[hki] at b
         cases b
         exact sz5
        ·rw[List.getElem?_set_ne (Ne.symm hji)] at a
         exact hbd j u k a b
      ·rintro σ5 H5 ⟨_,us5,ws5,rfl,q1,q2,q3,q4,q5,q6,q7⟩
       exact⟨_,rfl,_,rfl,_,_,rfl,rfl,_,_,_,us5,ws5,rfl,q1,q2,q3,q4,q5,q6,q7⟩
     ·rintro σ' H' ⟨z',o4,o5,us,ws',rfl,b2,hp2,hws2,hul,hupf,hsame,hbd⟩
      have hv2:=Z9l hp b2 (IsTh.kp (Kp.of s1) hv) (PfT.pl _ pD)
      have sm:Same H H':=fun c o e=>b2 c o (s1 _ _ e) (Z0g e hp0)
      refine⟨_,rfl,_,rfl,v,p,_,us,ws',rfl,hv2,by rw[length_cons,length_append,length_map];omega,hp2,hws2,by omega,fun r H3 s3 hr3=>?_⟩
      rw[Za8 nk] at hr3
      refine k _ _ _ (sm.trans s3) hr3 ?_ ?_
      ·rw[Nat.add_right_comm]
       exact⟨w0,hd,us,rfl,h1,h2,fun z=>⟨(h3 z).1,by rw[hul];exact(h3 z).2⟩,by rw[hul];exact h4,by omega,hupf⟩
      ·have:=Zks us kt hul hbd
       unfold bdS
       rw[Zik,Zik,Z18 nk,Nat.add_mul]
       omega
end
theorem Z16 (v:V)(vs:List V):atI (v::vs) 0=some v:=Z1r (j:=0) rfl
theorem Z15 (u v:V)(vs:List V):atI (u::v::vs) 1=some v:=Z1r (j:=1) rfl
def iOf:List Th->Int
 | .at (.int i)::_=>i
 |_=>0
def nOf:List Th->Str
 | .at (.str s)::_=>s
 |_=>""
def wOf:List Th->Str
 | .at (.str s)::_=>s
 |_=>""
def wkN (ρ : Str->Int)(xs:List Th)(inner:Int):Int:=if wOf xs="again" then 1+iOf (xs.drop 1)*inner else if wOf xs="call" then 1+inner + ρ (nOf (xs.drop 1)) else 1+inner
mutual
def wk (ρ : Str->Int):Th->Int
 | .tup xs=>wkN ρ xs (wks ρ xs)
 | .at _=>0
 | .lst _=>0
def wks (ρ : Str->Int):List Th->Int
 |[]=>0
 |x::xs=>wk ρ x+wks ρ xs
end
theorem Ze4 (ρ : Str->Int):∀a b:List Th,wks ρ (a++b)=wks ρ a+wks ρ b:=by
 intro a
 induction a with
 |nil=>intro b;simp [wks]
 |cons x a ih=>intro b;rw[cons_append,wks,wks,ih];omega
theorem Zil (ρ : Str->Int):∀hd:List V,wks ρ (hd.map Th.at)=0:=by
 intro hd
 induction hd with
 |nil=>simp [wks]
 |cons x a ih=>rw[map_cons,wks,ih,wk];rfl
theorem Zm9 (ρ : Str->Int)(w:Str)(hd:List V)(ks:List Th):wk ρ (nd w hd ks)=if w="again" then 1+iOf (hd.map Th.at++ks)*wks ρ ks else if w="call" then 1+wks ρ ks + ρ (nOf (hd.map Th.at++ks)) else 1+wks ρ ks:=by
 have e:wks ρ (.at (.str w)::(hd.map Th.at++ks))=wks ρ ks:=by
  rw[wks,wk,Ze4,Zil]
  omega
 unfold nd
 rw[wk,e]
 rfl
def Zim (S:SS)(ρ : Str->Int)(kvs:List (Key×V)):Prop:=∀x∈S.c,Z27 kvs (Sum.inr x)=some (.int (ρ x))
inductive spLawWork_ (S:SS)(N:Nat)(vs:List V)(H:Hp)(Q:VK):Prop
 |mk (v:V) (wa:Addr) (t:Th) (ρ : Str->Int) (kvs:List (Key×V)) (_:vs = [v,.ref wa]) (_:IsTh H v t) (_:PfT S N t) (_:H wa=some (.dK kvs)) (_:Zim S ρ kvs) (_:∀H',Same H H'->Q (.int (wk ρ t)) H'):spLawWork_ S N vs H Q
def Z6p (S:SS)(N:Nat):Sp:=fun vs H Q _=>spLawWork_ S N vs H Q
theorem Zma:(["_law_works","_law_part"]:List Str).Nodup:=by decide+kernel
section
variable {S:SS}{P:Program}{w:World}{K:PySem.W.Frag}{mg:Str->Option Value}{base:Heap}
theorem scLawWork:FnScope ["_law_e","_law_works","_law_inner"] ["_law_e","_law_works"] (Z06 Z3y):=⟨rfl,rfl,rfl,by decide+kernel,rfl,by decide+kernel,by decide+kernel⟩
theorem Zcc {f fP:Addr}{fd dP:FuncData}(F:Fun K "_law_work" "_law_work" Z3y f fd)(b:Binds K fd ["_law_e","_law_works"] [])(m:mg "_law_work"=some (.ref f))(T:TxtT mg)(KI:Kits K)(hsum:mg "sum"=none)
  (FP:Fun K "_law_parts" "_law_parts" Z25 fP dP) (bP:Binds K dP ["_law_e"] []) (mP:mg "_law_parts"=some (.ref fP)):∀N,FnOk P w K mg base CX0 (N+2) f fd ["_law_e","_law_works"] (Z6p S N):=by
 have GP:FnOk P w K mg base CX0 1 fP dP ["_law_e"] spLawParts:=Z1g FP T KI
 intro N
 induction N with
 |zero=>
  refine F.ok scLawWork (fun vs H Q E h=>?_) (fun cdv A outer s H vs Q E hr h=>?_)
  ·obtain⟨v,wa,t,ρ,kvs,rfl,_⟩:=h
   rfl
  ·obtain⟨v,wa,t,ρ,kvs,rfl,_,h,_⟩:=h
   exact h.elim
 |succ N ih=>
  refine F.ok scLawWork (fun vs H Q E h=>?_) (fun cdv A outer s H vs Q E hr h=>?_)
  ·obtain⟨v,wa,t,ρ,kvs,rfl,_⟩:=h
   rfl
  ·obtain⟨v,wa,t,ρ,kvs,rfl,hv,hD,hwa,hW,k⟩:=h
   have hsz:sizeLine=16777216:=sizeLine_eq
   have hr1:Room 1 _:=hr.mono (by omega)
   have hu:=Zkb hr
   refine'⟨?tt,?body,?fin⟩
   case body=>
    refine' Z04 ?s1 ?r1
    case s1=>
     refine' Z0c (i:=2) scLawWork.nd rfl (Or.inl rfl) (Z0n (Zaw rfl) (by rfl) hsum (by decide+kernel) (Z08 ?c Z01))
     case c=>
      refine' Z1s (N':=["_law_works","_law_part"]) (src:=[some 1,none]) ?k1 ?k5 ?k6 ?k7
      case k1=>rfl
      case k5=>exact Z0m (Z06 Z3y) rfl ["_law_e","_law_works","_law_inner"] rfl (by decide+kernel)
      case k6=>exact Z1v (Z05 GP hr1 (by rfl) mP FP.kp bP .nil Z0e (Z0d (pv 0) Z01))
      case k7=>exact fun cl C ex s0 H0=>⟨Z0s (i:=1) Zma rfl (Or.inl rfl),Z24,Z05 ih hr (by rfl) m F.kp b .nil Z0e (Z0d (pv 1) (Z0d (pv 0) Z01))⟩
    case r1=>
     refine' Z04 ?s2 (Z04 ?s3 (Z07 ?s4))
     case s2=>exact Z0x (Z0b Z1d (Z0q Z0v (pv 0) Z03 (fun _ _=>rfl)) Z09 (Z0k _)) (Z07 (Z0h (Z0i Z1h Z03 (Z0i Z1x (Z0q Z0v (pv 0) Z03 (fun _ _=>rfl)) (pv 2))))) Z0f
     case s3=>exact Z0x (Z0b Z1d (Z0q Z0v (pv 0) Z03 (fun _ _=>rfl)) Z09 (Z0k _)) (Z07 (Z0h (Z0i Z1h (Z0i Z1h Z03 (pv 2)) (Z0t hu (pv 1) (Z0q Z0v (pv 0) Z03 (fun _ _=>rfl)) (fun _ _=>rfl))))) Z0f
     case s4=>exact Z0h (Z0i Z1h Z03 (pv 2))
   case fin=>
    obtain⟨w0,hd,ks,rfl,h1,h2,h3,h4,h5,h6⟩:=hD
    have nk:∀k∈ks,L2.isTup k=true:=fun k hk=>(h6 k hk).isTup
    have hv':=hv
    unfold nd at hv'
    obtain⟨a,vs,rfl,ha,hvs⟩:=Z1b hv'
    refine⟨_,rfl,.ref a,w0,hd.map Th.at++ks,rfl,hv,by rw[length_append,length_map];omega,fun p ws H1 s1 hp0 hp hws=>?_⟩
    rw[Z2y nk] at hws
    have hl:=IsThs.len _ hws
    refine⟨p,rfl,⟨_,SqL.of hp⟩,Z19 (K:=K) (a:=p) (xs:=ws) (fun i ys σc H'=>∃(o:Option V) (ms:List Int),σc = [some (.ref wa),o]/\ys=ms.map V.int/\ms.length=i/\ms.sum=wks ρ (ks.take i)/\Same H1 H')
     ⟨none,[],rfl,rfl,rfl,by rw[take_zero];rfl,Same.refl _⟩ (fun i ys σc H' ⟨_,_,_,_,_,_,e⟩=>SqL.of (e _ _ hp)) ?_ ?_⟩
    ·rintro i x ys σc H' hx hi ⟨o,ms,rfl,rfl,hm,hsm,s2⟩
     obtain⟨t,ht,hxt⟩:=Z1f _ hws hx
     refine⟨by rw[length_map];omega,?_⟩
     refine⟨_,rfl,_,rfl,x,wa,t,ρ,kvs,rfl,IsTh.kp (Kp.of s2) hxt,h6 t (mem_of_getElem? ht),s2 _ _ (s1 _ _ hwa),hW,fun H2 s3=>nx hi ⟨_,ms ++ [wk ρ t],rfl,by rw[map_append];rfl,by rw[length_append,hm];rfl,?_,s2.trans s3⟩⟩
     rw[take_add_one,ht,List.sum_append,hsm]
     show _=wks ρ (ks.take i ++ [t])
     rw[Ze4,wks,wks]
     simp
    ·rintro ys σc H' ⟨o,ms,rfl,rfl,hm,hsm,s2⟩ q hq
     rw[take_of_length_le (by omega)] at hsm
     have sA:=s1.trans (s2.trans (Z02 (o:=.lst (ms.map V.int)) hq))
     refine⟨q,ms,rfl,SqL.of Z00,?_⟩
     rw[hsm]
     generalize upd H' q (.lst (ms.map V.int))=H2 at sA
     have ha2:=sA _ _ ha
     cases hvs with
     | @cons vh vr _ _ d1 d2=>
      obtain⟨rfl,_⟩:=Z1w d1
      have kk:=k H2 sA
      rw[Zm9] at kk
      refine⟨_,rfl,a,_,_,_,rfl,rfl,SqT.of ha2,Z16 _ _,rfl,_,rfl,Z1a (fun g=>?_) (fun g=>?_)⟩
      ·have hw:w0="again":=by
        have g':=of_decide_eq_true g
        injection g'
       obtain⟨i,rfl,hi0,hi5⟩:=h4.ag hw
       cases d2 with
       | @cons v2 vr2 _ _ d3 d4=>
        obtain⟨rfl,_⟩:=Z1w d3
        rw[if_pos hw] at kk
        exact⟨_,rfl,a,_,_,_,rfl,rfl,SqT.of ha2,Z15 _ _ _,_,rfl,_,_,rfl,rfl,.inl ⟨by omega,by omega⟩,_,_,rfl,rfl,kk⟩
      ·have hw:w0≠"again":=fun q=>g (by rw[q];decide+kernel)
       rw[if_neg hw] at kk
       refine⟨_,rfl,a,_,_,_,rfl,rfl,SqT.of ha2,Z16 _ _,rfl,_,rfl,Z1a (fun g=>?_) (fun g=>?_)⟩
       ·have hw2:w0="call":=by
         have g':=of_decide_eq_true g
         injection g'
        obtain⟨x,rfl,hxS⟩:=h4.ca hw2
        cases d2 with
        | @cons v2 vr2 _ _ d3 d4=>
         obtain⟨rfl,_⟩:=Z1w d3
         rw[if_pos hw2] at kk
         have hg:DGet H2 wa (.str x) (some (.int (ρ x))):=by
          have:=DGet.k (k:=Sum.inr x) (sA _ _ hwa)
          rw[hW x hxS] at this
          exact this
         exact⟨_,rfl,_,_,rfl,rfl,_,rfl,_,rfl,a,_,_,_,rfl,rfl,SqT.of ha2,Z15 _ _ _,wa,_,rfl,hg,_,_,rfl,rfl,kk⟩
       ·have hw2:w0≠"call":=fun q=>g (by rw[q];decide+kernel)
        rw[if_neg hw2] at kk
        exact⟨_,rfl,_,_,rfl,rfl,kk⟩
end
theorem Zmb (u v x:V)(vs:List V):atI (u::v::x::vs) 2=some x:=Z1r (j:=2) rfl
theorem Zlj (u v x y:V)(vs:List V):atI (u::v::x::y::vs) 3=some y:=Z1r (j:=3) rfl
inductive spRight_ (S:SS)(N:Nat)(vs:List V)(H:Hp)(Q:VK):Prop
 |mk (v:V) (bl:Addr) (t:Th) (bs:List Str) (_:vs = [v,.ref bl]) (_:IsTh H v t) (_:PfT S N t) (_:H bl=some (.lst (bs.map V.str))) (_:bs.length+N<=1000) (_:∀(b:Bool) H',Same H H'->Q (.bl b) H'):spRight_ S N vs H Q
def Z8d (S:SS)(N:Nat):Sp:=fun vs H Q _=>spRight_ S N vs H Q
theorem Zmc:(["_law_bound_here","_law_part"]:List Str).Nodup:=by decide+kernel
section
variable {S:SS}{P:Program}{w:World}{K:PySem.W.Frag}{mg:Str->Option Value}{base:Heap}
theorem Ze5:FnScope ["_law_e","_law_bound_here"] ["_law_e","_law_bound_here"] (Z06 Z7m):=⟨rfl,rfl,rfl,by decide+kernel,rfl,by decide+kernel,by decide+kernel⟩
theorem Zg9 {f fP:Addr}{fd dP:FuncData}(F:Fun K "_law_right" "_law_right" Z7m f fd)(b:Binds K fd ["_law_e","_law_bound_here"] [])(m:mg "_law_right"=some (.ref f))(T:TxtT mg)(KI:Kits K)(hall:mg "all"=none)
  (FP:Fun K "_law_parts" "_law_parts" Z25 fP dP) (bP:Binds K dP ["_law_e"] []) (mP:mg "_law_parts"=some (.ref fP)):∀N,FnOk P w K mg base CX0 (N+2) f fd ["_law_e","_law_bound_here"] (Z8d S N):=by
 have GP:FnOk P w K mg base CX0 1 fP dP ["_law_e"] spLawParts:=Z1g FP T KI
 intro N
 induction N with
 |zero=>
  refine F.ok Ze5 (fun vs H Q E h=>?_) (fun cdv A outer s H vs Q E hr h=>?_)
  ·obtain⟨v,bl,t,bs,rfl,_⟩:=h
   rfl
  ·obtain⟨v,bl,t,bs,rfl,_,h,_⟩:=h
   exact h.elim
 |succ N ih=>
  refine F.ok Ze5 (fun vs H Q E h=>?_) (fun cdv A outer s H vs Q E hr h=>?_)
  ·obtain⟨v,bl,t,bs,rfl,_⟩:=h
   rfl
  ·obtain⟨v,bl,t,bs,rfl,hv,hD,hbl,hbz,k⟩:=h
   have hsz:sizeLine=16777216:=sizeLine_eq
   have hr1:Room 1 _:=hr.mono (by omega)
   refine'⟨?tt,?body,?fin⟩
   case body=>
    refine' Z0l ?s1 (Z04 ?s2 (Z07 ?s3))
    case s1=>
     refine' Z0x ?c (Z07 (Z0h Z5o)) Z0f
     case c=>exact(Z5h (Z0b Z1d (Z0q Z0v (pv 0) Z03 (fun _ _=>rfl)) Z09 (Z0k _)) (Z3j (Z0b Z2p (Z0q Z0v (pv 0) Z03 (fun _ _=>rfl)) (pv 1) (by with_unfolding_all rfl)))).pt
    case s2=>
     refine' Z0x ?c (Z07 (Z0h ?r)) Z0f
     case c=>exact Z0b Z1d (Z0q Z0v (pv 0) Z03 (fun _ _=>rfl)) Z09 (Z0k _)
     case r=>
      refine' Zjt ?r1 (Zjs ?r2)
      case r1=>exact Z05 ih hr (by rfl) m F.kp b .nil Z0e (Z08 (Z0q Z0v (pv 0) Z03 (fun _ _=>rfl)) (Z0d (pv 1) Z01))
      case r2=>exact Z05 ih hr (by rfl) m F.kp b .nil Z0e (Z08 (Z0q Z0v (pv 0) Z03 (fun _ _=>rfl)) (Z08 (Z0i Z2q (pv 1) (Z0y (Z08 (Z0q Z0v (pv 0) Z03 (fun _ _=>rfl)) Z01))) Z01))
    case s3=>
     refine' Z0h (Z0n (Za1 rfl) (by rfl) hall (by decide+kernel) (Z08 ?c Z01))
     case c=>
      refine' Z1s (N':=["_law_bound_here","_law_part"]) (src:=[some 1,none]) ?k1 ?k5 ?k6 ?k7
      case k1=>rfl
      case k5=>exact Z0m (Z06 Z7m) rfl ["_law_e","_law_bound_here"] rfl (by decide+kernel)
      case k6=>exact Z1v (Z05 GP hr1 (by rfl) mP FP.kp bP .nil Z0e (Z0d (pv 0) Z01))
      case k7=>exact fun cl C ex s0 H0=>⟨Z0s (i:=1) Zmc rfl (Or.inl rfl),Z24,Z05 ih hr (by rfl) m F.kp b .nil Z0e (Z0d (pv 1) (Z0d (pv 0) Z01))⟩
   case fin=>
    obtain⟨w0,hd,ks,rfl,h1,h2,h3,h4,h5,h6⟩:=hD
    have nk:∀k∈ks,L2.isTup k=true:=fun k hk=>(h6 k hk).isTup
    have hv':=hv
    unfold nd at hv'
    obtain⟨a,vs,rfl,ha,hvs⟩:=Z1b hv'
    cases hvs with
    | @cons vh vr _ _ d1 d2=>
     obtain⟨rfl,_⟩:=Z1w d1
     refine⟨fun σ' H'=>σ' = [some (.ref a),some (.ref bl)]/\H'=H,?_,?_⟩
     ·refine⟨_,rfl,a,_,_,_,rfl,rfl,SqT.of ha,Z16 _ _,rfl,_,rfl,Z1a (fun g=>?_) (fun g=>?_)⟩
      ·have hw:w0="set":=by
        have g':=of_decide_eq_true g
        injection g'
       obtain⟨x,rfl⟩:=h4.st (.inl hw)
       cases d2 with
       | @cons v2 vr2 _ _ d3 d4=>
        obtain⟨rfl,_⟩:=Z1w d3
        refine⟨_,rfl,a,_,_,_,rfl,rfl,SqT.of ha,Z15 _ _ _,_,rfl,bl,bs.map V.str,rfl,.inl (SqL.of hbl),rfl,Z1p bs,_,rfl,Z1a (fun _=>?_) (fun _=>⟨rfl,rfl⟩)⟩
        exact k false H (Same.refl _)
      ·exact Za0 ⟨rfl,rfl⟩
     rintro σ1 H1 ⟨rfl,rfl⟩
     refine⟨_,rfl,a,_,_,_,rfl,rfl,SqT.of ha,Z16 _ _,rfl,_,rfl,Z1a (fun g=>?_) (fun g=>?_)⟩
     ·have hw:w0="let":=by
       have g':=of_decide_eq_true g
       injection g'
      obtain⟨⟨x,rfl⟩,hk2⟩:=h3 hw
      match ks,hk2,h6,hv,hv',d2 with
      |[k1,k2],_,h6,hv,hv',d2=>
       cases d2 with
       | @cons v2 vr2 _ _ d3 d4=>
        obtain⟨rfl,_⟩:=Z1w d3
        cases d4 with
        | @cons v3 vr3 _ _ d5 d6=>
         cases d6 with
         | @cons v4 vr4 _ _ d7 d8=>
          refine⟨_,rfl,a,_,_,_,rfl,rfl,SqT.of ha,Zmb _ _ _ _,_,rfl,v3,bl,k1,bs,rfl,d5,h6 k1 (by simp),hbl,by omega,fun b1 H2 s2=>⟨b1,rfl,?_⟩⟩
          have ha2:=s2 _ _ ha
          refine Z1a (fun _=>?_) (fun _=>k false H2 s2)
          refine⟨_,rfl,a,_,_,_,rfl,rfl,SqT.of ha2,Zlj _ _ _ _ _,_,rfl,_,rfl,a,_,_,_,rfl,rfl,SqT.of ha2,Z15 _ _ _,(by show 1<=sizeLine;decide),fun c hc=>?_⟩
          have sc:=Z02 (o:=.lst [.str x]) hc
          refine⟨bl,c,bs.map V.str,[.str x],rfl,rfl,sc _ _ (s2 _ _ hbl),Z00,(by rw[length_map];show _+1<=_;omega),fun q hq=>?_⟩
          have sq:=Z02 (o:=.lst (bs.map V.str ++ [.str x])) hq
          have sA:=(s2.trans sc).trans sq
          refine⟨v4,q,k2,bs ++ [x],rfl,IsTh.kp (Kp.of sA) d7,h6 k2 (by simp),?_,by rw[length_append];show _+1+_<=_;omega,fun b2 H3 s3=>k b2 H3 (sA.trans s3)⟩
          rw[Z00,map_append]
          rfl
     ·refine⟨_,rfl,.ref a,w0,hd.map Th.at++ks,rfl,hv,by rw[length_append,length_map];omega,fun p ws H2 s1 hp0 hp hws=>?_⟩
      rw[Z2y nk] at hws
      have hl:=IsThs.len _ hws
      refine⟨p,rfl,⟨_,SqL.of hp⟩,Z19 (K:=K) (a:=p) (xs:=ws) (fun i ys σc H'=>∃(o:Option V) (ms:List Bool),σc = [some (.ref bl),o]/\ys=ms.map V.bl/\ms.length=i/\Same H2 H')
       ⟨none,[],rfl,rfl,rfl,Same.refl _⟩ (fun i ys σc H' ⟨_,_,_,_,_,e⟩=>SqL.of (e _ _ hp)) ?_ ?_⟩
      ·rintro i x ys σc H' hx hi ⟨o,ms,rfl,rfl,hm,s2⟩
       obtain⟨t,ht,hxt⟩:=Z1f _ hws hx
       refine⟨by rw[length_map];omega,?_⟩
       exact⟨_,rfl,_,rfl,x,bl,t,bs,rfl,IsTh.kp (Kp.of s2) hxt,h6 t (mem_of_getElem? ht),s2 _ _ (s1 _ _ hbl),by omega,fun b1 H3 s3=>nx hi ⟨_,ms ++ [b1],rfl,by rw[map_append];rfl,by rw[length_append,hm];rfl,s2.trans s3⟩⟩
      ·rintro ys σc H' ⟨o,ms,rfl,rfl,hm,s2⟩ q hq
       exact⟨q,ms,rfl,SqL.of Z00,k _ _ (s1.trans (s2.trans (Z02 (o:=.lst (ms.map V.bl)) hq)))⟩
end
end K10
namespace L2
open PySem PySem.Spec PyProof.Rows
section
variable {X:Cx}
inductive rIndexS (x:V)(vs:List V)(H:Hp)(Q:VK):Prop
 |mk (l:Addr) (ns:List Str) (i:Str) (j:Nat) (_:x = .ref l) (_:vs = [.str i]) (_:H l=some (.lst (ns.map V.str))) (_:ns[j]? = some i) (_:(∀m,m<j->ns[m]? ≠ some i)) (_:Q (.int (j:Nat)) H):rIndexS x vs H Q
theorem Ze6:MtR X "list.index" rIndexS:=by
 intro pins s σ H x vs v us Q I rx rv h
 obtain⟨l,ns,i,j,rfl,rfl,hH,hj,hno,q⟩:=h
 cases rx
 obtain⟨u,rfl,ru⟩:=rv.one
 obtain⟨tk,rfl⟩:=ru
 obtain⟨z,its,n,r,hl,e⟩:=I.lstM hH
 have hlen:its.length=ns.length:=by
  have:=r.length
  rw[length_map] at this
  exact this.symm
 have at':∀(m:Nat) (y:Value),its[m]? = some y->∃k t,ns[m]? = some k/\y = .str k t:=by
  intro m y hy
  have hm:m<ns.length:=by
   rw[<- hlen]
   exact(List.getElem?_eq_some_iff.mp hy).1
  obtain⟨u2,f2,r2⟩:=r.get (i:=m) (x:=.str ns[m]) (by rw[List.getElem?_map,List.getElem?_eq_getElem hm];rfl)
  rw[hy] at f2
  cases f2
  obtain⟨t,rfl⟩:=r2
  exact⟨_,t,List.getElem?_eq_getElem hm,rfl⟩
 have jl:j<its.length:=by
  rw[hlen]
  exact(List.getElem?_eq_some_iff.mp hj).1
 have val:∀(m:Nat) (hm:m<its.toArray.size),∃k t,ns[m]? = some k/\its.toArray[m] = .str k t:=fun m hm=>by
  simp only [size_toArray] at hm
  obtain⟨k,t,a1,a2⟩:=at' m its[m] (List.getElem?_eq_getElem hm)
  exact⟨k,t,a1,by simpa using a2⟩
 have hsz:sizeLine=16777216:=sizeLine_eq
 refine call_meets F.slot_list_index ⟨_,e,rfl⟩ F.entry_list_index (F.args_list_index_2 _ _) (SeqAt.list_indexAt l its.toArray n none #[] (.str i tk) (fun y=>match y with | .str k _=>k==i|_=>false) j (by simpa using jl) (by
  rw[length_map] at z
  omega) ?_ ?_) ⟨e,?_,?_⟩
 ·obtain⟨k,t,a1,a2⟩:=val j (by simpa using jl)
  rw[a2]
  rw[hj] at a1
  cases a1
  exact beq_self_eq_true _
 ·intro m hm hmj
  obtain⟨k,t,a1,a2⟩:=val m hm
  rw[a2]
  show(k==i)=false
  rw[beq_eq_false_iff_ne]
  intro w
  subst w
  exact hno m hmj a1
 ·intro y hy
  obtain⟨m,hm,rfl⟩:=Array.mem_iff_getElem.mp hy
  obtain⟨k,t,a1,a2⟩:=val m hm
  rw[a2]
  exact Z90 (y:=.str k) (x:=.str i) ⟨t,rfl⟩ ⟨tk,rfl⟩ rfl rfl
 ·exact⟨.int (j:Nat),H,I.tok _,⟨_,rfl⟩,q⟩
end
end L2
namespace K10
open PySem L2
inductive spTurned_ (S:SS)(N:Nat)(vs:List V)(H:Hp)(Q:VK):Prop
 |mk (v:V) (na oa:Addr) (t:Th) (T1 T2:List Str) (_:vs = [v,.ref na,.ref oa]) (_:IsTh H v t) (_:PfT S N t) (_:H na=some (.lst (T1.map V.str))) (_:H oa=some (.lst (T2.map V.str))) (_:T1.length=T2.length) (_:T1.length<=1000) (_:(∀x∈T2,NmU S x)) (_:∀(v':V) (t':Th) H',Same H H'->IsTh H' v' t'->PfT S N t'->cnt t'=cnt t->Q v' H'):spTurned_ S N vs H Q
def Z8e (S:SS)(N:Nat):Sp:=fun vs H Q _=>spTurned_ S N vs H Q
theorem Zkt:(["_law_names_here","_law_others","_law_part"]:List Str).Nodup:=by decide+kernel
theorem Zin (x:Str):inV (.str x) [.str "name",.str "set"]=true↔x="name"∨x="set":=by
 have e : [V.str "name",.str "set"]=(["name","set"]:List Str).map V.str:=rfl
 rw[e,Z29]
 simp
theorem Zga {x:Str}:∀{T:List Str},x∈T->∃j:Nat,T[j]? = some x/\∀q:Nat,q<j->T[q]? ≠ some x:=by
 intro T
 induction T with
 |nil=>intro h;cases h
 |cons y T ih=>
  intro h
  by_cases e:y=x
  ·exact⟨0,by rw[e];rfl,fun q hq=>by omega⟩
  ·rcases mem_cons.mp h with z|z
   ·exact absurd z.symm e
   ·obtain⟨j,h1,h2⟩:=ih z
    refine⟨j+1,h1,fun q hq=>?_⟩
    cases q with
    |zero=>intro w;exact e (by simpa using w)
    |succ q=>exact h2 q (by omega)
section
variable {S:SS}{P:Program}{w:World}{K:PySem.W.Frag}{mg:Str->Option Value}{base:Heap}
theorem scTurned:FnScope ["_law_e","_law_names_here","_law_others"] ["_law_e","_law_names_here","_law_others"] (Z06 Z58):=⟨rfl,rfl,rfl,by decide+kernel,rfl,by decide+kernel,by decide+kernel⟩
theorem Ze7 {f fP fW:Addr}{fd dP dW:FuncData}(F:Fun K "_law_turned" "_law_turned" Z58 f fd)(b:Binds K fd ["_law_e","_law_names_here","_law_others"] [])(m:mg "_law_turned"=some (.ref f))(U:HW K mg fP fW dP dW):
  ∀N,FnOk P w K mg base CX0 (N+2) f fd ["_law_e","_law_names_here","_law_others"] (Z8e S N):=by
 have GP:FnOk P w K mg base CX0 1 fP dP ["_law_e"] spLawParts:=Z1g U.P U.T U.KI
 have GW:FnOk P w K mg base CX0 1 fW dW ["_law_e","_law_inner"] spWith:=Z8b U.W U.T U.KI
 intro N
 induction N with
 |zero=>
  refine F.ok scTurned (fun vs H Q E h=>?_) (fun cdv A outer s H vs Q E hr h=>?_)
  ·obtain⟨v,na,oa,t,T1,T2,rfl,_⟩:=h
   rfl
  ·obtain⟨v,na,oa,t,T1,T2,rfl,_,h,_⟩:=h
   exact h.elim
 |succ N ih=>
  refine F.ok scTurned (fun vs H Q E h=>?_) (fun cdv A outer s H vs Q E hr h=>?_)
  ·obtain⟨v,na,oa,t,T1,T2,rfl,_⟩:=h
   rfl
  ·obtain⟨v,na,oa,t,T1,T2,rfl,hv,hD,hna,hoa,hTl,hT1,hlo,k⟩:=h
   have hsz:sizeLine=16777216:=sizeLine_eq
   have hr1:Room 1 _:=hr.mono (by omega)
   refine'⟨?tt,?body,?fin⟩
   case body=>
    refine' Z0l ?s1 (Z07 ?s2)
    case s1=>
     refine' Z0x ?c (Z07 ?b) Z0f
     case c=>exact(Z5h (Z0b Z2p (Z0q Z0v (pv 0) Z03 (fun _ _=>rfl)) (Z12 (Z17 Z09 (Z17 Z09 Z01))) (by with_unfolding_all rfl)) (Z3j (Z0b Z2p (Z0q Z0v (pv 0) Z03 (fun _ _=>rfl)) (pv 1) (by with_unfolding_all rfl)))).pt
     case b=>
      refine' Z0c (i:=0) scTurned.nd rfl (Or.inl rfl) (Z0i Z6b (Z12 (Z08 (Z0q Z0v (pv 0) Z03 (fun _ _=>rfl)) (Z08 ?x Z01))) (Z1e Z3n (pv 0) (Z1m Z03) Z1z))
      case x=>exact Z0q Z0w (pv 2) (Z92 PySem.F.plainAttrs_list PySem.F.slot_list_index PySem.F.type_list_index Ze6 (pv 1) (Z08 (Z0q Z0v (pv 0) Z03 (fun _ _=>rfl)) Z01)) (fun _ _=>rfl)
    case s2=>
     refine' Z0h (Z05 GW hr1 (by rfl) U.mW U.W.kp U.bW .nil Z0e (Z0d (pv 0) (Z08 ?c Z01)))
     case c=>
      refine' Z1s (N':=["_law_names_here","_law_others","_law_part"]) (src:=[some 1,some 2,none]) ?k1 ?k5 ?k6 ?k7
      case k1=>rfl
      case k5=>exact Z0m (Z06 Z58) rfl ["_law_e","_law_names_here","_law_others"] rfl (by decide+kernel)
      case k6=>exact Z1v (Z05 GP hr1 (by rfl) U.mP U.P.kp U.bP .nil Z0e (Z0d (pv 0) Z01))
      case k7=>exact fun cl C ex s0 H0=>⟨Z0s (i:=2) Zkt rfl (Or.inl rfl),Z24,Z05 ih hr (by rfl) m F.kp b .nil Z0e (Z0d (pv 2) (Z0d (pv 0) (Z0d (pv 1) Z01)))⟩
   case fin=>
    obtain⟨w0,hd,ks,rfl,h1,h2,h3,h4,h5,h6⟩:=hD
    have nk:∀k∈ks,L2.isTup k=true:=fun k hk=>(h6 k hk).isTup
    refine⟨fun σ' H'=>∃(a':Addr) (hd':List V),σ' = [some (.ref a'),some (.ref na),some (.ref oa)]/\Same H H'/\IsTh H' (.ref a') (nd w0 hd' ks)/\hd'.length<=1/\(∀v∈hd',plT (.at v)=true)/\(w0="let"->(∃x:Str,hd' = [.str x])/\ks.length=2)/\HdE S w0 hd' ks.length,?_,?_⟩
    ·have hv':=hv
     unfold nd at hv'
     obtain⟨a,vs,rfl,ha,hvs⟩:=Z1b hv'
     cases hvs with
     | @cons vh vr _ _ d1 d2=>
      obtain⟨rfl,_⟩:=Z1w d1
      refine⟨_,rfl,a,_,_,_,rfl,rfl,SqT.of ha,Z16 _ _,(by show 2<=sizeLine;decide),fun c hc=>?_⟩
      have sc:=Z02 (o:=.tup [.str "name",.str "set"]) hc
      have stay:∀H',Same H H'->∃(a':Addr) (hd':List V),[some (V.ref a),some (.ref na),some (.ref oa)] = [some (.ref a'),some (.ref na),some (.ref oa)]/\Same H H'/\IsTh H' (.ref a') (nd w0 hd' ks)/\hd'.length<=1/\(∀v∈hd',plT (.at v)=true)/\(w0="let"->(∃x:Str,hd' = [.str x])/\ks.length=2)/\HdE S w0 hd' ks.length:=
       fun H' s=>⟨a,hd,rfl,s,IsTh.kp (Kp.of s) hv,h1,h2,h3,h4⟩
      refine⟨c,[.str "name",.str "set"],rfl,.inr (SqT.of Z00),rfl,by decide+kernel,_,rfl,Z1a (fun g=>?_) (fun g=>Za0 (stay _ sc))⟩
      have hw:=(Zin w0).mp g
      obtain⟨x,rfl⟩:=h4.st (hw.symm)
      cases d2 with
      | @cons v2 vr2 _ _ d3 d4=>
       obtain⟨rfl,_⟩:=Z1w d3
       have ha2:=sc _ _ ha
       refine⟨_,rfl,a,_,_,_,rfl,rfl,SqT.of ha2,Z15 _ _ _,_,rfl,na,T1.map V.str,rfl,.inl (SqL.of (sc _ _ hna)),rfl,Z1p T1,_,rfl,Z1a (fun g2=>?_) (fun g2=>stay _ sc)⟩
       have hxm:=(Z29 x T1).mp g2
       obtain⟨j,hj,hno⟩:=Zga hxm
       have hjl:j<T1.length:=(List.getElem?_eq_some_iff.mp hj).1
       obtain⟨y,hy⟩:∃y,T2[j]? = some y:=⟨_,List.getElem?_eq_getElem (by omega)⟩
       have hyN:=hlo y (mem_of_getElem? hy)
       have hyl:=Ze1 hyN
       refine⟨_,rfl,a,_,_,_,rfl,rfl,SqT.of ha2,Z16 _ _,_,rfl,_,rfl,.inl ⟨rfl,_,SqL.of (sc _ _ hna)⟩,_,rfl,a,_,_,_,rfl,rfl,SqT.of ha2,Z15 _ _ _,na,T1,x,j,rfl,rfl,sc _ _ hna,hj,hno,oa,T2.map V.str,_,.str y,rfl,rfl,SqL.of (sc _ _ hoa),Z1r (by rw[List.getElem?_map,hy];rfl),(by show 2<=sizeLine;decide),fun c2 hc2=>?_⟩
       have s2:=Z02 (o:=.tup [.str w0,.str y]) hc2
       refine⟨_,rfl,2,rfl,a,_,rfl,s2 _ _ ha2,fun p3 H3 s3 hp3=>?_⟩
       rw[Z2n (by decide) (by show 2<=_+1+1;omega)] at hp3
       have s23:=(sc.trans s2).trans s3
       have hvl:=IsThs.len _ d4
       refine⟨c2,p3,_,_,rfl,rfl,s3 _ _ Z00,hp3,?_,fun p4 H4 s4 hp4=>?_⟩
       ·show 2+vr2.length<=sizeLine
        rw[hvl]
        show 2+(([]:List V).map Th.at++ks).length<=sizeLine
        rw[map_nil,nil_append]
        omega
       have s24:=s23.trans s4
       refine⟨p4,[.str y],rfl,s24,?_,Nat.le_refl _,?_,fun z=>⟨⟨y,rfl⟩,(h3 z).2⟩,⟨fun _=>⟨y,rfl⟩,fun z=>?_,fun z=>?_,?_,h4.lw,h4.sh.turn hw hyN⟩⟩
       ·unfold nd
        refine .tup hp4 (.cons (.at ?_) (.cons (.at ?_) (IsThs.kp (Kp.of s24) d4)))
        ·obtain⟨_,q⟩:=Z1w d1;exact q
        ·have h':(decide (y.length<=16)&&y.cps.toList.all fun c=>decide (c<16 ^ 8))=true:=hyl
         rw[Bool.and_eq_true,decide_eq_true_iff] at h'
         exact decide_eq_true (by have:=h'.1;omega)
       ·intro v hv
        rw[mem_singleton] at hv
        rw[hv]
        rfl
       ·rcases hw with q|q <;> (rw[q] at z;exact absurd z (by decide+kernel))
       ·rcases hw with q|q <;> (rw[q] at z;exact absurd z (by decide+kernel))
       ·intro v hv
        rw[mem_singleton] at hv
        rw[hv]
        exact hyl
    rintro σ1 H1 ⟨a',hd',rfl,s1,ha',g1,g2,g3,g4⟩
    refine⟨_,rfl,_,rfl,.ref a',w0,hd'.map Th.at++ks,rfl,ha',by rw[length_append,length_map];omega,fun p ws H2 s2 hp0 hp hws=>?_⟩
    rw[Z2y nk] at hws
    have hl:=IsThs.len _ hws
    have s12:=s1.trans s2
    refine⟨p,rfl,⟨_,SqL.of hp⟩,Z19 (K:=K) (a:=p) (xs:=ws) (fun i ys σc H'=>∃(o:Option V) (us:List Th),σc = [some (.ref na),some (.ref oa),o]/\IsThs H' ys us/\us.length=i/\(∀u∈us,PfT S N u)/\Z1o us=Z1o (ks.take i)/\Same H2 H')
     ⟨none,[],rfl,.nil,rfl,(fun _ q=>by cases q),by rw[take_zero],Same.refl _⟩ (fun i ys σc H' ⟨_,_,_,_,_,_,_,e⟩=>SqL.of (e _ _ hp)) ?_ ?_⟩
    ·rintro i x ys σc H' hx hi ⟨o,us,rfl,hys,hul,hup,huc,s3⟩
     obtain⟨t,ht,hxt⟩:=Z1f _ hws hx
     have hyl:=IsThs.len _ hys
     refine⟨by omega,?_⟩
     refine⟨_,rfl,_,rfl,_,rfl,x,na,oa,t,T1,T2,rfl,IsTh.kp (Kp.of s3) hxt,h6 t (mem_of_getElem? ht),s3 _ _ (s12 _ _ hna),s3 _ _ (s12 _ _ hoa),hTl,hT1,hlo,fun v' t' H3 s4 hv4 pf4 c4=>nx hi ⟨_,us ++ [t'],rfl,IsThs.app _ (IsThs.kp (Kp.of s4) hys) (.cons hv4 .nil),by rw[length_append,hul];rfl,?_,?_,s3.trans s4⟩⟩
     ·intro u hu
      rcases mem_append.mp hu with q|q
      ·exact hup u q
      ·rw[mem_singleton] at q;rw[q];exact pf4
     ·rw[Z2r,huc,c4,take_add_one,ht]
      exact(Z2r _ _).symm
    ·rintro ys σc H' ⟨o,us,rfl,hys,hul,hup,huc,s3⟩ q hq
     rw[take_of_length_le (by omega)] at huc
     have s4:=Z02 (o:=.lst ys) hq
     have sA:=(s2.trans s3).trans s4
     refine⟨.ref a',q,_,us,ys,rfl,IsTh.kp (Kp.of sA) ha',by rw[length_cons,length_append,length_map];omega,Z00,IsThs.kp (Kp.of s4) hys,by omega,fun r H4 s5 hr4=>?_⟩
     rw[Za8 nk] at hr4
     have nu:∀k∈us,L2.isTup k=true:=fun k hk=>(hup k hk).isTup
     refine k _ _ H4 ((s1.trans sA).trans s5) hr4 ⟨w0,hd',us,rfl,g1,g2,fun z=>⟨(g3 z).1,by rw[hul,<- (g3 z).2];omega⟩,(by rw[show us.length=ks.length by omega];exact g4),by omega,hup⟩ ?_
     rw[Z18 nu,Z18 nk,huc]
end
structure WA where
 nm:Addr
 lt:Addr
 fn:Addr
 wo:Addr
 sd:Addr
def Z0j (a:WA)(r z:Int):List (Key×V):=[(Sum.inr "names",.ref a.nm),(Sum.inr "lets",.ref a.lt),(Sum.inr "functions",.ref a.fn),(Sum.inr "works",.ref a.wo),(Sum.inr "seeds",.ref a.sd),(Sum.inr "room",.int r),(Sum.inr "toil",.int z),(Sum.inr "takes",.bl true)]
section
variable {H:Hp}{wd:Addr}{a:WA}{r z q:Int}
theorem Z41 (e:H wd=some (.dK (Z0j a r z))):DGet H wd (.str "names") (some (.ref a.nm)):=by
 have y:=DGet.k (k:=Sum.inr "names") e
 rw[show Z27 (Z0j a r z) (Sum.inr "names")=some (.ref a.nm) by with_unfolding_all rfl] at y
 exact y
theorem Ze8 (e:H wd=some (.dK (Z0j a r z))):DGet H wd (.str "lets") (some (.ref a.lt)):=by
 have y:=DGet.k (k:=Sum.inr "lets") e
 rw[show Z27 (Z0j a r z) (Sum.inr "lets")=some (.ref a.lt) by with_unfolding_all rfl] at y
 exact y
theorem Z2z (e:H wd=some (.dK (Z0j a r z))):DGet H wd (.str "functions") (some (.ref a.fn)):=by
 have y:=DGet.k (k:=Sum.inr "functions") e
 rw[show Z27 (Z0j a r z) (Sum.inr "functions")=some (.ref a.fn) by with_unfolding_all rfl] at y
 exact y
theorem Z7o (e:H wd=some (.dK (Z0j a r z))):DGet H wd (.str "works") (some (.ref a.wo)):=by
 have y:=DGet.k (k:=Sum.inr "works") e
 rw[show Z27 (Z0j a r z) (Sum.inr "works")=some (.ref a.wo) by with_unfolding_all rfl] at y
 exact y
theorem Z5c (e:H wd=some (.dK (Z0j a r z))):DGet H wd (.str "seeds") (some (.ref a.sd)):=by
 have y:=DGet.k (k:=Sum.inr "seeds") e
 rw[show Z27 (Z0j a r z) (Sum.inr "seeds")=some (.ref a.sd) by with_unfolding_all rfl] at y
 exact y
theorem Z4x (e:H wd=some (.dK (Z0j a r z))):DGet H wd (.str "room") (some (.int r)):=by
 have y:=DGet.k (k:=Sum.inr "room") e
 rw[show Z27 (Z0j a r z) (Sum.inr "room")=some (.int r) by with_unfolding_all rfl] at y
 exact y
theorem Z2s (e:H wd=some (.dK (Z0j a r z))):DGet H wd (.str "toil") (some (.int z)):=by
 have y:=DGet.k (k:=Sum.inr "toil") e
 rw[show Z27 (Z0j a r z) (Sum.inr "toil")=some (.int z) by with_unfolding_all rfl] at y
 exact y
theorem Zcd (e:H wd=some (.dK (Z0j a r z))):DGet H wd (.str "takes") (some (.bl true)):=by
 have y:=DGet.k (k:=Sum.inr "takes") e
 rw[show Z27 (Z0j a r z) (Sum.inr "takes")=some (.bl true) by with_unfolding_all rfl] at y
 exact y
theorem Z6q (e:H wd=some (.dK (Z0j a r z))):DPut H wd (.str "room") (.int q) (upd H wd (.dK (Z0j a q z))):=by
 have y:=DPut.k (k:=Sum.inr "room") (v:=.int q) e (by show 8<sizeLine;decide)
 rw[show Z2t (Z0j a r z) (Sum.inr "room") (.int q)=Z0j a q z by with_unfolding_all rfl] at y
 exact y
theorem Z4y (e:H wd=some (.dK (Z0j a r z))):DPut H wd (.str "toil") (.int q) (upd H wd (.dK (Z0j a r q))):=by
 have y:=DPut.k (k:=Sum.inr "toil") (v:=.int q) e (by show 8<sizeLine;decide)
 rw[show Z2t (Z0j a r z) (Sum.inr "toil") (.int q)=Z0j a r q by with_unfolding_all rfl] at y
 exact y
theorem Z7p {s2:Addr}(e:H wd=some (.dK (Z0j a r z))):DPut H wd (.str "seeds") (.ref s2) (upd H wd (.dK (Z0j { a with sd:=s2 } r z))):=by
 have y:=DPut.k (k:=Sum.inr "seeds") (v:=.ref s2) e (by show 8<sizeLine;decide)
 rw[show Z2t (Z0j a r z) (Sum.inr "seeds") (.ref s2)=Z0j { a with sd:=s2 } r z by with_unfolding_all rfl] at y
 exact y
end
theorem Z8f {H:Hp}{d wd l:Addr}{a:WA}{ns:List Int}{n:Nat}{r z:Int}(F:Feed H d l ns n)(W:H wd=some (.dK (Z0j a r z))):wd≠d:=by
 obtain⟨⟨y,hd⟩,_,_⟩:=F
 refine Z3i W hd (fun q=>?_)
 injection q with q
 have h1:=congrArg List.length q
 cases h1
def But2 (d e:Addr)(H H':Hp):Prop:=∀b o,H b=some o->b≠d->b≠e->H' b=some o
theorem But2.refl (d e:Addr)(H:Hp):But2 d e H H:=fun _ _ h _ _=>h
theorem But2.trans {d e:Addr}{H H1 H2:Hp}(a:But2 d e H H1)(b:But2 d e H1 H2):But2 d e H H2:=fun c o h n m=>b c o (a c o h n m) n m
theorem But2.of {d e:Addr}{H H1:Hp}(a:But d H H1):But2 d e H H1:=fun c o h n _=>a c o h n
theorem But2.same {d e:Addr}{H H1:Hp}(a:Same H H1):But2 d e H H1:=fun c o h _ _=>a c o h
theorem But2.upd {d e:Addr}{H:Hp}{o:HO}:But2 d e H (upd H e o):=fun c u h _ n=>by rw[Z0a n];exact h
theorem But2.kp {d e l:Addr}{ns:List Int}{n:Nat}{kvs:List (Key×V)}{H H':Hp}(b:But2 d e H H')(F:Feed H d l ns n)(W:H e=some (.dK kvs)):Kp H H':=by
 obtain⟨⟨z,hd⟩,_,_⟩:=F
 intro a o h hk
 exact b a o h (fun q=>by subst q;rw[hd] at h;cases h;exact hk _ rfl) (fun q=>by subst q;rw[W] at h;cases h;exact hk _ rfl)
theorem Feed.world {H:Hp}{d wd l:Addr}{a a2:WA}{ns:List Int}{n:Nat}{r z r2 z2:Int}(F:Feed H d l ns n)(W:H wd=some (.dK (Z0j a r z))):Feed (L2.upd H wd (.dK (Z0j a2 r2 z2))) d l ns n:=by
 have hne:=Z8f F W
 obtain⟨⟨y,hd⟩,hl,hs⟩:=F
 refine⟨⟨y,by rw[Z0a hne.symm];exact hd⟩,?_,hs⟩
 rw[Z0a (Z3i hl W (by intro q;cases q))]
 exact hl
structure WI where
 T1:List Str
 T2:List Str
 fv:List V
 sv:List V
 ss:List Th
 ρ : Str->Int
 kvs:List (Key×V)
structure Wf (S:SS)(M:Nat)(H:Hp)(d wd:Addr)(a:WA)(i:WI):Prop where
 nm:H a.nm=some (.lst (i.T1.map V.str))
 lt:H a.lt=some (.lst (i.T2.map V.str))
 fn:H a.fn=some (.lst i.fv)
 fe:∀v∈i.fv,∃(c:Addr) (x:Str) (m:Int),v = .ref c/\H c=some (.tup [.str x,.int m])/\x∈S.c/\NmU S x/\0<=m/\m<=6
 wo:H a.wo=some (.dK i.kvs)
 wk:Zim S i.ρ i.kvs
 o1:a.wo≠d
 o2:a.wo≠wd
 sd:H a.sd=some (.lst i.sv)
 ss:IsThs H i.sv i.ss
 sp:∀t∈i.ss,PfT S M t
 n1:1<=i.T1.length
 n2:i.T1.length<=10
 l2:i.T2.length<=10
 f2:i.fv.length<=10
 s2:i.sv.length<=10
 an:∀t∈i.T1,NmU S t
 bn:∀t∈i.T2,NmU S t
theorem Wf.go {S:SS}{M:Nat}{H H':Hp}{d wd:Addr}{a:WA}{i:WI}(h:Wf S M H d wd a i)(k:Kp H H')(b:But2 d wd H H'):Wf S M H' d wd a i:=
 ⟨k _ _ h.nm (fun _ z=>by cases z),k _ _ h.lt (fun _ z=>by cases z),k _ _ h.fn (fun _ z=>by cases z),fun v hv=>let ⟨c,x,m,h1,h2,h3⟩:=h.fe v hv;⟨c,x,m,h1,k _ _ h2 (fun _ z=>by cases z),h3⟩,b _ _ h.wo h.o1 h.o2,h.wk,h.o1,h.o2,k _ _ h.sd (fun _ z=>by cases z),IsThs.kp k h.ss,h.sp,h.n1,h.n2,h.l2,h.f2,h.s2,h.an,h.bn⟩
structure Ctx (S:SS)(M:Nat)(H H':Hp)(d l wd:Addr)(a:WA)(i:WI)(bd:Addr)(bs:List Str)(ns:List Int)(n:Nat)(r z:Int):Prop where
 F:Feed H' d l ns n
 W:H' wd=some (.dK (Z0j a r z))
 N:Wf S M H' d wd a i
 B:H' bd=some (.lst (bs.map V.str))
 bl:bs.length<=100
 bn:∀t∈bs,NmU S t
 b2:But2 d wd H H'
section
variable {S:SS}{M:Nat}{H H1 H2:Hp}{d l wd:Addr}{a:WA}{i:WI}{bd:Addr}{bs:List Str}{ns:List Int}{n n2:Nat}{r r2 z z2:Int}
theorem Ctx.go (C:Ctx S M H H1 d l wd a i bd bs ns n r z)(b:But2 d wd H1 H2)(F2:Feed H2 d l ns n2)(W2:H2 wd=some (.dK (Z0j a r2 z2))):Ctx S M H H2 d l wd a i bd bs ns n2 r2 z2:=
 ⟨F2,W2,C.N.go (b.kp C.F C.W) b,b.kp C.F C.W _ _ C.B (fun _ z=>by cases z),C.bl,C.bn,C.b2.trans b⟩
theorem Ctx.draw (C:Ctx S M H H1 d l wd a i bd bs ns n r z)(b:But d H1 H2)(F2:Feed H2 d l ns n2):Ctx S M H H2 d l wd a i bd bs ns n2 r z:=
 C.go (But2.of b) F2 (b wd _ C.W (Z8f C.F C.W))
theorem Ctx.same (C:Ctx S M H H1 d l wd a i bd bs ns n r z)(s:Same H1 H2):Ctx S M H H2 d l wd a i bd bs ns n r z:=
 C.go (But2.same s) (C.F.same s) (s _ _ C.W)
theorem Ctx.put (C:Ctx S M H H1 d l wd a i bd bs ns n r z):Ctx S M H (upd H1 wd (.dK (Z0j a r2 z2))) d l wd a i bd bs ns n r2 z2:=
 C.go But2.upd (C.F.world C.W) Z00
theorem Ctx.zero (C:Ctx S M H H1 d l wd a i bd bs ns n r z):Ctx S M H1 H1 d l wd a i bd bs ns n r z:=⟨C.F,C.W,C.N,C.B,C.bl,C.bn,But2.refl _ _ _⟩
theorem Ctx.bind (C:Ctx S M H H1 d l wd a i bd bs ns n r z){b2:Addr}{bs2:List Str}(h:H1 b2=some (.lst (bs2.map V.str)))(hl:bs2.length<=100)(hn:∀t∈bs2,NmU S t):Ctx S M H H1 d l wd a i b2 bs2 ns n r z:=⟨C.F,C.W,C.N,h,hl,hn,C.b2⟩
theorem Ctx.tail (C:Ctx S M H H1 d l wd a i bd bs ns n r z){H0:Hp}(b:But2 d wd H0 H):Ctx S M H0 H1 d l wd a i bd bs ns n r z:=⟨C.F,C.W,C.N,C.B,C.bl,C.bn,b.trans C.b2⟩
end
theorem Z2k {S:SS}{t:Str}(h:NmU S t):smallV (.str t)=true:=decide_eq_true (Nat.le_trans h.1.1.2 (by decide))
inductive spWorld_ (vs:List V)(H:Hp)(Q:VK):Prop
 |mk (nm lt fn wo:Addr) (r z:Int) (_:vs = [.ref nm,.ref lt,.ref fn,.ref wo,.int r,.int z]) (_:∀(wd sd:Addr) H',Same H H'->H wd=none->H sd=none->H' wd=some (.dK (Z0j ⟨nm,lt,fn,wo,sd⟩ r z))->H' sd=some (.lst [])->Q (.ref wd) H'):spWorld_ vs H Q
def spWorld:Sp:=fun vs H Q _=>spWorld_ vs H Q
def Zgb (S:SS)(t:Th):Prop:=PfT S 1 t/\cnt t=1
inductive spLeaf_ (S:SS)(M:Nat)(vs:List V)(H:Hp)(Q:VK):Prop
 |mk (d l wd:Addr) (a:WA) (i:WI) (bd:Addr) (bs:List Str) (ns:List Int) (n:Nat) (r z:Int) (_:vs = [.ref d,.ref wd,.ref bd]) (_:n<=800000000000) (_:Ctx S M H H d l wd a i bd bs ns n r z) (_:∀(v:V) (t:Th) n' H',IsTh H' v t->Zgb S t->n'<=n+4->Ctx S M H H' d l wd a i bd bs ns n' r z->Q v H'):spLeaf_ S M vs H Q
def Z5n (S:SS)(M:Nat):Sp:=fun vs H Q _=>spLeaf_ S M vs H Q
theorem Zmd {S:SS}:Zgb S (nd "take" [] []):=by
 refine⟨⟨"take",[],[],rfl,Nat.zero_le _,fun v hv=>(by cases hv),fun z=>absurd z (by decide+kernel),⟨fun z=>z.elim (fun q=>absurd q (by decide+kernel)) (fun q=>absurd q (by decide+kernel)),fun z=>absurd z (by decide+kernel),fun z=>absurd z (by decide+kernel),fun v hv=>(by cases hv),by decide+kernel,.take⟩,Nat.zero_le _,fun k hk=>(by cases hk)⟩,?_⟩
 rw[Z18 (fun k hk=>by cases hk)];simp [Z1o]
theorem Zme {S:SS}{i:Int}(h0:0<=i)(h1:i<=1000000000):Zgb S (nd "num" [.int i] []):=by
 refine⟨⟨"num",[.int i],[],rfl,Nat.le_refl _,fun u hu=>(by rw[mem_singleton] at hu;rw[hu];rfl),fun z=>absurd z (by decide+kernel),⟨fun z=>z.elim (fun q=>absurd q (by decide+kernel)) (fun q=>absurd q (by decide+kernel)),fun z=>absurd z (by decide+kernel),fun z=>absurd z (by decide+kernel),fun v hv=>(by rw[mem_singleton] at hv;rw[hv];exact decide_eq_true (by omega)),by decide+kernel,.num h0 h1⟩,Nat.zero_le _,fun k hk=>(by cases hk)⟩,?_⟩
 rw[Z18 (fun k hk=>by cases hk)];simp [Z1o]
theorem Zgc {S:SS}{x:Str}(h:NmU S x):Zgb S (nd "name" [.str x] []):=by
 refine⟨⟨"name",[.str x],[],rfl,Nat.le_refl _,fun u hu=>(by rw[mem_singleton] at hu;rw[hu];rfl),fun z=>absurd z (by decide+kernel),⟨fun z=>⟨x,rfl⟩,fun z=>absurd z (by decide+kernel),fun z=>absurd z (by decide+kernel),fun v hv=>(by rw[mem_singleton] at hv;rw[hv];exact Ze1 h),by decide+kernel,.name h⟩,Nat.zero_le _,fun k hk=>(by cases hk)⟩,?_⟩
 rw[Z18 (fun k hk=>by cases hk)];simp [Z1o]
section
variable {S:SS}{M:Nat}{P:Program}{w:World}{K:PySem.W.Frag}{mg:Str->Option Value}{base:Heap}
theorem Zio:FnScope ["_law_names_here","_law_lets","_law_functions","_law_works","_law_room","_law_toil"] ["_law_names_here","_law_lets","_law_functions","_law_works","_law_room","_law_toil"] (Z06 Z9i):=⟨rfl,rfl,rfl,by decide+kernel,rfl,by decide+kernel,by decide+kernel⟩
theorem Zgd {f:Addr}{fd:FuncData}(F:Fun K "_law_world" "_law_world" Z9i f fd):FnOk P w K mg base CX0 1 f fd ["_law_names_here","_law_lets","_law_functions","_law_works","_law_room","_law_toil"] spWorld:=by
 refine F.ok Zio (fun vs H Q E h=>?_) (fun cdv A outer s H vs Q E hr h=>?_)
 ·obtain⟨nm,lt,fn,wo,r,z,rfl,_⟩:=h
  rfl
 ·obtain⟨nm,lt,fn,wo,r,z,rfl,k⟩:=h
  refine⟨_,Z07 (Z0h (Zdb (Z23 Z09 (pv 0) (Z23 Z09 (pv 1) (Z23 Z09 (pv 2) (Z23 Z09 (pv 3) (Z23 Z09 (Z0y Z01) (Z23 Z09 (pv 4) (Z23 Z09 (pv 5) (Z23 Z09 Z5o Zda)))))))) rfl rfl (by intro z;cases z) (by decide))),?_⟩
  intro wd hwd
  have sw:=Z02 (o:=.dK []) hwd
  refine⟨_,rfl,_,rfl,_,rfl,_,rfl,Nat.zero_le _,fun sd hsd=>?_⟩
  have hsn:sd≠wd:=fun z=>by rw[z,Z00] at hsd;cases hsd
  have sb:=Z02 (o:=.lst []) hsd
  refine⟨_,rfl,_,rfl,sb _ _ Z00,Z0j ⟨nm,lt,fn,wo,sd⟩ r z,rfl,by show 8<=15;decide,?_⟩
  have em:Z66 [] (Z0j ⟨nm,lt,fn,wo,sd⟩ r z)=Z0j ⟨nm,lt,fn,wo,sd⟩ r z:=by with_unfolding_all rfl
  rw[em]
  refine k wd sd _ (fun b ob e=>?_) hwd (Z1u sw hsd) Z00 ?_
  ·rw[Z0a (Z0g e hwd)]
   exact sb _ _ (sw _ _ e)
  ·rw[Z0a hsn]
   exact Z00
theorem scLeaf:FnScope ["_law_feed_here","_law_world_here","_law_bound_here","_law_way","_law_some"] ["_law_feed_here","_law_world_here","_law_bound_here"] (Z06 Zdw):=⟨rfl,rfl,rfl,by decide+kernel,rfl,by decide+kernel,by decide+kernel⟩
theorem Zip {f fV fD fS:Addr}{fd dV dD dS:FuncData}(F:Fun K "_law_leaf" "_law_leaf" Zdw f fd)(U:Helpers K mg fD fS dD dS)(FV:Fun K "_law_value" "_law_value" Z3b fV dV)(bV:Binds K dV ["_law_feed_here"] [])(mV:mg "_law_value"=some (.ref fV)):
  FnOk P w K mg base CX0 3 f fd ["_law_feed_here","_law_world_here","_law_bound_here"] (Z5n S M):=by
 have GD:FnOk P w K mg base CX0 1 fD dD ["_law_feed_here","_law_many"] spDraw:=Z6j U.D U.T
 have GV:FnOk P w K mg base CX0 2 fV dV ["_law_feed_here"] spValue:=Zg7 FV U
 refine F.ok scLeaf (fun vs H Q E h=>?_) (fun cdv A outer s H vs Q E hr h=>?_)
 ·obtain⟨d,l,wd,a,i,bd,bs,ns,n,r,z,rfl,_⟩:=h
  rfl
 ·obtain⟨d,l,wd,a,i,bd,bs,ns,n,r,z,rfl,hn,C0,k⟩:=h
  have hsz:sizeLine=16777216:=sizeLine_eq
  have hu:(_:Around).units+1<cLine:=Nat.lt_of_le_of_lt (Nat.add_le_add_left (by decide) _) hr.units
  have hu0:=hr.units0
  have hr1:Room 1 _:=hr.mono (by decide)
  have hr2:Room 2 _:=hr.mono (by decide)
  refine'⟨?tt,?body,?fin⟩
  case body=>
   refine' Z04 ?s1 ?r1
   case s1=>exact Z0c (i:=3) scLeaf.nd rfl (Or.inl rfl) (Z05 GD hr1 (by rfl) U.mD U.D.kp U.bD .nil Z0e (Z0d (pv 0) (Z17 Z03 Z01)))
   case r1=>
    refine' Z0l ?s2 ?r2
    case s2=>
     refine' Z0x ?c (Z07 ?b) Z0f
     case c=>exact(Z5h (Z0b Z1d (pv 3) Z03 (Z0k _)) (Z3j (Z5f (Z0t hu (pv 1) Z09 (fun _ _=>rfl))))).pt
     case b=>exact Z0h (Z12 (Z17 Z09 Z01))
    case r2=>
     refine' Z04 ?s3 ?r3
     case s3=>exact Z0c (i:=4) scLeaf.nd rfl (Or.inl rfl) (Z0i Z2q (Z0i Z2q (Z0t hu (pv 1) Z09 (fun _ _=>rfl)) (pv 2)) (pv 2))
     case r3=>
      refine' Z04 ?s4 (Z07 ?s5)
      case s4=>
       refine' Z0x ?c (Z07 ?b) Z0f
       case c=>exact(Z5w (Z0b Z9x (pv 3) Z03 (Z0k _)) (Z5g (Z0b (Z4p hu0) (pv 4) (Z0y Z01) (Z0k _)))).pt
       case b=>exact Z0h (Z12 (Z17 Z09 (Z2x (Z05 GV hr2 (by rfl) mV FV.kp bV .nil Z0e (Z0d (pv 0) Z01)) Z01)))
      case s5=>
       refine' Z0h (Z12 (Z17 Z09 (Z08 ?x Z01)))
       case x=>exact Z0q Z0w (pv 4) (Z05 GD hr1 (by rfl) U.mD U.D.kp U.bD .nil Z0e (Z0d (pv 0) (Z2x (Z0n Z0o (by rfl) U.T.len PySem.boot_len (Z0d (pv 4) Z01)) Z01))) (fun _ _=>rfl)
  case fin=>
   refine⟨_,rfl,d,l,ns,n,_,rfl,C0.F,by omega,by decide,by decide,fun way n1 H1 w0 w1 hn1 F1 b1=>?_⟩
   have C1:=C0.draw b1 F1
   refine⟨fun σ' H'=>σ' = [some (.ref d),some (.ref wd),some (.ref bd),some (.int way),none]/\H'=H1,?_,?_⟩
   ·refine⟨_,rfl,rfl,_,rfl,Z1a (fun g=>?_) (fun g=>Za0 ⟨rfl,rfl⟩)⟩
    refine⟨_,rfl,wd,.bl true,rfl,Zcd C1.W,true,rfl,Zaq ?_⟩
    refine⟨(by show 1<=sizeLine;decide),fun p hp=>?_⟩
    exact k (.ref p) (nd "take" [] []) n1 _ (.tup Z00 (.cons (.at (by decide+kernel)) .nil)) Zmd (by omega) (C1.same (Z02 hp))
   rintro σ2 H2 ⟨rfl,rfl⟩
   have n2:=C1.N.n2
   have n1':=C1.N.n1
   have bl:=C1.bl
   refine⟨_,rfl,wd,.ref a.nm,rfl,Z41 C1.W,_,rfl,a.nm,bd,i.T1.map V.str,bs.map V.str,rfl,rfl,C1.N.nm,C1.B,by rw[length_map,length_map];omega,fun c hc=>?_⟩
   have sc:=Z02 (o:=.lst (i.T1.map V.str++bs.map V.str)) hc
   have C2:=C1.same sc
   refine⟨_,rfl,c,bd,_,bs.map V.str,rfl,rfl,Z00,C2.B,by rw[length_append,length_map,length_map];omega,fun e he=>?_⟩
   have se:=Z02 (o:=.lst (i.T1.map V.str++bs.map V.str++bs.map V.str)) he
   have C3:=C2.same se
   have hE:upd (upd H2 c (.lst (i.T1.map V.str++bs.map V.str))) e (.lst (i.T1.map V.str++bs.map V.str++bs.map V.str)) e=some (.lst (i.T1.map V.str++bs.map V.str++bs.map V.str)):=Z00
   have hEl:(i.T1.map V.str++bs.map V.str++bs.map V.str).length=i.T1.length+bs.length+bs.length:=by simp only [length_append,length_map]
   have hEn:∀v∈i.T1.map V.str++bs.map V.str++bs.map V.str,∃x,v = .str x/\NmU S x:=by
    intro v hv
    rw[<- map_append,<- map_append] at hv
    obtain⟨x,hx,rfl⟩:=mem_map.mp hv
    refine⟨x,rfl,?_⟩
    rcases mem_append.mp hx with y|y
    ·rcases mem_append.mp y with y|y
     ·exact C1.N.an x y
     ·exact C1.bn x y
    ·exact C1.bn x y
   generalize upd (upd H2 c (.lst (i.T1.map V.str++bs.map V.str))) e (.lst (i.T1.map V.str++bs.map V.str++bs.map V.str))=H3 at C3 hE
   generalize i.T1.map V.str++bs.map V.str++bs.map V.str=es at hE hEl hEn
   have num:∀H4,Ctx S M H H4 d l wd a i bd bs ns n1 r z->spValue [.ref d] H4 (fun v H'=>2<=sizeLine/\∀p,H' p=none->Q (.ref p) (upd H' p (.tup [.str "num",v]))) E:=by
    intro H4 C4
    refine⟨d,l,ns,n1,rfl,C4.F,by omega,fun j n4 H5 j0 j1 hn4 F4 b4=>⟨(by decide),fun p hp=>?_⟩⟩
    exact k (.ref p) (nd "num" [.int j] []) n4 _ (.tup Z00 (.cons (.at (by decide+kernel)) (.cons (.at rfl) .nil))) (Zme j0 j1) (by omega) ((C4.draw b4 F4).same (Z02 hp))
   refine⟨_,rfl,_,_,rfl,rfl,_,rfl,Z1a (fun g=>Zaq ⟨_,rfl,num _ C3⟩) (fun g=>?_)⟩
   refine⟨_,rfl,Nat.zero_le _,fun q hq=>?_⟩
   have sq:=Z02 (o:=.lst []) hq
   have C4:=C3.same sq
   have hne:es.isEmpty=false:=by
    cases es with
    |nil=>rw[length_nil] at hEl;omega
    |cons=>rfl
   refine⟨e,q,es,rfl,rfl,SqL.of (sq _ _ hE),SqL.of Z00,_,rfl,?_⟩
   rw[hne]
   refine Za0 ?_
   have hl:((es.length:Nat):Int)=(i.T1.length+bs.length+bs.length:Nat):=by rw[hEl]
   refine⟨_,rfl,_,rfl,_,rfl,e,es,rfl,.inl (SqL.of (sq _ _ hE)),d,l,ns,n1,_,rfl,C4.F,by omega,by show(0:Int)<(es.length:Int);omega,by show(es.length:Int)<18446744073709551616;omega,fun j n5 H5 j0 j1 hn5 F5 b5=>?_⟩
   obtain⟨v5,hv5,hat5⟩:=Z2w (xs:=es) (i:=j) j0 j1
   obtain⟨x,rfl,hx⟩:=hEn v5 hv5
   refine⟨e,es,j,.str x,rfl,rfl,SqL.of (C4.F.lst b5 (sq _ _ hE)),hat5,(by show 2<=sizeLine;decide),fun p hp=>?_⟩
   exact k (.ref p) (nd "name" [.str x] []) n5 _ (.tup Z00 (.cons (.at (by decide+kernel)) (.cons (.at (Z2k hx)) .nil))) (Zgc hx) (by omega) ((C4.draw b5 F5).same (Z02 hp))
end
structure Fn (K:PySem.W.Frag)(mg:Str->Option Value)(x:Str)(st:Stmt)(ps:List Str)(f:Addr)(d:FuncData):Prop where
 F:Fun K x x st f d
 b:Binds K d ps []
 m:mg x=some (.ref f)
structure GenF where
 fD:Addr
 fS:Addr
 fV:Addr
 fL:Addr
 fP:Addr
 fW:Addr
 fN:Addr
 fK:Addr
 fR:Addr
 fT:Addr
 fX:Addr
 dD:FuncData
 dS:FuncData
 dV:FuncData
 dL:FuncData
 dP:FuncData
 dW:FuncData
 dN:FuncData
 dK:FuncData
 dR:FuncData
 dT:FuncData
 dX:FuncData
structure Gen (K:PySem.W.Frag)(mg:Str->Option Value)(g:GenF):Prop where
 U:Helpers K mg g.fD g.fS g.dD g.dS
 X:HW K mg g.fP g.fW g.dP g.dW
 V:Fn K mg "_law_value" Z3b ["_law_feed_here"] g.fV g.dV
 L:Fn K mg "_law_leaf" Zdw ["_law_feed_here","_law_world_here","_law_bound_here"] g.fL g.dL
 N:Fn K mg "_law_nodes" Z6e ["_law_e"] g.fN g.dN
 Y:Fn K mg "_law_work" Z3y ["_law_e","_law_works"] g.fK g.dK
 R:Fn K mg "_law_right" Z7m ["_law_e","_law_bound_here"] g.fR g.dR
 T:Fn K mg "_law_turned" Z58 ["_law_e","_law_names_here","_law_others"] g.fT g.dT
 S:Fn K mg "_law_spoilt" Z6f ["_law_e","_law_at","_law_leaf_here"] g.fX g.dX
 sum:mg "sum"=none
 all:mg "all"=none
section
variable {S:SS}{M:Nat}{P:Program}{w:World}{K:PySem.W.Frag}{mg:Str->Option Value}{base:Heap}{g:GenF}
theorem Gen.gD (G:Gen K mg g):FnOk P w K mg base CX0 1 g.fD g.dD ["_law_feed_here","_law_many"] spDraw:=Z6j G.U.D G.U.T
theorem Gen.gL (G:Gen K mg g):FnOk P w K mg base CX0 3 g.fL g.dL ["_law_feed_here","_law_world_here","_law_bound_here"] (Z5n S M):=Zip G.L.F G.U G.V.F G.V.b G.V.m
theorem Gen.gN (G:Gen K mg g)(N:Nat):FnOk P w K mg base CX0 (N+2) g.fN g.dN ["_law_e"] (Z6o S N):=Zb3 G.N.F G.N.b G.N.m G.X.T G.X.KI G.sum G.X.P G.X.bP G.X.mP N
theorem Gen.gK (G:Gen K mg g)(N:Nat):FnOk P w K mg base CX0 (N+2) g.fK g.dK ["_law_e","_law_works"] (Z6p S N):=Zcc G.Y.F G.Y.b G.Y.m G.X.T G.X.KI G.sum G.X.P G.X.bP G.X.mP N
theorem Gen.gR (G:Gen K mg g)(N:Nat):FnOk P w K mg base CX0 (N+2) g.fR g.dR ["_law_e","_law_bound_here"] (Z8d S N):=Zg9 G.R.F G.R.b G.R.m G.X.T G.X.KI G.all G.X.P G.X.bP G.X.mP N
theorem Gen.gT (G:Gen K mg g)(N:Nat):FnOk P w K mg base CX0 (N+2) g.fT g.dT ["_law_e","_law_names_here","_law_others"] (Z8e S N):=Ze7 G.T.F G.T.b G.T.m G.X N
theorem Gen.gS (G:Gen K mg g)(N:Nat):FnOk P w K mg base CX0 (N+3) g.fX g.dX ["_law_e","_law_at","_law_leaf_here"] (Z40 S N 1):=Z9m G.S.F G.S.b G.S.m G.X G.U.T.range G.sum G.N.F G.N.b G.N.m 1 N
end
theorem Ziq {m:Nat}:∀{ks:List Th},(∀k∈ks,cnt k<=m)->Z1o ks<=ks.length*m:=by
 intro ks
 induction ks with
 |nil=>intro _;rw[Z1o];exact Nat.zero_le _
 |cons x ks ih=>
  intro h
  have h1:=h x (mem_cons_self ..)
  have h2:=ih fun k hk=>h k (mem_cons_of_mem _ hk)
  rw[Z1o,length_cons,Nat.succ_mul]
  omega
theorem Zir {S:SS}:∀(n:Nat) {t:Th},PfT S n t->cnt t<=7 ^ n:=by
 intro n
 induction n with
 |zero=>intro t h;exact h.elim
 |succ n ih=>
  intro t h
  obtain⟨w,hd,ks,rfl,h1,h2,h3,h4,h5,h6⟩:=h
  rw[Z18 fun k hk=>(h6 k hk).isTup]
  have h7:=Ziq fun k hk=>ih (h6 k hk)
  have h8:ks.length*7 ^ n<=6*7 ^ n:=Nat.mul_le_mul_right _ h5
  have h9:0<7 ^ n:=Nat.pow_pos (by decide)
  rw[Nat.pow_succ]
  omega
inductive spCopied_ (S:SS)(M:Nat)(vs:List V)(H:Hp)(Q:VK):Prop
 |mk (d l wd:Addr) (a:WA) (i:WI) (bd:Addr) (bs:List Str) (ns:List Int) (n:Nat) (r z b tm:Int) (_:vs = [.ref d,.ref wd,.ref bd,.int b,.int tm]) (_:n<=700000000000) (_:M<=20) (_:0<=tm) (_:tm<=1000000000000000000) (_:0<=r) (_:Ctx S M H H d l wd a i bd bs ns n r z) (_:∀(v:V) (t:Th) (n':Nat) (r' z':Int) H',IsTh H' v t->PfT S (M+1) t->(cnt t:Int)<=1+r-r'->0<=r'->n'<=n+13->Ctx S M H H' d l wd a i bd bs ns n' r' z'->Q v H'):spCopied_ S M vs H Q
def Zb5 (S:SS)(M:Nat):Sp:=fun vs H Q _=>spCopied_ S M vs H Q
theorem Zmf:(["_law_others","_law_name_here"]:List Str).Nodup:=by decide+kernel
section
variable {S:SS}{M:Nat}{P:Program}{w:World}{K:PySem.W.Frag}{mg:Str->Option Value}{base:Heap}{g:GenF}
theorem scCopied:FnScope ["_law_feed_here","_law_world_here","_law_bound_here","_law_below","_law_times","_law_seed","_law_names_here","_law_shift","_law_others","_law_found","_law_cost"] ["_law_feed_here","_law_world_here","_law_bound_here","_law_below","_law_times"] (Z06 Z4g):=⟨rfl,rfl,rfl,by decide+kernel,rfl,by decide+kernel,by decide+kernel⟩
theorem Ze9 {f:Addr}{fd:FuncData}(F:Fun K "_law_copied" "_law_copied" Z4g f fd)(G:Gen K mg g):
  FnOk P w K mg base CX0 (M+4) f fd ["_law_feed_here","_law_world_here","_law_bound_here","_law_below","_law_times"] (Zb5 S M):=by
 have GD:FnOk P w K mg base CX0 1 g.fD g.dD ["_law_feed_here","_law_many"] spDraw:=G.gD
 have GL:FnOk P w K mg base CX0 3 g.fL g.dL ["_law_feed_here","_law_world_here","_law_bound_here"] (Z5n S M):=G.gL
 have GN:FnOk P w K mg base CX0 (M+3) g.fN g.dN ["_law_e"] (Z6o S (M+1)):=G.gN (M+1)
 have GK:FnOk P w K mg base CX0 (M+3) g.fK g.dK ["_law_e","_law_works"] (Z6p S (M+1)):=G.gK (M+1)
 have GR:FnOk P w K mg base CX0 (M+3) g.fR g.dR ["_law_e","_law_bound_here"] (Z8d S (M+1)):=G.gR (M+1)
 have GT:FnOk P w K mg base CX0 (M+2) g.fT g.dT ["_law_e","_law_names_here","_law_others"] (Z8e S M):=G.gT M
 have GX:FnOk P w K mg base CX0 (M+3) g.fX g.dX ["_law_e","_law_at","_law_leaf_here"] (Z40 S M 1):=G.gS M
 refine F.ok scCopied (fun vs H Q E h=>?_) (fun cdv A outer s H vs Q E hr h=>?_)
 ·obtain⟨d,l,wd,a,i,bd,bs,ns,n,r,z,b,tm,rfl,_⟩:=h
  rfl
 ·obtain⟨d,l,wd,a,i,bd,bs,ns,n,r,z,b,tm,rfl,hn,hM,ht0,ht1,hr0,C0,k⟩:=h
  have hsz:sizeLine=16777216:=sizeLine_eq
  have hu:(_:Around).units+1<cLine:=Nat.lt_of_le_of_lt (Nat.add_le_add_left (by omega) _) hr.units
  have hu0:=hr.units0
  have hr1:Room 1 _:=hr.mono (by omega)
  have hr3:Room 3 _:=hr.mono (by omega)
  have hrM2:Room (M+2) _:=hr.mono (by omega)
  have hrM3:Room (M+3) _:=hr
  refine'⟨?tt,?body,?fin⟩
  case body=>
   refine' Z0l ?s1 (Z04 ?s2 (Z04 ?s3 (Z04 ?s4 (Z0l ?s5 (Z0l ?s6 (Z04 ?s7 (Z0l ?s8 (Z04 ?s9 (Z0l ?s10 (Z04 ?s11 (Z04 ?s12 (Z07 ?s13))))))))))))
   case s1=>exact Z0x (Z0b (Z4p hu0) (Z0t hu (pv 1) Z09 (fun _ _=>rfl)) (Z0y Z01) (Z0k _)) (Z07 (Z0h (Z05 GL hr3 (by rfl) G.L.m G.L.F.kp G.L.b .nil Z0e (Z0d (pv 0) (Z0d (pv 1) (Z0d (pv 2) Z01)))))) Z0f
   case s2=>exact Z0c (i:=5) scCopied.nd rfl (Or.inl rfl) (Z0q Z0w (Z0t hu (pv 1) Z09 (fun _ _=>rfl)) (Z05 GD hr1 (by rfl) G.U.mD G.U.D.kp G.U.bD .nil Z0e (Z0d (pv 0) (Z2x (Z0n Z0o (by rfl) G.U.T.len PySem.boot_len (Z08 (Z0t hu (pv 1) Z09 (fun _ _=>rfl)) Z01)) Z01))) (fun _ _=>rfl))
   case s3=>exact Z0c (i:=6) scCopied.nd rfl (Or.inl rfl) (Z0t hu (pv 1) Z09 (fun _ _=>rfl))
   case s4=>exact Z0c (i:=7) scCopied.nd rfl (Or.inl rfl) (Z05 GD hr1 (by rfl) G.U.mD G.U.D.kp G.U.bD .nil Z0e (Z0d (pv 0) (Z2x (Z0n Z0o (by rfl) G.U.T.len PySem.boot_len (Z0d (pv 6) Z01)) Z01)))
   case s5=>exact Z0c (i:=8) scCopied.nd rfl (Or.inr rfl) (Z0i Z2q (Z1e Z80 (pv 6) (Z1m (pv 7)) Z1z) (Z1e Z80 (pv 6) Z1z (Z1m (pv 7))))
   case s6=>
    refine' Z0x ?c (Z07 ?b) Z0f
    case c=>exact Z0b Z1d (Z05 GD hr1 (by rfl) G.U.mD G.U.D.kp G.U.bD .nil Z0e (Z0d (pv 0) (Z17 Z03 Z01))) Z03 (Z0k _)
    case b=>
     refine' Z0c (i:=8) scCopied.nd rfl (Or.inr rfl) (Z1s (N':=["_law_others","_law_name_here"]) (src:=[some 8,none]) ?k1 ?k5 ?k6 ?k7)
     case k1=>rfl
     case k5=>exact Z0m (Z06 Z4g) rfl ["_law_feed_here","_law_world_here","_law_bound_here","_law_below","_law_times","_law_seed","_law_names_here","_law_shift","_law_others","_law_found","_law_cost"] rfl (by decide+kernel)
     case k6=>exact Z1v (pv 6)
     case k7=>exact fun cl C ex s0 H0=>⟨Z0s (i:=1) Zmf rfl (Or.inl rfl),Z24,Z0q (Zau (K:=K) rfl) (pv 0) Z03 (fun _ _=>rfl)⟩
   case s7=>exact Z0c (i:=9) scCopied.nd rfl (Or.inl rfl) (Z05 GT hrM2 (by rfl) G.T.m G.T.F.kp G.T.b .nil Z0e (Z0d (pv 5) (Z0d (pv 6) (Z0d (pv 8) Z01))))
   case s8=>
    refine' Z0x ?c (Z07 ?b) Z0f
    case c=>exact Z0b Z1d (Z05 GD hr1 (by rfl) G.U.mD G.U.D.kp G.U.bD .nil Z0e (Z0d (pv 0) (Z17 Z03 Z01))) Z03 (Z0k _)
    case b=>exact Z0c (i:=9) scCopied.nd rfl (Or.inl rfl) (Z05 GX hrM3 (by rfl) G.S.m G.S.F.kp G.S.b .nil Z0e (Z0d (pv 9) (Z2x (Z05 GD hr1 (by rfl) G.U.mD G.U.D.kp G.U.bD .nil Z0e (Z0d (pv 0) (Z2x (Z05 GN hrM3 (by rfl) G.N.m G.N.F.kp G.N.b .nil Z0e (Z0d (pv 9) Z01)) Z01))) (Z2x (Z05 GL hr3 (by rfl) G.L.m G.L.F.kp G.L.b .nil Z0e (Z0d (pv 0) (Z0d (pv 1) (Z0d (pv 2) Z01)))) Z01))))
   case s9=>exact Z0c (i:=10) scCopied.nd rfl (Or.inl rfl) (Z0i Z1x (pv 4) (Z05 GK hrM3 (by rfl) G.Y.m G.Y.F.kp G.Y.b .nil Z0e (Z0d (pv 9) (Z08 (Z0t hu (pv 1) Z09 (fun _ _=>rfl)) Z01))))
   case s10=>
    refine' Z0x ?c (Z07 ?b) Z0f
    case c=>exact(Z5w (Z8p (Z5f (Z05 GR hrM3 (by rfl) G.R.m G.R.F.kp G.R.b .nil Z0e (Z0d (pv 9) (Z0d (pv 2) Z01))))) (Z5w (Z0b Zi0 (pv 10) (Z0i Z1l (Z0t hu (pv 1) Z09 (fun _ _=>rfl)) (Z0i Z1x Z03 (pv 4))) (Z0k _)) (Z5g (Z0b Zi0 (Z05 GN hrM3 (by rfl) G.N.m G.N.F.kp G.N.b .nil Z0e (Z0d (pv 9) Z01)) (Z0t hu (pv 1) Z09 (fun _ _=>rfl)) (Z0k _))))).pt
    case b=>exact Z0h (Z05 GL hr3 (by rfl) G.L.m G.L.F.kp G.L.b .nil Z0e (Z0d (pv 0) (Z0d (pv 1) (Z0d (pv 2) Z01))))
   case s11=>exact Z22 hu (pv 1) Z09 (Z0i Z1l (Z0t hu (pv 1) Z09 (fun _ _=>rfl)) (pv 10)) (by rfl)
   case s12=>exact Z22 hu (pv 1) Z09 (Z0i Z1l (Z0t hu (pv 1) Z09 (fun _ _=>rfl)) (Z05 GN hrM3 (by rfl) G.N.m G.N.F.kp G.N.b .nil Z0e (Z0d (pv 9) Z01))) (by rfl)
   case s13=>exact Z0h (pv 9)
  case fin=>
   have leaf:∀H4 n4,n4<=n+9->Ctx S M H H4 d l wd a i bd bs ns n4 r z->Z5n S M [.ref d,.ref wd,.ref bd] H4 (fun v H'=>Q v H') E:=by
    intro H4 n4 h4 C4
    refine⟨d,l,wd,a,i,bd,bs,ns,n4,r,z,rfl,by omega,C4.zero,fun v t n5 H5 hv hL hn5 C5=>?_⟩
    exact k v t n5 r z H5 hv (hL.1.le (by omega)) (by have:=hL.2;omega) hr0 (by omega) (C5.tail C4.b2)
   refine⟨fun σ' H'=>σ' = [some (.ref d),some (.ref wd),some (.ref bd),some (.int b),some (.int tm),none,none,none,none,none,none]/\Ctx S M H H' d l wd a i bd bs ns n r z/\0<i.sv.length,?_,?_⟩
   ·refine⟨_,rfl,wd,.ref a.sd,rfl,Z5c C0.W,Nat.zero_le _,fun q hq=>?_⟩
    have sq:=Z02 (o:=.lst []) hq
    have C1:=C0.same sq
    refine⟨a.sd,q,i.sv,rfl,rfl,SqL.of C1.N.sd,SqL.of Z00,_,rfl,Z1a (fun g=>⟨_,rfl,_,rfl,_,rfl,leaf _ n (by omega) C1⟩) (fun g=>⟨rfl,C1,?_⟩)⟩
    cases e:i.sv with
    |nil=>rw[e] at g;exact absurd rfl g
    |cons=>exact Nat.succ_pos _
   rintro σ1 H1 ⟨rfl,C1,hs0⟩
   have hs2:=C1.N.s2
   refine⟨_,rfl,wd,.ref a.sd,rfl,Z5c C1.W,_,rfl,_,rfl,wd,.ref a.sd,rfl,Z5c C1.W,a.sd,i.sv,rfl,.inl (SqL.of C1.N.sd),d,l,ns,n,_,rfl,C1.F,by omega,by omega,by omega,fun j n2 H2 j0 j1 hn2 F2 b2=>?_⟩
   have C2:=C1.draw b2 F2
   obtain⟨vs,hvs,hat⟩:=Z2w (xs:=i.sv) (i:=j) j0 j1
   obtain⟨jj,_,hjj,_⟩:=Z63 hat
   obtain⟨ts,hts,hsv⟩:=Z1f _ C2.N.ss hjj
   have pts:=C2.N.sp ts (mem_of_getElem? hts)
   have n1:=C2.N.n1
   have n2':=C2.N.n2
   refine⟨a.sd,i.sv,j,vs,rfl,rfl,SqL.of C2.N.sd,hat,?_⟩
   refine⟨_,rfl,wd,.ref a.nm,rfl,Z41 C2.W,?_⟩
   have hl1:((i.T1.map V.str).length:Int)=(i.T1.length:Int):=by rw[length_map]
   refine⟨_,rfl,_,rfl,a.nm,i.T1.map V.str,rfl,.inl (SqL.of C2.N.nm),d,l,ns,n2,_,rfl,C2.F,by omega,by show(0:Int)<((i.T1.map V.str).length:Int);omega,by show((i.T1.map V.str).length:Int)<18446744073709551616;omega,fun sh n3 H3 sh0 sh1 hn3 F3 b3=>?_⟩
   have C3:=C2.draw b3 F3
   have hsv3:=IsTh.kp (b3.kp C2.F) hsv
   clear C1 C2 hsv F2 F3 b2 b3
   let Oth:Hp->Addr->Prop:=fun H' oa=>∃T2:List Str,H' oa=some (.lst (T2.map V.str))/\T2.length=i.T1.length/\∀t∈T2,NmU S t
   refine⟨fun σ' H'=>∃oa,σ' = [some (.ref d),some (.ref wd),some (.ref bd),some (.int b),some (.int tm),some vs,some (.ref a.nm),some (.int sh),some (.ref oa),none,none]/\Oth H' oa/\IsTh H' vs ts/\Ctx S M H H' d l wd a i bd bs ns n3 r z,?_,?_⟩
   ·refine⟨_,rfl,_,rfl,sh,rfl,a.nm,_,rfl,SqL.of C3.N.nm,fun p1 hp1=>?_⟩
    rw[Z2n sh0 (by rw[length_map];omega)]
    have s1:=Z02 (o:=.lst ((i.T1.map V.str).drop sh.toNat)) hp1
    have C4:=C3.same s1
    refine⟨_,rfl,_,rfl,sh,rfl,a.nm,_,rfl,SqL.of C4.N.nm,fun p2 hp2=>?_⟩
    rw[Zds sh0 (by rw[length_map];omega)]
    have s2:=Z02 (o:=.lst ((i.T1.map V.str).take sh.toNat)) hp2
    have C5:=C4.same s2
    refine⟨p1,p2,_,_,rfl,rfl,s2 _ _ Z00,Z00,by rw[length_drop,length_take,length_map];omega,fun p3 hp3=>?_⟩
    have s3:=Z02 (o:=.lst ((i.T1.map V.str).drop sh.toNat++(i.T1.map V.str).take sh.toNat)) hp3
    refine⟨p3,rfl,⟨i.T1.drop sh.toNat++i.T1.take sh.toNat,?_,?_,?_⟩,IsTh.kp (Kp.of ((s1.trans s2).trans s3)) hsv3,C5.same s3⟩
    ·rw[Z00,map_append,List.map_drop,List.map_take]
    ·rw[length_append,length_drop,length_take];omega
    ·intro t ht
     rcases mem_append.mp ht with y|y
     ·exact C3.N.an t (List.mem_of_mem_drop y)
     ·exact C3.N.an t (mem_of_mem_take y)
   clear C3 hsv3
   rintro σ5 H5 ⟨oa,rfl,O5,hv5,C5⟩
   refine⟨fun σ' H'=>∃oa n',σ' = [some (.ref d),some (.ref wd),some (.ref bd),some (.int b),some (.int tm),some vs,some (.ref a.nm),some (.int sh),some (.ref oa),none,none]/\Oth H' oa/\n'<=n+3/\IsTh H' vs ts/\Ctx S M H H' d l wd a i bd bs ns n' r z,?_,?_⟩
   ·refine⟨_,rfl,d,l,ns,n3,_,rfl,C5.F,by omega,by decide,by decide,fun q n6 H6 q0 q1 hn6 F6 b6=>?_⟩
    have C6:=C5.draw b6 F6
    have hv6:=IsTh.kp (b6.kp C5.F) hv5
    obtain⟨T2,hT,hTl,hTn⟩:=O5
    have hT6:=C5.F.lst b6 hT
    refine⟨rfl,_,rfl,Z1a (fun g=>?_) (fun g=>⟨oa,n6,rfl,⟨T2,hT6,hTl,hTn⟩,by omega,hv6,C6⟩)⟩
    obtain⟨x0,hx0⟩:∃x,T2[0]? = some x:=⟨_,List.getElem?_eq_getElem (by omega)⟩
    refine⟨_,rfl,a.nm,rfl,⟨_,SqL.of C6.N.nm⟩,Z19 (K:=K) (a:=a.nm) (xs:=i.T1.map V.str) (fun j ys σc H'=>∃(o:Option V) (fs:List Str),σc = [some (.ref oa),o]/\H'=H6/\ys=fs.map V.str/\fs.length=j/\∀t∈fs,NmU S t)
      ⟨none,[],rfl,rfl,rfl,rfl,(fun t ht=>by cases ht)⟩ (fun i ys σc H' ⟨_,_,_,e,_⟩=>by rw[e];exact SqL.of C6.N.nm) ?_ ?_⟩
    ·rintro j x ys σc H' hx hj ⟨o,fs,rfl,rfl,rfl,hfl,hfa⟩
     rw[length_map] at hj
     refine⟨by rw[length_map];omega,?_⟩
     refine⟨_,rfl,oa,T2.map V.str,_,.str x0,rfl,rfl,SqL.of hT6,Z1r (j:=0) (by rw[List.getElem?_map,hx0];rfl),nx (by rw[length_map];exact hj) ⟨_,fs ++ [x0],rfl,rfl,by rw[map_append];rfl,by rw[length_append,hfl];rfl,fun u hu=>?_⟩⟩
     rcases mem_append.mp hu with y|y
     ·exact hfa u y
     ·rw[mem_singleton] at y;subst y;exact hTn u (mem_of_getElem? hx0)
    ·rintro ys σc H' ⟨o,fs,rfl,rfl,rfl,hfl,hfa⟩ q hq
     have sq:=Z02 (o:=.lst (fs.map V.str)) hq
     exact⟨q,n6,rfl,⟨fs,Z00,by rw[hfl,length_map],hfa⟩,by omega,IsTh.kp (Kp.of sq) hv6,C6.same sq⟩
   clear O5 C5 hv5
   rintro σ6 H6 ⟨oa,n6,rfl,⟨T2,hT,hTl,hTn⟩,hn6,hv6,C6⟩
   refine⟨_,rfl,_,rfl,_,rfl,vs,a.nm,oa,ts,i.T1,T2,rfl,hv6,pts,C6.N.nm,hT,hTl.symm,by omega,hTn,fun v7 t7 H7 s7 hv7 pf7 c7=>?_⟩
   have C7:=C6.same s7
   refine⟨fun σ' H'=>∃v8 t8 n8,σ' = [some (.ref d),some (.ref wd),some (.ref bd),some (.int b),some (.int tm),some vs,some (.ref a.nm),some (.int sh),some (.ref oa),some v8,none]/\n8<=n+9/\IsTh H' v8 t8/\PfT S (M+1) t8/\Ctx S M H H' d l wd a i bd bs ns n8 r z,?_,?_⟩
   ·refine⟨_,rfl,d,l,ns,n6,_,rfl,C7.F,by omega,by decide,by decide,fun q n8 H8 q0 q1 hn8 F8 b8=>?_⟩
    have C8:=C7.draw b8 F8
    have hv8:=IsTh.kp (b8.kp C7.F) hv7
    refine⟨rfl,_,rfl,Z1a (fun g=>?_) (fun g=>⟨v7,t7,n8,rfl,by omega,hv8,pf7.le (by omega),C8⟩)⟩
    have hc:=Z3q pf7
    refine⟨_,rfl,_,rfl,_,rfl,v7,t7,rfl,hv8,pf7.le (by omega),fun H9 s9=>?_⟩
    have C9:=C8.same s9
    have hcl:(cnt t7:Int)<18446744073709551616:=by
     have h1:=Zir M pf7
     have h2:7 ^ M<=7 ^ 20:=Nat.pow_le_pow_right (by decide) hM
     have h3:(7:Nat) ^ 20=79792266297612001:=by decide
     omega
    refine⟨d,l,ns,n8,_,rfl,C9.F,by omega,by omega,hcl,fun q2 n10 H10 y0 y1 hn10 F10 b10=>?_⟩
    have C10:=C9.draw b10 F10
    have hv10:=IsTh.kp (b10.kp C9.F) (IsTh.kp (Kp.of s9) hv8)
    refine⟨_,rfl,_,rfl,_,rfl,d,l,wd,a,i,bd,bs,ns,n10,r,z,rfl,by omega,C10.zero,fun vl tl n11 H11 hvl hL hn11 C11=>?_⟩
    have hv11:=IsTh.kp (C11.b2.kp C10.F C10.W) hv10
    refine⟨v7,vl,q2,t7,tl,rfl,hv11,pf7,hvl,hL.1,fun v12 t12 H12 s12 hv12 pf12 _=>?_⟩
    exact⟨v12,t12,n11,rfl,by omega,hv12,pf12,(C11.tail C10.b2).same s12⟩
   clear C6 C7 hv6 hv7 hT
   rintro σ8 H8 ⟨v8,t8,n8,rfl,hn8,hv8,pf8,C8⟩
   refine⟨_,rfl,_,rfl,_,rfl,wd,.ref a.wo,rfl,Z7o C8.W,v8,a.wo,t8,i.ρ,i.kvs,rfl,hv8,pf8,C8.N.wo,C8.N.wk,fun H9 s9=>?_⟩
   have C9:=C8.same s9
   have hv9:=IsTh.kp (Kp.of s9) hv8
   refine⟨_,_,rfl,rfl,.inl ⟨by omega,by omega⟩,?_⟩
   obtain⟨co,hco⟩:∃co,co=tm*wk i.ρ t8:=⟨_,rfl⟩
   refine⟨fun σ' H'=>σ' = [some (.ref d),some (.ref wd),some (.ref bd),some (.int b),some (.int tm),some vs,some (.ref a.nm),some (.int sh),some (.ref oa),some v8,some (.int co)]/\IsTh H' v8 t8/\(cnt t8:Int)<=r/\Ctx S M H H' d l wd a i bd bs ns n8 r z,?_,?_⟩
   ·have bl:=C9.bl
    refine⟨_,rfl,_,rfl,v8,bd,t8,bs,rfl,hv9,pf8,C9.B,by omega,fun rb H10 s10=>?_⟩
    have C10:=C9.same s10
    have hv10:=IsTh.kp (Kp.of s10) hv9
    refine⟨_,rfl,Z1a (fun g=>Zaq ⟨_,rfl,_,rfl,_,rfl,leaf _ n8 hn8 C10⟩) (fun g=>?_)⟩
    refine⟨_,rfl,_,rfl,wd,.int z,rfl,Z2s C10.W,_,rfl,_,_,rfl,rfl,.inl ⟨by decide,by decide⟩,_,_,rfl,rfl,_,_,rfl,rfl,_,rfl,Z1a (fun g=>Zaq ⟨_,rfl,_,rfl,_,rfl,leaf _ n8 hn8 C10⟩) (fun g=>?_)⟩
    refine⟨_,rfl,v8,t8,rfl,hv10,pf8,fun H11 s11=>?_⟩
    have C11:=C10.same s11
    have hv11:=IsTh.kp (Kp.of s11) hv10
    refine⟨_,rfl,wd,.int r,rfl,Z4x C11.W,_,_,rfl,rfl,_,rfl,Z1a (fun g=>⟨_,rfl,_,rfl,_,rfl,leaf _ n8 hn8 C11⟩) (fun g=>⟨by rw[hco];rfl,hv11,?_,C11⟩)⟩
    rw[decide_eq_true_iff] at g
    omega
   clear C8 C9 hv8 hv9
   rintro σ9 H9 ⟨rfl,hv9,hcr,C9⟩
   refine⟨_,rfl,wd,.int z,rfl,Z2s C9.W,_,rfl,_,_,rfl,rfl,_,rfl,wd,_,rfl,Z4y C9.W,?_⟩
   have C10:=C9.put (r2:=r) (z2:=z-co)
   have hv10:=IsTh.kp ((But2.upd (d:=d)).kp C9.F C9.W) hv9 (H':=upd H9 wd (.dK (Z0j a r (z-co))))
   refine⟨_,rfl,wd,.int r,rfl,Z4x C10.W,_,rfl,v8,t8,rfl,hv10,pf8,fun H11 s11=>?_⟩
   have C11:=C10.same s11
   have hv11:=IsTh.kp (Kp.of s11) hv10
   refine⟨_,_,rfl,rfl,_,rfl,wd,_,rfl,Z6q C11.W,?_⟩
   have C12:=C11.put (r2:=r-cnt t8) (z2:=z-co)
   have hv12:=IsTh.kp ((But2.upd (d:=d)).kp C11.F C11.W) hv11 (H':=upd H11 wd (.dK (Z0j a (r-cnt t8) (z-co))))
   refine⟨_,rfl,k v8 t8 n8 _ _ _ hv12 pf8 (by omega) (by omega) (by omega) C12⟩
end
def cD:Nat->Nat
 | 0=>0
 |N+1=>40+6*cD N
def tB (N:Nat):Int:=5 ^ (20-N)
theorem Zb6 (N:Nat):0<tB N:=Int.pow_pos (by decide)
theorem Za9 {N:Nat}(h:N<=10):tB N=5*tB (N+1):=by
 unfold tB
 rw[show 20-N=(20-(N+1))+1 by omega,Int.pow_succ]
 omega
theorem Zku:∀{N:Nat},N<=10->tB N<=95367431640625:=by
 intro N
 induction N with
 |zero=>intro _;exact Int.le_of_eq (by decide)
 |succ N ih=>
  intro h
  have h1:=ih (by omega)
  have h2:=Za9 (N:=N) (by omega)
  have h3:=Zb6 (N+1)
  omega
inductive spExpr_ (S:SS)(M N:Nat)(vs:List V)(H:Hp)(Q:VK):Prop
 |mk (d l wd:Addr) (a:WA) (i:WI) (bd:Addr) (bs:List Str) (ns:List Int) (n:Nat) (r z b tm:Int) (_:vs = [.ref d,.ref wd,.ref bd,.int b,.int tm]) (_:1<=N) (_:N<=10) (_:b<=N) (_:M<=20) (_:0<=tm) (_:tm<=tB N) (_:n+cD N<=600000000000) (_:bs.length+N<=100) (_:Ctx S M H H d l wd a i bd bs ns n r z) (_:∀(v:V) (t:Th) (n':Nat) (r' z':Int) H',IsTh H' v t->PfT S (M+N) t->(cnt t:Int)<=r-r'->(r<=6->r'=r-1)->(7<=r -> -5*(N:Int)<=r')->n'<=n+cD N->Ctx S M H H' d l wd a i bd bs ns n' r' z'->Q v H'):spExpr_ S M N vs H Q
def Z7q (S:SS)(M N:Nat):Sp:=fun vs H Q _=>spExpr_ S M N vs H Q
inductive spBound_ (S:SS)(M N:Nat)(vs:List V)(H:Hp)(Q:VK):Prop
 |mk (d l wd:Addr) (a:WA) (i:WI) (bd:Addr) (bs:List Str) (ns:List Int) (n:Nat) (r z b tm:Int) (kd:Str) (_:vs = [.ref d,.ref wd,.ref bd,.int b,.int tm,.str kd]) (_:1<=N) (_:N<=10) (_:b<=N+1) (_:M<=20) (_:0<=tm) (_:tm<=tB N) (_:n+(1+2*cD N)<=600000000000) (_:bs.length+(N+1)<=100) (_:6<=r) (_:Ctx S M H H d l wd a i bd bs ns n r z) (_:∀(v:V) (t:Th) (n':Nat) (r' z':Int) H',IsTh H' v t->PfT S (M+N+1) t->(cnt t:Int)<=1+r-r' -> -5*((N:Int)+1)<=r'->n'<=n+(1+2*cD N)->Ctx S M H H' d l wd a i bd bs ns n' r' z'->Q v H'):spBound_ S M N vs H Q
def Zea (S:SS)(M N:Nat):Sp:=fun vs H Q _=>spBound_ S M N vs H Q
inductive spCalled_ (S:SS)(M N:Nat)(vs:List V)(H:Hp)(Q:VK):Prop
 |mk (d l wd:Addr) (a:WA) (i:WI) (bd:Addr) (bs:List Str) (ns:List Int) (n:Nat) (r z b tm:Int) (_:vs = [.ref d,.ref wd,.ref bd,.int b,.int tm]) (_:1<=N) (_:N<=10) (_:b<=N+1) (_:M<=20) (_:0<=tm) (_:tm<=tB N) (_:n+(5+6*cD N)<=600000000000) (_:bs.length+(N+1)<=100) (_:6<=r) (_:Ctx S M H H d l wd a i bd bs ns n r z) (_:∀(v:V) (t:Th) (n':Nat) (r' z':Int) H',IsTh H' v t->PfT S (M+N+1) t->(cnt t:Int)<=1+r-r' -> -5*((N:Int)+1)<=r'->n'<=n+(5+6*cD N)->Ctx S M H H' d l wd a i bd bs ns n' r' z'->Q v H'):spCalled_ S M N vs H Q
def Zb7 (S:SS)(M N:Nat):Sp:=fun vs H Q _=>spCalled_ S M N vs H Q
theorem Z9n {S:SS}{w:Str}{hd:List V}{n:Nat}(h1:w≠"set")(h2:w≠"name")(h3:w≠"call")(h4:w≠"again")(lv:∀v∈hd,lfV v=true)(lw:lfV (.str w)=true)(sh:Sh S w hd n):HdE S w hd n:=
 ⟨fun z=>z.elim (fun q=>absurd q h1) (fun q=>absurd q h2),fun z=>absurd z h3,fun z=>absurd z h4,lv,lw,sh⟩
theorem Z4i {S:SS}{n:Nat}{w:Str}{hd:List V}{ks:List Th}(h1:hd.length<=1)(hp:∀v∈hd,plT (.at v)=true)(hl:w≠"let")(hE:HdE S w hd ks.length)(h5:ks.length<=6)(h6:∀k∈ks,PfT S n k):PfT S (n+1) (nd w hd ks):=
 ⟨w,hd,ks,rfl,h1,hp,fun z=>absurd z hl,hE,h5,h6⟩
theorem Z1i {α : Type}{p : α -> Prop}{x : α}(h:p x):∀y ∈ [x],p y:=fun y hy=>by rw[mem_singleton] at hy;rw[hy];exact h
theorem Z30 {α : Type}{p : α -> Prop}{x y : α}(h:p x)(g:p y):∀u ∈ [x,y],p u:=fun u hu=>by
 rcases mem_cons.mp hu with q|q
 ·rw[q];exact h
 ·exact Z1i g u q
theorem Zkv {S:SS}{n:Nat}{x:Str}{t:Th}(hx:NmU S x)(h:PfT S n t):PfT S (n+1) (nd "set" [.str x] [t]):=
 Z4i (Nat.le_refl _) (Z1i rfl) (by decide+kernel) ⟨fun _=>⟨x,rfl⟩,fun z=>absurd z (by decide+kernel),fun z=>absurd z (by decide+kernel),Z1i (Ze1 hx),by decide+kernel,.set hx⟩ (by show 1<=6;decide) (Z1i h)
theorem Zkw {S:SS}{n:Nat}{t:Th}(h:PfT S n t):PfT S (n+1) (nd "say" [] [t]):=
 Z4i (Nat.zero_le _) (fun v hv=>by cases hv) (by decide+kernel) (Z9n (by decide+kernel) (by decide+kernel) (by decide+kernel) (by decide+kernel) (fun v hv=>by cases hv) (by decide+kernel) .say) (by show 1<=6;decide) (Z1i h)
theorem Zeb {S:SS}{n:Nat}{x:Str}{t u:Th}(hx:NmU S x)(h:PfT S n t)(g:PfT S n u):PfT S (n+1) (nd "let" [.str x] [t,u]):=
 ⟨"let",[.str x],[t,u],rfl,Nat.le_refl _,Z1i rfl,fun _=>⟨⟨x,rfl⟩,rfl⟩,Z9n (by decide+kernel) (by decide+kernel) (by decide+kernel) (by decide+kernel) (Z1i (Ze1 hx)) (by decide+kernel) (.lt hx),by show 2<=6;decide,Z30 h g⟩
theorem Zb8 {S:SS}{n:Nat}{j:Int}{t:Th}(h0:0<=j)(h5:j<=5)(h:PfT S n t):PfT S (n+1) (nd "again" [.int j] [t]):=
 Z4i (Nat.le_refl _) (Z1i rfl) (by decide+kernel) ⟨fun z=>z.elim (fun q=>absurd q (by decide+kernel)) (fun q=>absurd q (by decide+kernel)),fun z=>absurd z (by decide+kernel),fun _=>⟨j,rfl,h0,h5⟩,Z1i (decide_eq_true (by omega)),by decide+kernel,.again h0 h5⟩ (by show 1<=6;decide) (Z1i h)
theorem Zis {S:SS}{n:Nat}{w:Str}{hd:List V}{t:Th}(h:PfT S n t):cnt (nd w hd [t])=1+cnt t:=by
 rw[Z18 (Z1i h.isTup)];simp [Z1o]
theorem Zec {S:SS}{n:Nat}{w:Str}{hd:List V}{t u:Th}(h:PfT S n t)(g:PfT S n u):cnt (nd w hd [t,u])=1+(cnt t+cnt u):=by
 rw[Z18 (Z30 h.isTup g.isTup)];simp [Z1o]
theorem Zmg:(["_law_bound_here","_law_name_here"]:List Str).Nodup:=by decide+kernel
section
variable {S:SS}{M:Nat}{P:Program}{w:World}{K:PySem.W.Frag}{mg:Str->Option Value}{base:Heap}{g:GenF}
theorem scBound:FnScope ["_law_feed_here","_law_world_here","_law_bound_here","_law_below","_law_times","_law_kind","_law_some","_law_name_here","_law_first"] ["_law_feed_here","_law_world_here","_law_bound_here","_law_below","_law_times","_law_kind"] (Z06 Z6g):=⟨rfl,rfl,rfl,by decide+kernel,rfl,by decide+kernel,by decide+kernel⟩
theorem Zge {f fE:Addr}{fd dE:FuncData}(F:Fun K "_law_bound" "_law_bound" Z6g f fd)(G:Gen K mg g)(FE:Fn K mg "_law_expr" Z88 ["_law_feed_here","_law_world_here","_law_bound_here","_law_below","_law_times"] fE dE){N c:Nat}
  (GE:FnOk P w K mg base CX0 c fE dE ["_law_feed_here","_law_world_here","_law_bound_here","_law_below","_law_times"] (Z7q S M N)) (hc:1<=c):
  FnOk P w K mg base CX0 (c+1) f fd ["_law_feed_here","_law_world_here","_law_bound_here","_law_below","_law_times","_law_kind"] (Zea S M N):=by
 have GD:FnOk P w K mg base CX0 1 g.fD g.dD ["_law_feed_here","_law_many"] spDraw:=G.gD
 refine F.ok scBound (fun vs H Q E h=>?_) (fun cdv A outer s H vs Q E hr h=>?_)
 ·obtain⟨d,l,wd,a,i,bd,bs,ns,n,r,z,b,tm,kd,rfl,_⟩:=h
  rfl
 ·obtain⟨d,l,wd,a,i,bd,bs,ns,n,r,z,b,tm,kd,rfl,hN1,hN10,hb,hM,ht0,ht1,hn,hbl,hr6,C0,k⟩:=h
  have hsz:sizeLine=16777216:=sizeLine_eq
  have hu:(_:Around).units+1<cLine:=Nat.lt_of_le_of_lt (Nat.add_le_add_left (by omega) _) hr.units
  have hu0:=hr.units0
  have hr1:Room 1 _:=hr.mono (by omega)
  refine'⟨?tt,?body,?fin⟩
  case body=>
   refine' Z0l ?s1 (Z0l ?s2 (Z04 ?s3 (Z07 ?s4)))
   case s1=>
    refine' Z35 (i:=6) (N':=["_law_bound_here","_law_name_here"]) (src:=[some 2,none]) ?k1 ?k2 ?k3 ?k4 ?k5 ?k6 ?k7
    case k1=>rfl
    case k2=>exact scBound.nd
    case k3=>rfl
    case k4=>exact Or.inl rfl
    case k5=>exact Z0m (Z06 Z6g) rfl ["_law_feed_here","_law_world_here","_law_bound_here","_law_below","_law_times","_law_kind","_law_some","_law_name_here","_law_first"] rfl (by decide+kernel)
    case k6=>exact Z1v (Z0t hu (pv 1) Z09 (fun _ _=>rfl))
    case k7=>exact fun cl C ex s0 H0=>⟨Z0s (i:=1) Zmg rfl (Or.inl rfl),Z4b (Z0b (Z4n (K:=K) rfl) (pv 1) (pv 0) (by with_unfolding_all rfl)),pv 1⟩
   case s2=>
    refine' Z0x ?c (Z04 ?e1 (Z07 ?e2)) Z0f
    case c=>exact(Z5h (Z0b Z1d (pv 5) Z09 (Z0k _)) (Z3j (Z0b (Z36 hu0) (pv 6) (Z0y Z01) (Z0k _)))).pt
    case e1=>exact Z0c (i:=7) scBound.nd rfl (Or.inl rfl) (Z0q Z0w (pv 6) (Z05 GD hr1 (by rfl) G.U.mD G.U.D.kp G.U.bD .nil Z0e (Z0d (pv 0) (Z2x (Z0n Z0o (by rfl) G.U.T.len PySem.boot_len (Z0d (pv 6) Z01)) Z01))) (fun _ _=>rfl))
    case e2=>exact Z0h (Z12 (Z17 Z09 (Z0d (pv 7) (Z2x (Z05 GE hr (by rfl) FE.m FE.F.kp FE.b .nil Z0e (Z0d (pv 0) (Z0d (pv 1) (Z0d (pv 2) (Z08 (Z0i Z1l (pv 3) Z03) (Z0d (pv 4) Z01)))))) Z01))))
   case s3=>
    refine' Z0x ?c (Z04 ?e0 (Z04 ?e1 (Z04 ?e2 (Z07 ?e3)))) Z0f
    case c=>exact Z0b Z1d (pv 5) Z09 (Z0k _)
    case e0=>exact Z0c (i:=6) scBound.nd rfl (Or.inl rfl) (Z0i Z2q (Z0t hu (pv 1) Z09 (fun _ _=>rfl)) (Z0t hu (pv 1) Z09 (fun _ _=>rfl)))
    case e1=>exact Z0c (i:=7) scBound.nd rfl (Or.inl rfl) (Z0q Z0w (pv 6) (Z05 GD hr1 (by rfl) G.U.mD G.U.D.kp G.U.bD .nil Z0e (Z0d (pv 0) (Z2x (Z0n Z0o (by rfl) G.U.T.len PySem.boot_len (Z0d (pv 6) Z01)) Z01))) (fun _ _=>rfl))
    case e2=>exact Z0c (i:=8) scBound.nd rfl (Or.inl rfl) (Z05 GE hr (by rfl) FE.m FE.F.kp FE.b .nil Z0e (Z0d (pv 0) (Z0d (pv 1) (Z0d (pv 2) (Z08 (Z0i Z1l (pv 3) Z03) (Z0d (pv 4) Z01))))))
    case e3=>exact Z0h (Z12 (Z17 Z09 (Z0d (pv 7) (Z0d (pv 8) (Z2x (Z05 GE hr (by rfl) FE.m FE.F.kp FE.b .nil Z0e (Z0d (pv 0) (Z0d (pv 1) (Z08 (Z0i Z2q (pv 2) (Z0y (Z0d (pv 7) Z01))) (Z08 (Z0i Z1l (pv 3) Z03) (Z0d (pv 4) Z01)))))) Z01)))))
   case s4=>exact Z0h (Z12 (Z17 Z09 (Z2x (Z05 GE hr (by rfl) FE.m FE.F.kp FE.b .nil Z0e (Z0d (pv 0) (Z0d (pv 1) (Z0d (pv 2) (Z08 (Z0i Z1l (pv 3) Z03) (Z0d (pv 4) Z01)))))) Z01)))
  case fin=>
   have n1:=C0.N.n1
   have n2:=C0.N.n2
   have l2:=C0.N.l2
   refine⟨fun σ' H'=>∃(fr:Addr) (fs:List Str),σ' = [some (.ref d),some (.ref wd),some (.ref bd),some (.int b),some (.int tm),some (.str kd),some (.ref fr),none,none]/\H' fr=some (.lst (fs.map V.str))/\(∀t∈fs,NmU S t)/\fs.length<=10/\Ctx S M H H' d l wd a i bd bs ns n r z,?_,?_⟩
   ·refine⟨_,rfl,wd,.ref a.nm,rfl,Z41 C0.W,a.nm,rfl,⟨_,SqL.of C0.N.nm⟩,Z19 (K:=K) (a:=a.nm) (xs:=i.T1.map V.str) (fun j ys σc H'=>∃(o:Option V) (fs:List Str),σc = [some (.ref bd),o]/\H'=H/\ys=fs.map V.str/\fs.length<=j/\∀t∈fs,NmU S t)
      ⟨none,[],rfl,rfl,rfl,Nat.le_refl _,(fun t ht=>by cases ht)⟩ (fun i ys σc H' ⟨_,_,_,e,_⟩=>by rw[e];exact SqL.of C0.N.nm) ?_ ?_⟩
    ·rintro j x ys σc H' hx hj ⟨o,fs,rfl,rfl,rfl,hfl,hfa⟩
     obtain⟨t,ht,rfl⟩:=mem_map.mp (mem_of_getElem? hx)
     have hj':j<10:=by
      rw[length_map] at hj
      omega
     refine⟨by rw[length_map];omega,?_⟩
     refine⟨_,rfl,_,rfl,bd,bs.map V.str,rfl,.inl (SqL.of C0.B),rfl,Z1p bs,_,rfl,Z1a (fun g=>?_) (fun g=>?_)⟩
     ·refine⟨_,rfl,nx hj ⟨_,fs ++ [t],rfl,rfl,by rw[map_append];rfl,by rw[length_append,length_singleton];omega,fun u hu=>?_⟩⟩
      rcases mem_append.mp hu with y|y
      ·exact hfa u y
      ·rw[mem_singleton] at y;subst y;exact C0.N.an u ht
     ·exact nx hj ⟨_,fs,rfl,rfl,rfl,by omega,hfa⟩
    ·rintro ys σc H' ⟨o,fs,rfl,rfl,rfl,hfl,hfa⟩ q hq
     rw[length_map] at hfl
     exact⟨q,fs,rfl,Z00,hfa,by omega,C0.same (Z02 hq)⟩
   rintro σ1 H1 ⟨fr,fs,rfl,S1,hfn,hfl,C1⟩
   refine⟨fun σ' H'=>σ' = [some (.ref d),some (.ref wd),some (.ref bd),some (.int b),some (.int tm),some (.str kd),some (.ref fr),none,none]/\Ctx S M H H' d l wd a i bd bs ns n r z,?_,?_⟩
   ·refine⟨_,rfl,rfl,_,rfl,Z1a (fun g=>?_) (fun g=>Za0 ⟨rfl,C1⟩)⟩
    refine⟨_,rfl,Nat.zero_le _,fun e he=>?_⟩
    have se:=Z02 (o:=.lst []) he
    have C2:=C1.same se
    refine⟨fr,e,fs.map V.str,[],rfl,rfl,SqL.of (se _ _ S1),SqL.of Z00,Z1p fs,rfl,_,rfl,Z1a (fun g2=>?_) (fun g2=>⟨rfl,C2⟩)⟩
    have hf0:0<fs.length:=by
     cases fs with
     |nil=>exact absurd g2 (by decide)
     |cons=>exact Nat.succ_pos _
    have hl1:((fs.map V.str).length:Int)=(fs.length:Int):=by rw[length_map]
    refine⟨_,rfl,_,rfl,_,rfl,fr,fs.map V.str,rfl,.inl (SqL.of (se _ _ S1)),d,l,ns,n,_,rfl,C2.F,by omega,by show(0:Int)<((fs.map V.str).length:Int);omega,by show((fs.map V.str).length:Int)<18446744073709551616;omega,fun q n3 H3 q0 q1 hn3 F3 b3=>?_⟩
    have C3:=C2.draw b3 F3
    obtain⟨vx,hvx,hat⟩:=Z2w (xs:=fs.map V.str) (i:=q) q0 q1
    obtain⟨x,hx,rfl⟩:=mem_map.mp hvx
    refine⟨fr,fs.map V.str,q,.str x,rfl,rfl,SqL.of (C2.F.lst b3 (se _ _ S1)),hat,?_⟩
    refine⟨_,rfl,_,rfl,_,rfl,_,rfl,_,rfl,_,_,rfl,rfl,_,rfl,d,l,wd,a,i,bd,bs,ns,n3,r,z,b-1,tm,rfl,hN1,hN10,by omega,hM,ht0,ht1,by omega,by omega,C3.zero,fun v4 t4 n4 r4 z4 H4 h4 p4 c4 y1 y2 hn4 C4=>⟨(by show 3<=sizeLine;decide),fun p hp=>?_⟩⟩
    have sp:=Z02 (o:=.tup [.str "set",.str x,v4]) hp
    have hk:=Z3q p4
    refine k (.ref p) (nd "set" [.str x] [t4]) n4 r4 z4 _ (.tup Z00 (.cons (.at (by decide+kernel)) (.cons (.at (Z2k (hfn x hx))) (.cons (IsTh.kp (Kp.of sp) h4) .nil)))) (Zkv (hfn x hx) p4) ?_ (by omega) (by omega) ((C4.tail C3.b2).same sp)
    rw[Zis p4]
    omega
   clear C1 S1 hfn hfl
   rintro σ2 H2 ⟨rfl,C2⟩
   refine⟨_,rfl,rfl,_,rfl,Z1a (fun g=>?_) (fun g=>?_)⟩
   ·refine⟨_,rfl,wd,.ref a.nm,rfl,Z41 C2.W,_,rfl,wd,.ref a.lt,rfl,Ze8 C2.W,a.nm,a.lt,i.T1.map V.str,i.T2.map V.str,rfl,rfl,C2.N.nm,C2.N.lt,by rw[length_map,length_map];omega,fun c hc=>?_⟩
    have sc:=Z02 (o:=.lst (i.T1.map V.str++i.T2.map V.str)) hc
    have C3:=C2.same sc
    have hE:upd H2 c (.lst (i.T1.map V.str++i.T2.map V.str)) c=some (.lst (i.T1.map V.str++i.T2.map V.str)):=Z00
    have hEl:(i.T1.map V.str++i.T2.map V.str).length=i.T1.length+i.T2.length:=by simp only [length_append,length_map]
    have hEn:∀v∈i.T1.map V.str++i.T2.map V.str,∃x,v = .str x/\NmU S x:=by
     intro v hv
     rcases mem_append.mp hv with y|y
     ·obtain⟨x,hx,rfl⟩:=mem_map.mp y;exact⟨x,rfl,C2.N.an x hx⟩
     ·obtain⟨x,hx,rfl⟩:=mem_map.mp y;exact⟨x,rfl,C2.N.bn x hx⟩
    generalize upd H2 c (.lst (i.T1.map V.str++i.T2.map V.str))=H3 at C3 hE
    generalize i.T1.map V.str++i.T2.map V.str=es at hE hEl hEn
    have hl1:(es.length:Int)=((i.T1.length+i.T2.length:Nat):Int):=by rw[hEl]
    refine⟨_,rfl,_,rfl,_,rfl,c,es,rfl,.inl (SqL.of hE),d,l,ns,n,_,rfl,C3.F,by omega,by show(0:Int)<(es.length:Int);omega,by show(es.length:Int)<18446744073709551616;omega,fun q n4 H4 q0 q1 hn4 F4 b4=>?_⟩
    have C4:=C3.draw b4 F4
    obtain⟨vx,hvx,hat⟩:=Z2w (xs:=es) (i:=q) q0 q1
    obtain⟨x,rfl,hx⟩:=hEn vx hvx
    refine⟨c,es,q,.str x,rfl,rfl,SqL.of (C3.F.lst b4 hE),hat,?_⟩
    refine⟨_,rfl,_,rfl,_,rfl,_,rfl,_,_,rfl,rfl,_,rfl,d,l,wd,a,i,bd,bs,ns,n4,r,z,b-1,tm,rfl,hN1,hN10,by omega,hM,ht0,ht1,by omega,by omega,C4.zero,fun v5 t5 n5 r5 z5 H5 h5 p5 c5 y1 y2 hn5 C5'=>?_⟩
    have C5:=C5'.tail C4.b2
    have hk5:=Z3q p5
    refine⟨_,rfl,_,rfl,_,rfl,_,rfl,_,rfl,_,rfl,(by show 1<=sizeLine;decide),fun c1 hc1=>?_⟩
    have sc1:=Z02 (o:=.lst [.str x]) hc1
    refine⟨bd,c1,bs.map V.str,[.str x],rfl,rfl,sc1 _ _ C5.B,Z00,by rw[length_map,length_singleton];omega,fun c2 hc2=>?_⟩
    have sc2:=Z02 (o:=.lst (bs.map V.str ++ [.str x])) hc2
    have C6:=(C5.same sc1).same sc2
    have C7:=C6.bind (b2:=c2) (bs2:=bs ++ [x]) (by rw[Z00,map_append];rfl) (by rw[length_append,length_singleton];omega) (fun t ht=>(mem_append.mp ht).elim (C6.bn t) (fun q=>by rw[mem_singleton] at q;rw[q];exact hx))
    refine⟨_,rfl,_,_,rfl,rfl,_,rfl,d,l,wd,a,i,c2,bs ++ [x],ns,n5,r5,z5,b-1,tm,rfl,hN1,hN10,by omega,hM,ht0,ht1,by omega,by rw[length_append,length_singleton];omega,C7.zero,fun v8 t8 n8 r8 z8 H8 h8 p8 c8 y3 y4 hn8 C8=>⟨(by show 4<=sizeLine;decide),fun p hp=>?_⟩⟩
    have C9:=C6.go C8.b2 C8.F C8.W
    have hv5:=IsTh.kp (C8.b2.kp C6.F C6.W) (IsTh.kp (Kp.of (sc1.trans sc2)) h5)
    have sp:=Z02 (o:=.tup [.str "let",.str x,v5,v8]) hp
    have hk8:=Z3q p8
    refine k (.ref p) (nd "let" [.str x] [t5,t8]) n8 r8 z8 _ (.tup Z00 (.cons (.at (by decide+kernel)) (.cons (.at (Z2k hx)) (.cons (IsTh.kp (Kp.of sp) hv5) (.cons (IsTh.kp (Kp.of sp) h8) .nil))))) (Zeb hx p5 p8) ?_ (by omega) (by omega) (C9.same sp)
    rw[Zec p5 p8]
    omega
   ·refine⟨_,rfl,_,rfl,_,rfl,_,rfl,_,_,rfl,rfl,_,rfl,d,l,wd,a,i,bd,bs,ns,n,r,z,b-1,tm,rfl,hN1,hN10,by omega,hM,ht0,ht1,by omega,by omega,C2.zero,fun v4 t4 n4 r4 z4 H4 h4 p4 c4 y1 y2 hn4 C4=>⟨(by show 2<=sizeLine;decide),fun p hp=>?_⟩⟩
    have sp:=Z02 (o:=.tup [.str "say",v4]) hp
    have hk:=Z3q p4
    refine k (.ref p) (nd "say" [] [t4]) n4 r4 z4 _ (.tup Z00 (.cons (.at (by decide+kernel)) (.cons (IsTh.kp (Kp.of sp) h4) .nil))) (Zkw p4) ?_ (by omega) (by omega) ((C4.tail C2.b2).same sp)
    rw[Zis p4]
    omega
end
theorem Zaa {S:SS}{n:Nat}{x:Str}{ks:List Th}(hS:x∈S.c)(hx:NmU S x)(h5:ks.length<=6)(h:∀k∈ks,PfT S n k):PfT S (n+1) (nd "call" [.str x] ks):=
 Z4i (Nat.le_refl _) (Z1i rfl) (by decide+kernel) ⟨fun z=>z.elim (fun q=>absurd q (by decide+kernel)) (fun q=>absurd q (by decide+kernel)),fun _=>⟨x,rfl,hS⟩,fun z=>absurd z (by decide+kernel),Z1i (Ze1 hx),by decide+kernel,.call hS hx h5⟩ h5 h
theorem Z9o:(["_law_feed_here","_law_world_here","_law_bound_here","_law_below","_law_times","_law_k"]:List Str).Nodup:=by decide+kernel
def Rooms (N:Nat)(r:Int)(j:Nat)(r':Int):Prop:=(j=0->r'=r)/\(1<=j -> -5*(N:Int)-((j:Int)-1)<=r')
theorem Rooms.next {N j:Nat}{r r1 r2:Int}(hN:1<=N)(h6:6<=r)(h:Rooms N r j r1)(y1:r1<=6->r2=r1-1)(y2:7<=r1 -> -5*(N:Int)<=r2):Rooms N r (j+1) r2:=by
 obtain⟨a,b⟩:=h
 refine⟨fun z=>absurd z (Nat.succ_ne_zero _),fun _=>?_⟩
 by_cases hj:j=0
 ·have:=a hj
  omega
 ·have:=b (by omega)
  omega
section
variable {S:SS}{M:Nat}{P:Program}{w:World}{K:PySem.W.Frag}{mg:Str->Option Value}{base:Heap}{g:GenF}
theorem scCalled:FnScope ["_law_feed_here","_law_world_here","_law_bound_here","_law_below","_law_times","_law_name_here","_law_many","_law_cost"] ["_law_feed_here","_law_world_here","_law_bound_here","_law_below","_law_times"] (Z06 Z4h):=⟨rfl,rfl,rfl,by decide+kernel,rfl,by decide+kernel,by decide+kernel⟩
theorem Zed {f fE:Addr}{fd dE:FuncData}(F:Fun K "_law_called" "_law_called" Z4h f fd)(G:Gen K mg g)(FE:Fn K mg "_law_expr" Z88 ["_law_feed_here","_law_world_here","_law_bound_here","_law_below","_law_times"] fE dE){N c:Nat}
  (GE:FnOk P w K mg base CX0 c fE dE ["_law_feed_here","_law_world_here","_law_bound_here","_law_below","_law_times"] (Z7q S M N)) (hc:3<=c):
  FnOk P w K mg base CX0 (c+1) f fd ["_law_feed_here","_law_world_here","_law_bound_here","_law_below","_law_times"] (Zb7 S M N):=by
 have GD:FnOk P w K mg base CX0 1 g.fD g.dD ["_law_feed_here","_law_many"] spDraw:=G.gD
 have GL:FnOk P w K mg base CX0 3 g.fL g.dL ["_law_feed_here","_law_world_here","_law_bound_here"] (Z5n S M):=G.gL
 refine F.ok scCalled (fun vs H Q E h=>?_) (fun cdv A outer s H vs Q E hr h=>?_)
 ·obtain⟨d,l,wd,a,i,bd,bs,ns,n,r,z,b,tm,rfl,_⟩:=h
  rfl
 ·obtain⟨d,l,wd,a,i,bd,bs,ns,n,r,z,b,tm,rfl,hN1,hN10,hb,hM,ht0,ht1,hn,hbl,hr6,C0,k⟩:=h
  have hsz:sizeLine=16777216:=sizeLine_eq
  have htb:=Zku hN10
  have hu:(_:Around).units+1<cLine:=Nat.lt_of_le_of_lt (Nat.add_le_add_left (by omega) _) hr.units
  have hu0:=hr.units0
  have hr1:Room 1 _:=hr.mono (by omega)
  have hr3:Room 3 _:=hr.mono (by omega)
  refine'⟨?tt,?body,?fin⟩
  case body=>
   refine' Z0l ?s1 (Z0l ?s2 (Z04 ?s3 (Z04 ?s4 (Z04 ?s5 (Z07 ?s6)))))
   case s1=>exact Z0x (Z0b (Z4p hu0) (Z0t hu (pv 1) Z09 (fun _ _=>rfl)) (Z0y Z01) (Z0k _)) (Z07 (Z0h (Z05 GL hr3 (by rfl) G.L.m G.L.F.kp G.L.b .nil Z0e (Z0d (pv 0) (Z0d (pv 1) (Z0d (pv 2) Z01)))))) Z0f
   case s2=>exact Zah (Z0q Z0w (Z0t hu (pv 1) Z09 (fun _ _=>rfl)) (Z05 GD hr1 (by rfl) G.U.mD G.U.D.kp G.U.bD .nil Z0e (Z0d (pv 0) (Z2x (Z0n Z0o (by rfl) G.U.T.len PySem.boot_len (Z08 (Z0t hu (pv 1) Z09 (fun _ _=>rfl)) Z01)) Z01))) (fun _ _=>rfl)) (Z5x rfl (Z1j (Z0s (i:=5) scCalled.nd rfl (Or.inl rfl)) (Z1j (Z0s (i:=6) scCalled.nd rfl (Or.inl rfl)) Z49)))
   case s3=>exact Z0c (i:=7) scCalled.nd rfl (Or.inl rfl) (Z0i Z1x (pv 4) (Z0t hu (Z0t hu (pv 1) Z09 (fun _ _=>rfl)) (pv 5) (fun _ _=>rfl)))
   case s4=>exact Z0x (Z0b Z9x (Z0t hu (pv 1) Z09 (fun _ _=>rfl)) (Z0i Z1h (Z0i Z1x Z03 (pv 4)) (pv 7)) (Z0k _)) (Z07 (Z0h (Z05 GL hr3 (by rfl) G.L.m G.L.F.kp G.L.b .nil Z0e (Z0d (pv 0) (Z0d (pv 1) (Z0d (pv 2) Z01)))))) Z0f
   case s5=>exact Z22 hu (pv 1) Z09 (Z0i Z1l (Z0t hu (pv 1) Z09 (fun _ _=>rfl)) (pv 7)) (by rfl)
   case s6=>
    refine' Z0h (Z14 Z1q (by rfl) G.X.T.tup (by decide+kernel) (Z08 (Z0i Z2q (Z0y (Z17 Z09 (Z0d (pv 5) Z01))) ?x) Z01))
    case x=>
     refine' Z1s (N':=["_law_feed_here","_law_world_here","_law_bound_here","_law_below","_law_times","_law_k"]) (src:=[some 0,some 1,some 2,some 3,some 4,none]) ?k1 ?k5 ?k6 ?k7
     case k1=>rfl
     case k5=>exact Z0m (Z06 Z4h) rfl ["_law_feed_here","_law_world_here","_law_bound_here","_law_below","_law_times","_law_name_here","_law_many","_law_cost"] rfl (by decide+kernel)
     case k6=>exact Z1y (by rfl) G.U.T.range (Z0d (pv 6) Z01)
     case k7=>exact fun cl C ex s0 H0=>⟨Z0s (i:=5) Z9o rfl (Or.inl rfl),Z24,Z05 GE hr (by rfl) FE.m FE.F.kp FE.b .nil Z0e (Z0d (pv 0) (Z0d (pv 1) (Z0d (pv 2) (Z08 (Z0i Z1l (pv 3) Z03) (Z0d (pv 4) Z01)))))⟩
  case fin=>
   have leaf:∀H4 n4,n4<=n+1->Ctx S M H H4 d l wd a i bd bs ns n4 r z->Z5n S M [.ref d,.ref wd,.ref bd] H4 (fun v H'=>Q v H') E:=by
    intro H4 n4 h4 C4
    refine⟨d,l,wd,a,i,bd,bs,ns,n4,r,z,rfl,by omega,C4.zero,fun v t n5 H5 hv hL hn5 C5=>?_⟩
    exact k v t n5 r z H5 hv (hL.1.le (by omega)) (by have:=hL.2;omega) (by omega) (by omega) (C5.tail C4.b2)
   refine⟨fun σ' H'=>σ' = [some (.ref d),some (.ref wd),some (.ref bd),some (.int b),some (.int tm),none,none,none]/\Ctx S M H H' d l wd a i bd bs ns n r z/\0<i.fv.length,?_,?_⟩
   ·refine⟨_,rfl,wd,.ref a.fn,rfl,Z2z C0.W,Nat.zero_le _,fun q hq=>?_⟩
    have sq:=Z02 (o:=.lst []) hq
    have C1:=C0.same sq
    refine⟨a.fn,q,i.fv,rfl,rfl,SqL.of C1.N.fn,SqL.of Z00,_,rfl,Z1a (fun g=>⟨_,rfl,_,rfl,_,rfl,leaf _ n (by omega) C1⟩) (fun g=>⟨rfl,C1,?_⟩)⟩
    cases e:i.fv with
    |nil=>rw[e] at g;exact absurd rfl g
    |cons=>exact Nat.succ_pos _
   rintro σ1 H1 ⟨rfl,C1,hs0⟩
   have hf2:=C1.N.f2
   refine⟨fun σ' H'=>∃(x:Str) (m:Int) (n':Nat),σ' = [some (.ref d),some (.ref wd),some (.ref bd),some (.int b),some (.int tm),some (.str x),some (.int m),none]/\x∈S.c/\NmU S x/\0<=m/\m<=6/\n'<=n+1/\Ctx S M H H' d l wd a i bd bs ns n' r z,?_,?_⟩
   ·refine⟨_,rfl,wd,.ref a.fn,rfl,Z2z C1.W,_,rfl,_,rfl,wd,.ref a.fn,rfl,Z2z C1.W,a.fn,i.fv,rfl,.inl (SqL.of C1.N.fn),d,l,ns,n,_,rfl,C1.F,by omega,by omega,by omega,fun j n2 H2 j0 j1 hn2 F2 b2=>?_⟩
    have C2:=C1.draw b2 F2
    obtain⟨vf,hvf,hat⟩:=Z2w (xs:=i.fv) (i:=j) j0 j1
    obtain⟨c,x,m,rfl,hcx,hxS,hxN,hm0,hm6⟩:=C2.N.fe vf hvf
    refine⟨a.fn,i.fv,j,.ref c,rfl,rfl,SqL.of C2.N.fn,hat,?_⟩
    exact⟨c,_,rfl,SqT.of hcx,rfl,_,_,rfl,_,_,rfl,rfl,x,m,n2,rfl,hxS,hxN,hm0,hm6,hn2,C2⟩
   clear C1 hs0 hf2
   rintro σ2 H2 ⟨x,m,n2,rfl,hxS,hxN,hm0,hm6,hn2,C2⟩
   have hg:DGet H2 a.wo (.str x) (some (.int (i.ρ x))):=by
    have:=DGet.k (k:=Sum.inr x) C2.N.wo
    rw[C2.N.wk x hxS] at this
    exact this
   refine⟨_,rfl,_,rfl,wd,.ref a.wo,rfl,Z7o C2.W,_,rfl,a.wo,_,rfl,hg,_,_,rfl,rfl,.inl ⟨by omega,by omega⟩,?_⟩
   refine⟨_,rfl,wd,.int z,rfl,Z2s C2.W,_,rfl,_,_,rfl,rfl,.inl ⟨by decide,by decide⟩,_,rfl,_,_,rfl,rfl,_,_,rfl,rfl,_,rfl,Z1a (fun g=>⟨_,rfl,_,rfl,_,rfl,leaf _ n2 hn2 C2⟩) (fun g=>?_)⟩
   refine⟨_,rfl,wd,.int z,rfl,Z2s C2.W,_,rfl,_,_,rfl,rfl,_,rfl,wd,_,rfl,Z4y C2.W,?_⟩
   have C3:=C2.put (r2:=r) (z2:=z-tm*i.ρ x)
   refine⟨_,rfl,(by show 2<=sizeLine;decide),fun h hh=>?_⟩
   have sh:=Z02 (o:=.lst [.str "call",.str x]) hh
   have C4:=C3.same sh
   have hH:upd (upd H2 wd (.dK (Z0j a r (z-tm*i.ρ x)))) h (.lst [.str "call",.str x]) h=some (.lst [.str "call",.str x]):=Z00
   generalize upd (upd H2 wd (.dK (Z0j a r (z-tm*i.ρ x)))) h (.lst [.str "call",.str x])=H4 at C4 hH
   refine⟨_,rfl,m,rfl,by omega,by omega,Z55 (lo:=0) (n:=m.toNat) (fun j ys σc H'=>∃(n':Nat) (o:Option V) (r' z':Int) (cs:List Th),σc = [some (.ref d),some (.ref wd),some (.ref bd),some (.int b),some (.int tm),o]/\Ctx S M H4 H' d l wd a i bd bs ns n' r' z'/\n'<=n2+j*cD N/\Rooms N r j r'/\IsThs H' ys cs/\cs.length=j/\(∀c∈cs,PfT S (M+N) c)/\(Z1o cs:Int)<=r-r')
    ⟨n2,none,r,_,[],rfl,C4.zero,by omega,⟨fun _=>rfl,fun q=>absurd q (by decide)⟩,.nil,rfl,(fun c hc=>by cases hc),by simp [Z1o]⟩ ?_ ?_⟩
   ·rintro j ys σc H' hj ⟨n',o,r',z',cs,rfl,C',hn',hR,hcs,hcl,hca,hcz⟩
    have hmul:j*cD N<=5*cD N:=Nat.mul_le_mul_right _ (by omega)
    have hys:=IsThs.len _ hcs
    refine⟨by omega,?_⟩
    refine⟨_,rfl,_,rfl,_,rfl,_,rfl,_,_,rfl,rfl,_,rfl,d,l,wd,a,i,bd,bs,ns,n',r',z',b-1,tm,rfl,hN1,hN10,by omega,hM,ht0,ht1,by omega,by omega,C'.zero,fun v t n5 r5 z5 H5 h5 p5 c5 y1 y2 hn5 C5=>?_⟩
    refine nx hj ⟨n5,_,r5,z5,cs ++ [t],rfl,C5.tail C'.b2,by rw[Nat.succ_mul];omega,hR.next hN1 hr6 y1 y2,IsThs.app _ (IsThs.kp (C5.b2.kp C'.F C'.W) hcs) (.cons h5 .nil),by rw[length_append,hcl];rfl,fun c hc=>?_,?_⟩
    ·rcases mem_append.mp hc with y|y
     ·exact hca c y
     ·rw[mem_singleton] at y;subst y;exact p5
    ·rw[Z2r]
     omega
   ·rintro ys σc H' ⟨n',o,r',z',cs,rfl,C',hn',hR,hcs,hcl,hca,hcz⟩ q hq
    have hys:=IsThs.len _ hcs
    have sq:=Z02 (o:=.lst ys) hq
    have D':=sq _ _ (C'.b2.kp C4.F C4.W _ _ hH (fun _ z=>by cases z))
    have hmul:m.toNat*cD N<=6*cD N:=Nat.mul_le_mul_right _ (by omega)
    refine⟨h,q,_,ys,rfl,rfl,D',Z00,by show 2+ys.length<=sizeLine;omega,fun r3 hr3=>?_⟩
    have s3:=Z02 (o:=.lst ([.str "call",.str x]++ys)) hr3
    refine⟨r3,[.str "call",.str x]++ys,rfl,.inl ⟨SqL.of Z00,fun p hp=>?_⟩⟩
    have sp:=Z02 (o:=.tup ([.str "call",.str x]++ys)) hp
    have sA:=(sq.trans s3).trans sp
    refine k (.ref p) (nd "call" [.str x] cs) n' r' z' _ (.tup Z00 (.cons (.at (by decide+kernel)) (.cons (.at (Z2k hxN)) (IsThs.kp (Kp.of sA) hcs)))) (Zaa hxS hxN (by omega) hca) ?_ ?_ (by omega) ((C'.tail C4.b2).same sA)
    ·rw[Z18 fun k hk=>(hca k hk).isTup]
     omega
    ·obtain⟨e1,e2⟩:=hR
     by_cases hj:m.toNat=0
     ·have:=e1 hj;omega
     ·have:=e2 (by omega);omega
end
def kinds14:List Str:=["op","op","copy","pick","let","set","say","do","again","call","copy","op","leaf","let"]
abbrev signs6:Str:="+-*/<="
theorem Zgf:∀c∈signs6.cps.toList,c<200:=by decide+kernel
structure OwnOk (S:SS)(wo:Str)(own:List V)(n:Nat):Prop where
 e:HdE S wo own n
 n:wo≠"let"
 l:own.length<=1
 p:∀v∈own,plT (.at v)=true
 s:∀v∈own,smallV v=true
 t:smallV (.str wo)=true
theorem Zhn {S:SS}{n:Nat}(h1:1<=n)(h6:n<=6):OwnOk S "do" [] n:=
 ⟨Z9n (by decide+kernel) (by decide+kernel) (by decide+kernel) (by decide+kernel) (fun v hv=>by cases hv) (by decide+kernel) (.seq h1 h6),by decide+kernel,Nat.zero_le _,fun v hv=>(by cases hv),fun v hv=>(by cases hv),by decide+kernel⟩
theorem Zgg {S:SS}:OwnOk S "pick" [] 3:=
 ⟨Z9n (by decide+kernel) (by decide+kernel) (by decide+kernel) (by decide+kernel) (fun v hv=>by cases hv) (by decide+kernel) .pick,by decide+kernel,Nat.zero_le _,fun v hv=>(by cases hv),fun v hv=>(by cases hv),by decide+kernel⟩
theorem Zho {S:SS}{c:Nat}(hc:c∈signs6.cps.toList):OwnOk S "op" [.str ⟨#[c]⟩] 2:=by
 have h:=Zgf c hc
 refine⟨Z9n (by decide+kernel) (by decide+kernel) (by decide+kernel) (by decide+kernel) (Z1i ?_) (by decide+kernel) (.op hc),by decide+kernel,Nat.le_refl _,Z1i rfl,Z1i rfl,by decide+kernel⟩
 show(decide (1<=16) && [c].all fun c=>decide (c<16 ^ 8))=true
 simp only [all_cons,List.all_nil,Bool.and_true,Bool.and_eq_true,decide_eq_true_eq]
 omega
theorem Zee {H:Hp}:∀{own:List V},(∀v∈own,smallV v=true)->IsThs H own (own.map Th.at)
 |[],_=>.nil
 |v::own,h=>.cons (.at (h v (mem_cons_self ..))) (Zee fun u hu=>h u (mem_cons_of_mem _ hu))
section
variable {S:SS}{M:Nat}{P:Program}{w:World}{K:PySem.W.Frag}{mg:Str->Option Value}{base:Heap}{g:GenF}
theorem scExpr:FnScope ["_law_feed_here","_law_world_here","_law_bound_here","_law_below","_law_times","_law_kinds","_law_kind","_law_many","_law_head"] ["_law_feed_here","_law_world_here","_law_bound_here","_law_below","_law_times"] (Z06 Z88):=⟨rfl,rfl,rfl,by decide+kernel,rfl,by decide+kernel,by decide+kernel⟩
theorem Zit {f fB fC fY:Addr}{fd dB dC dY:FuncData}(G:Gen K mg g)(FE:Fn K mg "_law_expr" Z88 ["_law_feed_here","_law_world_here","_law_bound_here","_law_below","_law_times"] f fd)(FB:Fn K mg "_law_bound" Z6g ["_law_feed_here","_law_world_here","_law_bound_here","_law_below","_law_times","_law_kind"] fB dB)
  (FC:Fn K mg "_law_called" Z4h ["_law_feed_here","_law_world_here","_law_bound_here","_law_below","_law_times"] fC dC) (FY:Fn K mg "_law_copied" Z4g ["_law_feed_here","_law_world_here","_law_bound_here","_law_below","_law_times"] fY dY):
  ∀N,FnOk P w K mg base CX0 (2*N+M+4) f fd ["_law_feed_here","_law_world_here","_law_bound_here","_law_below","_law_times"] (Z7q S M N):=by
 have GD:FnOk P w K mg base CX0 1 g.fD g.dD ["_law_feed_here","_law_many"] spDraw:=G.gD
 have GL:FnOk P w K mg base CX0 3 g.fL g.dL ["_law_feed_here","_law_world_here","_law_bound_here"] (Z5n S M):=G.gL
 have GY:FnOk P w K mg base CX0 (M+4) fY dY ["_law_feed_here","_law_world_here","_law_bound_here","_law_below","_law_times"] (Zb5 S M):=Ze9 FY.F G
 intro N
 induction N with
 |zero=>
  refine FE.F.ok scExpr (fun vs H Q E h=>?_) (fun cdv A outer s H vs Q E hr h=>?_)
  ·obtain⟨d,l,wd,a,i,bd,bs,ns,n,r,z,b,tm,rfl,_⟩:=h
   rfl
  ·obtain⟨d,l,wd,a,i,bd,bs,ns,n,r,z,b,tm,rfl,h,_⟩:=h
   exact absurd h (by decide)
 |succ N ih=>
  have GB:FnOk P w K mg base CX0 (2*N+M+4+1) fB dB ["_law_feed_here","_law_world_here","_law_bound_here","_law_below","_law_times","_law_kind"] (Zea S M N):=Zge FB.F G FE ih (by omega)
  have GC:FnOk P w K mg base CX0 (2*N+M+4+1) fC dC ["_law_feed_here","_law_world_here","_law_bound_here","_law_below","_law_times"] (Zb7 S M N):=Zed FC.F G FE ih (by omega)
  rw[show 2*(N+1)+M+4=2*N+M+4+1+1 by omega]
  refine FE.F.ok scExpr (fun vs H Q E h=>?_) (fun cdv A outer s H vs Q E hr h=>?_)
  ·obtain⟨d,l,wd,a,i,bd,bs,ns,n,r,z,b,tm,rfl,_⟩:=h
   rfl
  ·obtain⟨d,l,wd,a,i,bd,bs,ns,n,r,z,b,tm,rfl,hN1,hN10,hb,hM,ht0,ht1,hn,hbl,C0,k⟩:=h
   have hsz:sizeLine=16777216:=sizeLine_eq
   have htb:=Zku hN10
   have hts:=Za9 (N:=N) (by omega)
   have htp:=Zb6 (N+1)
   have hu:(_:Around).units+1<cLine:=Nat.lt_of_le_of_lt (Nat.add_le_add_left (by omega) _) hr.units
   have hu0:=hr.units0
   have hr1:Room 1 _:=hr.mono (by omega)
   have hr3:Room 3 _:=hr.mono (by omega)
   have hrY:Room (M+4) _:=hr.mono (by omega)
   have hrE:Room (2*N+M+4) _:=hr.mono (by omega)
   have ec:cD (N+1)=40+6*cD N:=rfl
   refine'⟨?tt,?body,?fin⟩
   case body=>
    refine' Z04 ?s1 ?r1
    case s1=>exact Z22 hu (pv 1) Z09 (Z0i Z1l (Z0t hu (pv 1) Z09 (fun _ _=>rfl)) Z03) (by rfl)
    case r1=>
     refine' Z04 ?s2 ?r2
     case s2=>exact Z22 hu (pv 1) Z09 (Z0i Z1l (Z0t hu (pv 1) Z09 (fun _ _=>rfl)) (pv 4)) (by rfl)
     case r2=>
      refine' Z0l ?s3 ?r3
      case s3=>
       refine' Ze0 (i:=5) ?ha ?hb ?hc ?hd ?he ?hf
       case ha=>exact scExpr.nd
       case hb=>exact rfl
       case hc=>exact(Or.inl rfl)
       case he=>exact rfl
       case hf=>exact(.inr rfl)
       case hd=>
        refine' @Z4o ((Zfi CX0 P w K mg base ["_law_feed_here","_law_world_here","_law_bound_here","_law_below","_law_times","_law_kinds","_law_kind","_law_many","_law_head"] "_law_expr" (Z06 Z88) f cdv A outer s H E).nox) _ (kinds14.map V.str) ?q
        case q=>decide+kernel
      case r3=>
       refine' Z0l ?s4 ?r4
       case s4=>exact Z0c (i:=6) scExpr.nd rfl (Or.inl rfl) (Z0q Z0w (pv 5) (Z05 GD hr1 (by rfl) G.U.mD G.U.D.kp G.U.bD .nil Z0e (Z0d (pv 0) (Z17 Z03 Z01))) (fun _ _=>rfl))
       case r4=>
        refine' Z0l ?s5 ?r5
        case s5=>
         refine' Z0x ?c (Z07 ?b) Z0f
         case c=>exact(Z5w (Z0b Z9x (pv 3) Z03 (Z0k _)) (Z5w (Z0b Z9x (Z0t hu (pv 1) Z09 (fun _ _=>rfl)) Z03 (Z0k _)) (Z5w (Z0b Z9x (Z0t hu (pv 1) Z09 (fun _ _=>rfl)) (Z0i Z1x Z03 (pv 4)) (Z0k _)) (Z5g (Z0b Z1d (pv 6) Z09 (Z0k _)))))).pt
         case b=>exact Z0h (Z05 GL hr3 (by rfl) G.L.m G.L.F.kp G.L.b .nil Z0e (Z0d (pv 0) (Z0d (pv 1) (Z0d (pv 2) Z01))))
        case r5=>
         refine' Z04 ?s6 ?r6
         case s6=>exact Z0x (Z0b Z1d (pv 6) Z09 (Z0k _)) (Z07 (Z0h (Z05 GY hrY (by rfl) FY.m FY.F.kp FY.b .nil Z0e (Z0d (pv 0) (Z0d (pv 1) (Z0d (pv 2) (Z0d (pv 3) (Z0d (pv 4) Z01)))))))) Z0f
         case r6=>
          refine' Z04 ?s7 ?r7
          case s7=>exact Z0x (Z0b Z1d (pv 6) Z09 (Z0k _)) (Z07 (Z0h (Z05 GC hr (by rfl) FC.m FC.F.kp FC.b .nil Z0e (Z0d (pv 0) (Z0d (pv 1) (Z0d (pv 2) (Z0d (pv 3) (Z0d (pv 4) Z01)))))))) Z0f
          case r7=>
           refine' Z0l ?s8 ?r8
           case s8=>exact Z0x (Z0b Z2p (pv 6) (Z12 (Z17 Z09 (Z17 Z09 (Z17 Z09 Z01)))) (by with_unfolding_all rfl)) (Z07 (Z0h (Z05 GB hr (by rfl) FB.m FB.F.kp FB.b .nil Z0e (Z0d (pv 0) (Z0d (pv 1) (Z0d (pv 2) (Z0d (pv 3) (Z0d (pv 4) (Z0d (pv 6) Z01))))))))) Z0f
           case r8=>
            refine' Z04 ?s9 ?r9
            case s9=>
             refine' Z0x ?c (Z04 ?e1 (Z0l ?e2 (Z07 ?e3))) Z0f
             case c=>exact Z0b Z1d (pv 6) Z09 (Z0k _)
             case e1=>exact Z0c (i:=7) scExpr.nd rfl (Or.inl rfl) (Z0q Z0w (Z0y (Z17 Z03 (Z17 Z03 (Z17 Z03 (Z17 Z03 (Z17 Z03 (Z17 Z03 Z01))))))) (Z05 GD hr1 (by rfl) G.U.mD G.U.D.kp G.U.bD .nil Z0e (Z0d (pv 0) (Z17 Z03 Z01))) (fun _ _=>rfl))
             case e2=>exact Z0x (Z0b Z9x (Z0t hu (pv 1) Z09 (fun _ _=>rfl)) (Z0i Z1x (Z0i Z1x Z03 (pv 4)) (pv 7)) (Z0k _)) (Z07 (Z0c (i:=7) scExpr.nd rfl (Or.inl rfl) Z03)) Z0f
             case e3=>exact Z0h (Z12 (Z17 Z09 (Z0d (pv 7) (Z2x (Z05 ih hrE (by rfl) FE.m FE.F.kp FE.b .nil Z0e (Z0d (pv 0) (Z0d (pv 1) (Z0d (pv 2) (Z08 (Z0i Z1l (pv 3) Z03) (Z08 (Z0i Z1x (pv 4) (pv 7)) Z01)))))) Z01))))
            case r9=>
             refine' Z04 ?s10 ?r10
             case s10=>exact Z0c (i:=8) scExpr.nd rfl (Or.inl rfl) (Z0y (Z17 Z09 Z01))
             case r10=>
              refine' Z0l ?s11 ?r11
              case s11=>exact Z0c (i:=7) scExpr.nd rfl (Or.inl rfl) (Z0q Z0w (Z0y (Z17 Z03 (Z17 Z03 (Z17 Z03 (Z17 Z03 (Z17 Z03 (Z17 Z03 Z01))))))) (Z05 GD hr1 (by rfl) G.U.mD G.U.D.kp G.U.bD .nil Z0e (Z0d (pv 0) (Z17 Z03 Z01))) (fun _ _=>rfl))
              case r11=>
               refine' Z0l ?s12 ?r12
               case s12=>exact Z0x (Z0b Z1d (pv 6) Z09 (Z0k _)) (Z04 (Z0c (i:=8) scExpr.nd rfl (Or.inl rfl) (Z0y (Z17 Z09 Z01))) (Z07 (Z0c (i:=7) scExpr.nd rfl (Or.inl rfl) Z03))) Z0f
               case r12=>
                refine' Z0l ?s13 ?r13
                case s13=>exact Z0x (Z0b Z1d (pv 6) Z09 (Z0k _)) (Z04 (Z0c (i:=8) scExpr.nd rfl (Or.inl rfl) (Z0y (Z17 Z09 (Z08 (Z0q Z8y Z09 (Z05 GD hr1 (by rfl) G.U.mD G.U.D.kp G.U.bD .nil Z0e (Z0d (pv 0) (Z17 Z03 Z01))) (fun _ _=>rfl)) Z01)))) (Z07 (Z0c (i:=7) scExpr.nd rfl (Or.inl rfl) Z03))) Z0f
                case r13=>
                 refine' Z07 ?s14
                 case s14=>
                  refine' Z0h (Z14 Z1q (by rfl) G.X.T.tup (by decide+kernel) (Z08 (Z0i Z2q (pv 8) ?x) Z01))
                  case x=>
                   refine' Z1s (N':=["_law_feed_here","_law_world_here","_law_bound_here","_law_below","_law_times","_law_k"]) (src:=[some 0,some 1,some 2,some 3,some 4,none]) ?k1 ?k5 ?k6 ?k7
                   case k1=>rfl
                   case k5=>exact Z0m (Z06 Z88) rfl ["_law_feed_here","_law_world_here","_law_bound_here","_law_below","_law_times","_law_kinds","_law_kind","_law_many","_law_head"] rfl (by decide+kernel)
                   case k6=>exact Z1y (by rfl) G.U.T.range (Z0d (pv 7) Z01)
                   case k7=>exact fun cl C ex s0 H0=>⟨Z0s (i:=5) Z9o rfl (Or.inl rfl),Z24,Z05 ih hrE (by rfl) FE.m FE.F.kp FE.b .nil Z0e (Z0d (pv 0) (Z0d (pv 1) (Z0d (pv 2) (Z08 (Z0i Z1l (pv 3) Z03) (Z0d (pv 4) Z01)))))⟩
   case fin=>
    refine⟨_,rfl,wd,.int r,rfl,Z4x C0.W,_,_,rfl,rfl,_,rfl,wd,_,rfl,Z6q C0.W,?_⟩
    have C1:=C0.put (r2:=r-1) (z2:=z)
    refine⟨_,rfl,wd,.int z,rfl,Z2s C1.W,_,rfl,_,_,rfl,rfl,_,rfl,wd,_,rfl,Z4y C1.W,?_⟩
    have C2:=C1.put (r2:=r-1) (z2:=z-tm)
    revert C2
    generalize z-tm=z2
    intro C2
    have leaf:∀H4 n4,n4<=n+1->Ctx S M H H4 d l wd a i bd bs ns n4 (r-1) z2->Z5n S M [.ref d,.ref wd,.ref bd] H4 (fun v H'=>Q v H') E:=by
     intro H4 n4 h4 C4
     refine⟨d,l,wd,a,i,bd,bs,ns,n4,r-1,z2,rfl,by omega,C4.zero,fun v t n5 H5 hv hL hn5 C5=>?_⟩
     exact k v t n5 (r-1) z2 H5 hv (hL.1.le (by omega)) (by have:=hL.2;omega) (fun _=>rfl) (by omega) (by omega) (C5.tail C4.b2)
    refine⟨fun σ' H'=>∃ka,σ' = [some (.ref d),some (.ref wd),some (.ref bd),some (.int b),some (.int tm),some (.ref ka),none,none,none]/\H' ka=some (.lst (kinds14.map V.str))/\Ctx S M H H' d l wd a i bd bs ns n (r-1) z2,?_,?_⟩
    ·refine⟨Z4w (by decide+kernel),fun ka hka=>⟨ka,rfl,Z00,C2.same (Z02 hka)⟩⟩
    clear C0 C1 C2
    rintro σ3 H3 ⟨ka,rfl,K3,C3⟩
    refine⟨fun σ' H'=>∃kd n',σ' = [some (.ref d),some (.ref wd),some (.ref bd),some (.int b),some (.int tm),some (.ref ka),some (.str kd),none,none]/\n'<=n+1/\Ctx S M H H' d l wd a i bd bs ns n' (r-1) z2,?_,?_⟩
    ·refine⟨_,rfl,_,rfl,d,l,ns,n,_,rfl,C3.F,by omega,by decide,by decide,fun q n4 H4 q0 q1 hn4 F4 b4=>?_⟩
     obtain⟨v,hv,hat⟩:=Z2w (xs:=kinds14.map V.str) (i:=q) q0 (Int.lt_of_lt_of_le q1 (by decide+kernel))
     obtain⟨kd,_,rfl⟩:=mem_map.mp hv
     exact⟨ka,kinds14.map V.str,q,.str kd,rfl,rfl,SqL.of (C3.F.lst b4 K3),hat,kd,n4,rfl,hn4,C3.draw b4 F4⟩
    clear K3 C3
    rintro σ4 H4 ⟨kd,n4,rfl,hn4,C4⟩
    refine⟨fun σ' H'=>σ' = [some (.ref d),some (.ref wd),some (.ref bd),some (.int b),some (.int tm),some (.ref ka),some (.str kd),none,none]/\H'=H4/\1<=N/\7<=r,?_,?_⟩
    ·refine⟨_,rfl,_,_,rfl,rfl,_,rfl,Z1a (fun g=>Zaq ⟨_,rfl,_,rfl,_,rfl,leaf _ n4 hn4 C4⟩) (fun g1=>?_)⟩
     refine⟨_,rfl,wd,.int (r-1),rfl,Z4x C4.W,_,_,rfl,rfl,_,rfl,Z1a (fun g=>Zaq ⟨_,rfl,_,rfl,_,rfl,leaf _ n4 hn4 C4⟩) (fun g2=>?_)⟩
     refine⟨_,rfl,wd,.int z2,rfl,Z2s C4.W,_,rfl,_,_,rfl,rfl,.inl ⟨by decide,by decide⟩,_,_,rfl,rfl,_,rfl,Z1a (fun g=>Zaq ⟨_,rfl,_,rfl,_,rfl,leaf _ n4 hn4 C4⟩) (fun g3=>?_)⟩
     rw[decide_eq_true_iff] at g1 g2
     refine⟨_,rfl,rfl,_,rfl,Z1a (fun g=>⟨_,rfl,_,rfl,_,rfl,leaf _ n4 hn4 C4⟩) (fun g4=>⟨rfl,rfl,by omega,by omega⟩)⟩
    rintro σ5 H5 ⟨rfl,rfl,hN,hr7⟩
    refine⟨_,rfl,rfl,_,rfl,Z1a (fun g=>?_) (fun g=>?_)⟩
    ·refine⟨_,rfl,_,rfl,_,rfl,_,rfl,_,rfl,d,l,wd,a,i,bd,bs,ns,n4,r-1,z2,b,tm,rfl,by omega,hM,ht0,by omega,by omega,C4.zero,fun v t n5 r5 z5 H5 h5 p5 c5 y1 hn5 C5=>?_⟩
     exact k v t n5 r5 z5 H5 h5 (p5.le (by omega)) (by omega) (by omega) (by omega) (by omega) (C5.tail C4.b2)
    refine⟨_,rfl,rfl,_,rfl,Z1a (fun g=>?_) (fun g=>?_)⟩
    ·refine⟨_,rfl,_,rfl,_,rfl,_,rfl,_,rfl,d,l,wd,a,i,bd,bs,ns,n4,r-1,z2,b,tm,rfl,hN,by omega,by omega,hM,ht0,by omega,by omega,by omega,by omega,C4.zero,fun v t n5 r5 z5 H5 h5 p5 c5 y1 hn5 C5=>?_⟩
     exact k v t n5 r5 z5 H5 h5 p5 (by omega) (by omega) (by omega) (by omega) (C5.tail C4.b2)
    refine⟨fun σ' H'=>σ' = [some (.ref d),some (.ref wd),some (.ref bd),some (.int b),some (.int tm),some (.ref ka),some (.str kd),none,none]/\Ctx S M H H' d l wd a i bd bs ns n4 (r-1) z2,?_,?_⟩
    ·refine⟨_,rfl,(by show 3<=sizeLine;decide),fun c hc=>?_⟩
     have sc:=Z02 (o:=.tup [.str "let",.str "set",.str "say"]) hc
     have C5:=C4.same sc
     refine⟨c,[.str "let",.str "set",.str "say"],rfl,.inr (SqT.of Z00),rfl,by decide+kernel,_,rfl,Z1a (fun g=>?_) (fun g=>⟨rfl,C5⟩)⟩
     refine⟨_,rfl,_,rfl,_,rfl,_,rfl,_,rfl,_,rfl,d,l,wd,a,i,bd,bs,ns,n4,r-1,z2,b,tm,kd,rfl,hN,by omega,by omega,hM,ht0,by omega,by omega,by omega,by omega,C5.zero,fun v t n6 r6 z6 H6 h6 p6 c6 y1 hn6 C6=>?_⟩
     exact k v t n6 r6 z6 H6 h6 p6 (by omega) (by omega) (by omega) (by omega) (C6.tail C5.b2)
    clear C4
    rintro σ8 H8 ⟨rfl,C8⟩
    refine⟨_,rfl,rfl,_,rfl,Z1a (fun g=>?_) (fun g=>?_)⟩
    ·refine⟨(by show 6<=sizeLine;decide),fun c hc=>?_⟩
     have sc:=Z02 (o:=.lst [.int 2,.int 3,.int 0,.int 1,.int 5,.int 2]) hc
     have C9:=C8.same sc
     refine⟨_,rfl,d,l,ns,n4,_,rfl,C9.F,by omega,by decide,by decide,fun q n10 H10 q0 q1 hn10 F10 b10=>?_⟩
     have C10:=C9.draw b10 F10
     obtain⟨v,hv,hat⟩:=Z2w (xs:=[V.int 2,.int 3,.int 0,.int 1,.int 5,.int 2]) (i:=q) q0 (Int.lt_of_lt_of_le q1 (by decide))
     obtain⟨mn,rfl,hm0,hm5⟩:∃mn:Int,v = .int mn/\0<=mn/\mn<=5:=by
      simp only [mem_cons,not_mem_nil,or_false] at hv
      rcases hv with rfl|rfl|rfl|rfl|rfl|rfl <;> exact⟨_,rfl,by decide,by decide⟩
     refine⟨c,_,q,.int mn,rfl,rfl,SqL.of (C9.F.lst b10 Z00),hat,?_⟩
     refine⟨fun σ' H'=>∃mn:Int,σ' = [some (.ref d),some (.ref wd),some (.ref bd),some (.int b),some (.int tm),some (.ref ka),some (.str kd),some (.int mn),none]/\H'=H10/\0<=mn/\mn<=5,?_,?_⟩
     ·refine⟨_,rfl,wd,.int z2,rfl,Z2s C10.W,_,rfl,_,_,rfl,rfl,.inl ⟨by decide,by decide⟩,_,rfl,_,_,rfl,rfl,.inr ⟨by omega,by omega⟩,_,_,rfl,rfl,_,rfl,Z1a (fun g=>⟨1,rfl,rfl,by decide,by decide⟩) (fun g=>⟨mn,rfl,rfl,hm0,hm5⟩)⟩
     clear hat hv hm0 hm5
     rintro σ11 H11 ⟨mn,rfl,rfl,hm0,hm5⟩
     have hp0:0<=tm*mn:=Int.mul_nonneg ht0 hm0
     have hp1:tm*mn<=tm*5:=Int.mul_le_mul_of_nonneg_left hm5 ht0
     refine⟨_,rfl,_,rfl,_,rfl,_,rfl,_,rfl,_,_,rfl,rfl,_,rfl,_,rfl,_,_,rfl,rfl,.inr ⟨by omega,by omega⟩,d,l,wd,a,i,bd,bs,ns,n10,r-1,z2,b-1,tm*mn,rfl,hN,by omega,by omega,hM,hp0,by omega,by omega,by omega,C10.zero,fun v t n12 r12 z12 H12 h12 p12 c12 y1 y2 hn12 C12=>⟨(by show 3<=sizeLine;decide),fun p hp=>?_⟩⟩
     have sp:=Z02 (o:=.tup [.str "again",.int mn,v]) hp
     have hk:=Z3q p12
     refine k (.ref p) (nd "again" [.int mn] [t]) n12 r12 z12 _ (.tup Z00 (.cons (.at (by decide+kernel)) (.cons (.at rfl) (.cons (IsTh.kp (Kp.of sp) h12) .nil)))) (Zb8 hm0 hm5 p12) ?_ (by omega) (by omega) (by omega) ((C12.tail C10.b2).same sp)
     rw[Zis p12]
     omega
    ·refine⟨(by show 1<=sizeLine;decide),fun h0 hh0=>?_⟩
     have sh:=Z02 (o:=.lst [.str "do"]) hh0
     have C9:=C8.same sh
     let Mh:St->Hp->Prop:=fun σ' H'=>∃(h:Addr) (wo:Str) (own:List V) (mn:Int) (n':Nat),σ' = [some (.ref d),some (.ref wd),some (.ref bd),some (.int b),some (.int tm),some (.ref ka),some (.str kd),some (.int mn),some (.ref h)]/\H' h=some (.lst (.str wo::own))/\OwnOk S wo own mn.toNat/\1<=mn/\mn<=6/\n'<=n+2/\Ctx S M H H' d l wd a i bd bs ns n' (r-1) z2
     refine⟨Mh,?_,?_⟩
     ·refine⟨(by show 6<=sizeLine;decide),fun c hc=>?_⟩
      have sc:=Z02 (o:=.lst [.int 2,.int 3,.int 1,.int 2,.int 4,.int 6]) hc
      have C10:=C9.same sc
      refine⟨_,rfl,d,l,ns,n4,_,rfl,C10.F,by omega,by decide,by decide,fun q n11 H11 q0 q1 hn11 F11 b11=>?_⟩
      obtain⟨v,hv,hat⟩:=Z2w (xs:=[V.int 2,.int 3,.int 1,.int 2,.int 4,.int 6]) (i:=q) q0 (Int.lt_of_lt_of_le q1 (by decide))
      obtain⟨mn,rfl,hm0,hm5⟩:∃mn:Int,v = .int mn/\1<=mn/\mn<=6:=by
       simp only [mem_cons,not_mem_nil,or_false] at hv
       rcases hv with rfl|rfl|rfl|rfl|rfl|rfl <;> exact⟨_,rfl,by decide,by decide⟩
      exact⟨c,_,q,.int mn,rfl,rfl,SqL.of (C10.F.lst b11 Z00),hat,h0,"do",[],mn,n11,rfl,C10.F.lst b11 (sc _ _ Z00),Zhn (by omega) (by omega),hm0,hm5,by omega,C10.draw b11 F11⟩
     clear C8 C9 sh hh0
     rintro σ11 H11 ⟨h,wo,own,mn,n11,rfl,hh,hO,hm1,hm6,hn11,C11⟩
     refine⟨Mh,?_,?_⟩
     ·refine⟨_,rfl,rfl,_,rfl,Z1a (fun g=>?_) (fun g=>⟨h,wo,own,mn,n11,rfl,hh,hO,hm1,hm6,hn11,C11⟩)⟩
      refine⟨(by show 1<=sizeLine;decide),fun h2 hh2=>?_⟩
      exact⟨h2,"pick",[],3,n11,rfl,Z00,Zgg,by decide,by decide,hn11,C11.same (Z02 hh2)⟩
     clear hh hO hm1 hm6 hn11 C11
     rintro σ12 H12 ⟨h,wo,own,mn,n12,rfl,hh,hO,hm1,hm6,hn12,C12⟩
     refine⟨fun σ' H'=>∃(h:Addr) (wo:Str) (own:List V) (mn:Int) (n':Nat),σ' = [some (.ref d),some (.ref wd),some (.ref bd),some (.int b),some (.int tm),some (.ref ka),some (.str kd),some (.int mn),some (.ref h)]/\H' h=some (.lst (.str wo::own))/\OwnOk S wo own mn.toNat/\1<=mn/\mn<=6/\n'<=n+3/\Ctx S M H H' d l wd a i bd bs ns n' (r-1) z2,?_,?_⟩
     ·refine⟨_,rfl,rfl,_,rfl,Z1a (fun g=>?_) (fun g=>⟨h,wo,own,mn,n12,rfl,hh,hO,hm1,hm6,by omega,C12⟩)⟩
      refine⟨_,rfl,d,l,ns,n12,_,rfl,C12.F,by omega,by decide,by decide,fun q n13 H13 q0 q1 hn13 F13 b13=>?_⟩
      obtain⟨c,hc,hat⟩:=Z2w (xs:=signs6.cps.toList) (i:=q) q0 (Int.lt_of_lt_of_le q1 (by decide+kernel))
      have C13:=C12.draw b13 F13
      refine⟨signs6,q,c,rfl,rfl,(by decide+kernel),hat,(by show 2<=sizeLine;decide),fun h2 hh2=>?_⟩
      exact⟨h2,"op",[.str ⟨#[c]⟩],2,n13,rfl,Z00,Zho hc,by decide,by decide,by omega,C13.same (Z02 hh2)⟩
     clear hh hO hm1 hm6 hn12 C12
     rintro σ14 H14 ⟨h,wo,own,mn,n14,rfl,hh,hO,hm1,hm6,hn14,C14⟩
     have hol:=hO.l
     refine⟨_,rfl,_,rfl,mn,rfl,by omega,by omega,Z55 (lo:=0) (n:=mn.toNat) (fun j ys σc H'=>∃(n':Nat) (o:Option V) (r' z':Int) (cs:List Th),σc = [some (.ref d),some (.ref wd),some (.ref bd),some (.int b),some (.int tm),o]/\Ctx S M H14 H' d l wd a i bd bs ns n' r' z'/\n'<=n14+j*cD N/\Rooms N (r-1) j r'/\IsThs H' ys cs/\cs.length=j/\(∀c∈cs,PfT S (M+N) c)/\(Z1o cs:Int)<=r-1-r')
      ⟨n14,none,r-1,z2,[],rfl,C14.zero,by omega,⟨fun _=>rfl,fun q=>absurd q (by decide)⟩,.nil,rfl,(fun c hc=>by cases hc),by simp [Z1o]⟩ ?_ ?_⟩
     ·rintro j ys σc H' hj ⟨n',o,r',z',cs,rfl,C',hn',hR,hcs,hcl,hca,hcz⟩
      have hmul:j*cD N<=5*cD N:=Nat.mul_le_mul_right _ (by omega)
      have hys:=IsThs.len _ hcs
      refine⟨by omega,?_⟩
      refine⟨_,rfl,_,rfl,_,rfl,_,rfl,_,_,rfl,rfl,_,rfl,d,l,wd,a,i,bd,bs,ns,n',r',z',b-1,tm,rfl,hN,by omega,by omega,hM,ht0,by omega,by omega,by omega,C'.zero,fun v t n5 r5 z5 H5 h5 p5 c5 y1 y2 hn5 C5=>?_⟩
      refine nx hj ⟨n5,_,r5,z5,cs ++ [t],rfl,C5.tail C'.b2,by rw[Nat.succ_mul];omega,hR.next hN (by omega) y1 y2,IsThs.app _ (IsThs.kp (C5.b2.kp C'.F C'.W) hcs) (.cons h5 .nil),by rw[length_append,hcl];rfl,fun c hc=>?_,?_⟩
      ·rcases mem_append.mp hc with y|y
       ·exact hca c y
       ·rw[mem_singleton] at y;subst y;exact p5
      ·rw[Z2r]
       omega
     ·rintro ys σc H' ⟨n',o,r',z',cs,rfl,C',hn',hR,hcs,hcl,hca,hcz⟩ q hq
      have hys:=IsThs.len _ hcs
      have sq:=Z02 (o:=.lst ys) hq
      have D':=sq _ _ (C'.b2.kp C14.F C14.W _ _ hh (fun _ z=>by cases z))
      have hmul:mn.toNat*cD N<=6*cD N:=Nat.mul_le_mul_right _ (by omega)
      refine⟨h,q,_,ys,rfl,rfl,D',Z00,by rw[length_cons];omega,fun r3 hr3=>?_⟩
      have s3:=Z02 (o:=.lst (.str wo::own++ys)) hr3
      refine⟨r3,.str wo::own++ys,rfl,.inl ⟨SqL.of Z00,fun p hp=>?_⟩⟩
      have sp:=Z02 (o:=.tup (.str wo::own++ys)) hp
      have sA:=(sq.trans s3).trans sp
      refine k (.ref p) (nd wo own cs) n' r' z' _ (.tup Z00 (.cons (.at hO.t) (IsThs.app _ (Zee hO.s) (IsThs.kp (Kp.of sA) hcs)))) (Z4i hO.l hO.p hO.n (by rw[hcl];exact hO.e) (by omega) hca) ?_ (by omega) ?_ (by omega) ((C'.tail C14.b2).same sA)
      ·rw[Z18 fun k hk=>(hca k hk).isTup]
       omega
      ·intro _
       have:=hR.2 (by omega)
       omega
end
end K10
namespace L2
open PySem PySem.Spec PyProof.Rows
section
variable {X:Cx}
theorem Z3r:Z3l X (.type "dict") (fun xs H Q=>∃(p:Addr) (kvs:List (Key×V)),xs = [.ref p]/\H p=some (.dK kvs)/\∀a,H a=none->Q (.ref a) (upd H a (.dK kvs))):=by
 intro pins s σ H xs us Q I r h
 obtain⟨p,kvs,rfl,hp,q⟩:=h
 obtain⟨u,rfl,rx⟩:=Z61 r
 cases rx
 exact Zfo I (Rd.of hp) fun a s' ha I'=>⟨.ref a,_,I',rfl,q a ha⟩
end
end L2
namespace K10
open PySem L2
structure ExpF where
 g:GenF
 fE:Addr
 fB:Addr
 fC:Addr
 fY:Addr
 dE:FuncData
 dB:FuncData
 dC:FuncData
 dY:FuncData
structure Exp (K:PySem.W.Frag)(mg:Str->Option Value)(x:ExpF):Prop where
 G:Gen K mg x.g
 E:Fn K mg "_law_expr" Z88 ["_law_feed_here","_law_world_here","_law_bound_here","_law_below","_law_times"] x.fE x.dE
 B:Fn K mg "_law_bound" Z6g ["_law_feed_here","_law_world_here","_law_bound_here","_law_below","_law_times","_law_kind"] x.fB x.dB
 C:Fn K mg "_law_called" Z4h ["_law_feed_here","_law_world_here","_law_bound_here","_law_below","_law_times"] x.fC x.dC
 Y:Fn K mg "_law_copied" Z4g ["_law_feed_here","_law_world_here","_law_bound_here","_law_below","_law_times"] x.fY x.dY
 dict:mg "dict"=none
theorem cD4:cD 4=10360:=by decide+kernel
def WI.bare (i:WI):WI:={ i with sv:=[],ss:=[] }
inductive spSeeds_ (S:SS)(vs:List V)(H:Hp)(Q:VK):Prop
 |mk (d l wd:Addr) (a:WA) (i:WI) (ns:List Int) (n:Nat) (r z m:Int) (_:vs = [.ref d,.ref wd,.int m]) (_:0<=m) (_:m<=10) (_:n<=500000000000) (_:Feed H d l ns n) (_:H wd=some (.dK (Z0j a r z))) (_:Wf S 0 H d wd a i) (_:∀(sd:Addr) (sv:List V) (ss:List Th) (n':Nat) H',H sd=none->H' sd=some (.lst sv)->IsThs H' sv ss->(∀t∈ss,PfT S 4 t)->sv.length=m.toNat->n'<=n+10360*m.toNat->Feed H' d l ns n'->But d H H'->Q (.ref sd) H'):spSeeds_ S vs H Q
def Zef (S:SS):Sp:=fun vs H Q _=>spSeeds_ S vs H Q
section
variable {S:SS}{P:Program}{w:World}{K:PySem.W.Frag}{mg:Str->Option Value}{base:Heap}{x:ExpF}
theorem Exp.gE {M:Nat}(G:Exp K mg x)(N:Nat):FnOk P w K mg base CX0 (2*N+M+4) x.fE x.dE ["_law_feed_here","_law_world_here","_law_bound_here","_law_below","_law_times"] (Z7q S M N):=Zit G.G G.E G.B G.C G.Y N
theorem scSeeds:FnScope ["_law_feed_here","_law_world_here","_law_many","_law_found","_law_k","_law_small"] ["_law_feed_here","_law_world_here","_law_many"] (Z06 Z9j):=⟨rfl,rfl,rfl,by decide+kernel,rfl,by decide+kernel,by decide+kernel⟩
theorem Zgh {f:Addr}{fd:FuncData}(F:Fun K "_law_seeds" "_law_seeds" Z9j f fd)(G:Exp K mg x):
  FnOk P w K mg base CX0 13 f fd ["_law_feed_here","_law_world_here","_law_many"] (Zef S):=by
 have GE:FnOk P w K mg base CX0 12 x.fE x.dE ["_law_feed_here","_law_world_here","_law_bound_here","_law_below","_law_times"] (Z7q S 0 4):=G.gE (M:=0) 4
 refine F.ok scSeeds (fun vs H Q E h=>?_) (fun cdv A outer s H vs Q E hr h=>?_)
 ·obtain⟨d,l,wd,a,i,ns,n,r,z,m,rfl,_⟩:=h
  rfl
 ·obtain⟨d,l,wd,a,i,ns,n,r,z,m,rfl,hm0,hm1,hn,F0,W0,N0,k⟩:=h
  have hsz:sizeLine=16777216:=sizeLine_eq
  have hu:(_:Around).units+1<cLine:=Nat.lt_of_le_of_lt (Nat.add_le_add_left (by decide) _) hr.units
  refine'⟨?tt,?body,?fin⟩
  case body=>
   refine' Z04 ?s1 (Z04 ?s2 (Z07 ?s3))
   case s1=>exact Z0c (i:=3) scSeeds.nd rfl (Or.inl rfl) (Z0y Z01)
   case s2=>
    refine' Z43 PassesOwn.never rfl (Z1y (by rfl) G.G.U.T.range (Z0d (pv 2) Z01)) (Z0s (i:=4) scSeeds.nd rfl (Or.inl rfl)) (Z04 ?b1 (Z04 ?b2 (Z04 ?b3 (Z04 ?b4 (Z07 ?b5)))))
    case b1=>exact Z0c (i:=5) scSeeds.nd rfl (Or.inl rfl) (Z14 Z3r (by rfl) G.dict (by decide+kernel) (Z0d (pv 1) Z01))
    case b2=>exact Z22 hu (pv 5) Z09 (Z0y Z01) (by rfl)
    case b3=>exact Z22 hu (pv 5) Z09 Z03 (by rfl)
    case b4=>exact Z22 hu (pv 5) Z09 Z03 (by rfl)
    case b5=>exact Z3k (Z92 PySem.F.plainAttrs_list PySem.F.slot_list_append PySem.F.type_list_append Z34 (pv 3) (Z2x (Z05 GE hr (by rfl) G.E.m G.E.F.kp G.E.b .nil Z0e (Z0d (pv 0) (Z0d (pv 5) (Z08 (Z0y Z01) (Z17 Z03 (Z17 Z03 Z01)))))) Z01))
   case s3=>exact Z0h (pv 3)
  case fin=>
   refine⟨Nat.zero_le _,fun sd hsd=>?_⟩
   have hsd_l:sd≠l:=fun e=>by
    have h0:H l=some _:=F0.ls
    rw[<- e,hsd] at h0
    cases h0
   refine⟨_,rfl,m,rfl,by omega,by omega,Z31 (n:=m.toNat) (fun j σ H'=>∃(sv:List V) (ss:List Th) (n':Nat) (o4 o5:Option V),σ = [some (.ref d),some (.ref wd),some (.int m),some (.ref sd),o4,o5]/\H' sd=some (.lst sv)/\IsThs H' sv ss/\(∀t∈ss,PfT S 4 t)/\sv.length=j/\n'<=n+10360*j/\Feed H' d l ns n'/\But d H H')
    ⟨[],[],n,none,none,rfl,Z00,.nil,(fun t ht=>by cases ht),rfl,Nat.le_refl _,F0.same (Z02 hsd),But.of (Z02 hsd)⟩ ?_ ?_⟩
   ·rintro j σ H1 hj ⟨sv,ss,n1,o4,o5,rfl,L1,T1,hp1,hl1,hn1,F1,B1⟩
    have W1:=B1 _ _ W0 (Z8f F0 W0)
    have N1:Wf S 0 H1 d wd a i:=N0.go (B1.kp F0) (But2.of B1)
    refine⟨_,rfl,wd,_,rfl,W1,fun sm hsm=>?_⟩
    have s2:=Z02 (o:=.dK (Z0j a r z)) hsm
    have hno:∀{b:Addr} {o:HO},H1 b=some o->b≠sm:=fun {b o} e q=>by rw[q,hsm] at e;cases e
    refine⟨Nat.zero_le _,fun q hq=>?_⟩
    have s3:=Z02 (o:=.lst []) hq
    have W3:=s3 _ _ (Z00 (a:=sm) (o:=.dK (Z0j a r z)) (H:=H1))
    refine⟨_,rfl,sm,_,rfl,Z7p W3,?_⟩
    refine⟨_,rfl,sm,_,rfl,Z6q Z00,?_⟩
    refine⟨_,rfl,sm,_,rfl,Z4y Z00,?_⟩
    have hqs:q≠sm:=fun e=>by rw[e,Z00] at hq;cases hq
    have hq1:H1 q=none:=Z1u s2 hq
    obtain⟨H4,hH4⟩:∃H4,H4=upd (upd (upd (upd (upd H1 sm (.dK (Z0j a r z))) q (.lst [])) sm (.dK (Z0j { a with sd:=q } r z))) sm (.dK (Z0j { a with sd:=q } 7 z))) sm (.dK (Z0j { a with sd:=q } 7 60)):=⟨_,rfl⟩
    rw[<- hH4]
    have s4:Same H1 H4:=fun b o e=>by
     have h1:=hno e
     have h2:b≠q:=fun z=>by rw[z,hq1] at e;cases e
     rw[hH4,Z0a h1,Z0a h1,Z0a h1,Z0a h2,Z0a h1]
     exact e
    have W4:H4 sm=some (.dK (Z0j { a with sd:=q } 7 60)):=by rw[hH4];exact Z00
    have Q4:H4 q=some (.lst []):=by rw[hH4,Z0a hqs,Z0a hqs,Z0a hqs];exact Z00
    have hsm0:H1 sm=none:=hsm
    clear hH4 W3 s3 s2 hq hsm
    refine⟨_,rfl,.inl ⟨rfl,_,SqL.of (s4 _ _ L1)⟩,_,rfl,_,rfl,Nat.zero_le _,fun c hc=>?_⟩
    have s5:=Z02 (o:=.lst []) hc
    have s15:=s4.trans s5
    have B5:upd H4 c (.lst []) c=some (.lst (([]:List Str).map V.str)):=Z00
    have W5:=s5 _ _ W4
    have Q5:=s5 _ _ Q4
    generalize upd H4 c (.lst [])=H5 at s5 s15 B5 W5 Q5
    have k15:=Kp.of s15
    have N5:Wf S 0 H5 d sm { a with sd:=q } i.bare:=⟨s15 _ _ N1.nm,s15 _ _ N1.lt,s15 _ _ N1.fn,fun v hv=>let ⟨c,x,m,h1,h2,h3⟩:=N1.fe v hv;⟨c,x,m,h1,s15 _ _ h2,h3⟩,s15 _ _ N1.wo,N1.wk,N1.o1,hno N1.wo,Q5,.nil,(fun t ht=>by cases ht),N1.n1,N1.n2,N1.l2,N1.f2,Nat.zero_le _,N1.an,N1.bn⟩
    have C5:Ctx S 0 H5 H5 d l sm { a with sd:=q } i.bare c [] ns n1 7 60:=⟨F1.same s15,W5,N5,B5,Nat.zero_le _,(fun t ht=>by cases ht),But2.refl _ _ _⟩
    have e4:=cD4
    refine⟨d,l,sm,_,i.bare,c,[],ns,n1,7,60,4,1,rfl,by decide,by decide,by decide,by decide,by decide,?_,by omega,by decide,C5,fun v t n6 r6 z6 H6 h6 p6 c6 y1 y2 hn6 C6=>?_⟩
    ·have:=Za9 (N:=4) (by decide)
     have:=Zb6 (4+1)
     omega
    have hsd_d:sd≠d:=Z3i (s15 _ _ L1) (C5.F.dc.choose_spec) (by intro z;cases z)
    have L6:=C6.b2 _ _ (s15 _ _ L1) hsd_d (hno L1)
    have T6:=IsThs.kp (C6.b2.kp C5.F C5.W) (IsThs.kp k15 T1)
    refine⟨sd,_,_,rfl,rfl,L6,by omega,sv ++ [v],ss ++ [t],n6,_,_,rfl,Z00,?_,?_,by rw[length_append,hl1];rfl,by omega,?_,?_⟩
    ·refine IsThs.app _ (Z8c L6 But.upd T6 (Z2v fun y hy=>(hp1 y hy).pl)) (.cons (Z9l L6 But.upd h6 p6.pl) .nil)
    ·intro y hy
     rcases mem_append.mp hy with q|q
     ·exact hp1 y q
     ·rw[mem_singleton] at q;rw[q];exact p6
    ·obtain⟨⟨y,hd⟩,hl,hs⟩:=C6.F
     exact⟨⟨y,by rw[Z0a hsd_d.symm];exact hd⟩,by rw[Z0a hsd_l.symm];exact hl,hs⟩
    ·intro b o e hb
     have e1:=B1 b o e hb
     rw[Z0a (Z0g e hsd)]
     exact C6.b2 b o (s15 _ _ e1) hb (hno e1)
   ·rintro σ H1 ⟨sv,ss,n1,o4,o5,rfl,L1,T1,hp1,hl1,hn1,F1,B1⟩
    exact⟨_,rfl,k sd sv ss n1 H1 hsd L1 T1 hp1 hl1 hn1 F1 B1⟩
end
end K10
namespace L2
open PySem PySem.Spec PyProof.Rows
section
variable {prog:Program}{w:World}{A:Around}{E:Value->Shared->Prop}{s:Shared}
theorem Zab {a n:Nat}(ha:a<=n):sliceBounds (some (a:Int)) none none n=((a:Int),(n:Int),1):=by
 simp only [sliceBounds,Option.getD_none]
 have h1:¬ ((a:Int)<0):=by omega
 simp only [h1,if_false,show(1:Int)>0 by decide,if_true]
 congr 1
 ·omega
theorem Zeg:∀(xs:List Value) (b:Nat) (p:Nat->Bool) (a:Nat),(∀k,b<=k->k<b+xs.length->p k=decide (a<=k))->((xs.zipIdx b).filterMap fun x=>if p x.snd=true then none else some x.fst)=xs.take (a-b):=by
 intro xs
 induction xs with
 |nil=>intro b p a _;simp
 |cons x xs ih=>
  intro b p a h
  have h0:=h b (Nat.le_refl _) (by rw[length_cons];omega)
  have h1:=ih (b+1) p a (fun k h1 h2=>h k (by omega) (by rw[length_cons];omega))
  rw[List.zipIdx_cons]
  by_cases ha:a<=b
  ·rw[List.filterMap_cons_none (by simp [h0,ha]),h1,show a-(b+1)=0 by omega,show a-b=0 by omega]
   simp
  ·rw[List.filterMap_cons_some (b:=x) (by simp [h0,ha]),h1,show a-b=(a-(b+1))+1 by omega]
   simp
theorem Zeh (items:Array Value)(a:Nat)(p:Nat->Bool)(h:∀k,k<items.size->p k=decide (a<=k)):(items.toList.zipIdx.filterMap fun x=>if p x.snd=true then none else some x.fst).toArray=(items.toList.take a).toArray:=by
 rw[Zeg items.toList 0 p a (fun k _ hk=>h k (by rw[Array.length_toList] at hk;omega)),Nat.sub_zero]
theorem Z8g {l sl:Addr}{items:Array Value}{n:Nat}{vl:Value}{a:Nat}{Q:Unit->Shared->Prop}
  (e:s.heap.get? l=some { cls:=.type "list",data:=.seq items n })
  (hs:s.heap.IsSliceOf sl vl .none .none) (pl:IsPart vl (some (a:Int))) (ha:a<=items.size)
  (hsz:items.size<=sizeLine) (h:∀f:Array Value->Array Value,f items=(items.toList.take a).toArray->Q () { s with heap:=s.heap.update l (Obj.mapSeq f) }):
  wpAny (model prog w) A (delItem (.ref l) (.ref sl)) Q E s:=by
 have hl:s.heap.IsList l items:=PySem.IsL.isList e
 obtain⟨os,hos,hcs,hds⟩:=id hs
 have hTs:s.TypeIs (.ref sl) "slice":=⟨os,hos,hcs⟩
 have hstep:¬ ((rawPart none==rawInt 0)=true):=Bool.false_ne_true
 refine wpAny_delItem_slot hl.typeIs (by decide) PySem.F.slot_list_delitem (wpAny_call_entry PySem.F.slot_list_delitem hl.typeIs PySem.F.entry_list_delitem ?_ (PySem.F.args_list_delitem_2 _ _))
 show wpAny _ _ (Builtin.List.listSubscript? (.ref sl) >>= _) _ _ s
 refine wpAny_bind ?_
 unfold Builtin.List.listSubscript?
 refine wpAny_bind (wpAny_specialOf hTs slice_no_index ?_)
 simp only [Option.isNone_none,if_true]
 refine wpAny_pure ?_
 show wpAny _ _ (typeOf (.ref sl) >>= _) _ _ s
 refine wpAny_bind (wpAny_typeOf hTs ?_)
 first
  |rw[if_neg (by decide)]
  |refine PySem.W.KFB.if_not (by decide) ?_
 rw[listSliceParts_eq]
 refine wpAny_bind (wpAny_bind (wpAny_field hos hds (x:=.none) rfl (wpAny_bind (wpAny_listPart .none ?_))))
 rw[if_neg hstep]
 refine wpAny_bind (wpAny_field hos hds (x:=vl) rfl (wpAny_bind (wpAny_listPart pl ?_)))
 refine wpAny_bind (wpAny_field hos hds (x:=.none) rfl (wpAny_bind (wpAny_listPart .none (wpAny_pure ?_))))
 unfold Builtin.List.listItems
 refine wpAny_bind (wpAny_bind (wpAny_seqItems e rfl (wpAny_pure ?_)))
 refine wpAny_bind (wpAny_of_eq ((sliceIndices_raw (some (a:Int)) none none items.size (by simp)).trans (congrArg (pure:Int×Int×Int->Sem (Int×Int×Int)) (Zab ha))) ?_)
 refine wpAny_bind (wpAny_rule ?_)
 have key:∀k,k<items.size->(if (1:Int)>0 then decide ((a:Int)<=k)&&decide ((k:Int)<(items.size:Int))&&((k:Int)-a) % 1==0 else decide ((items.size:Int)<k)&&decide ((k:Int)<=a)&&((a:Int)-k) % (-1)==0)=decide (a<=k):=by
  intro k hk
  rw[if_pos (by decide)]
  have h1:decide ((k:Int)<(items.size:Int))=true:=decide_eq_true (by omega)
  have h2:(((k:Int)-a) % 1==0)=true:=by rw[Int.emod_one];rfl
  rw[h1,h2,Bool.and_true,Bool.and_true]
  exact decide_eq_decide.mpr (by omega)
 have key2:=Zeh items a _ key
 refine wpAny_bind (wpAny_updateSeq (hz:=hsz) (_hz':=?_) e rfl ?_)
 ·refine wpAny_bind (wpAny_letGo ?_)
  first
   |exact wpAny_pure ⟨.none,rfl,h _ key2⟩
   |exact wpAny_bind (wpAny_pure (wpAny_pure ⟨.none,rfl,h _ key2⟩))
   |exact wpAny_bind (wpAny_pure (wpAny_pure ⟨.none,rfl,wpAny_pure (h _ key2)⟩))
 ·refine Nat.le_trans (Nat.le_of_eq (congrArg Array.size key2)) ?_
  rw[size_toArray,length_take,Array.length_toList]
  omega
end
section
variable {X:Cx}
theorem Zei {pins:List (Addr×Obj)}{s:Shared}{σ:St}{H:Hp}{l sl:Addr}{xs:List V}{a:Int}{vl:Value}{Q:Unit->Shared->Prop}(I:Inv X pins σ H s)
  (hH:H l=some (.lst xs)) (hs:s.heap.IsSliceOf sl vl .none .none) (ra:IsPart vl (some a)) (h0:0<=a) (hc:a<=xs.length)
  (h:∀s',Inv X pins σ (upd H l (.lst (xs.take a.toNat))) s'->Q () s'):
  wpAny (model X.prog X.w) X.A (delItem (.ref l) (.ref sl)) Q X.xe s:=by
 obtain⟨z,its,n,r,hl,e⟩:=I.lstM hH
 obtain⟨a',rfl⟩:=Int.eq_ofNat_of_zero_le h0
 simp only [Int.toNat_natCast] at h
 refine Z8g (a:=a') e hs ra (by rw[size_toArray];omega) (by rw[size_toArray];omega) (fun f hf=>h _ ?_)
 refine I.lset (its':=its.take a') (t':=s.toks) hH e hf (r.take _) ?_
 rw[length_take]
 omega
def Zgi (te:TE)(tl:TO):TS:=fun D σ H=>te σ H fun x H1=>tl σ H1 fun lo H2=>∃(l:Addr) (xs:List V) (a:Int),x = .ref l/\lo=some a/\H2 l=some (.lst xs)/\0<=a/\a<=xs.length/\D.nx σ (upd H2 l (.lst (xs.take a.toNat)))
theorem Zce {o:Expr}{lo:Option Expr}{te:TE}{tl:TO}{p2 tpos pos:Pos}(ho:PE X o te)(hl:PO X lo tl):PS X (.Delete [.Subscript o (.Slice lo none none p2) tpos] pos) (Zgi te tl):=by
 intro pins s σ H D I h
 refine wpAny_Delete (wpAny_deleteEach_cons (wpAny_delete_Subscript (thn (ho pins s σ H _ I h) fun u s1 ⟨x,H1,I1,rx,q1⟩=>?_)))
 refine wpAny_Slice (thn (hl pins s1 σ H1 _ I1 q1) fun vl s2 ⟨l,H2,I2,pl,q2⟩=>?_)
 rw[evalPart_none]
 refine wpAny_pure (wpAny_pure ?_)
 obtain⟨la,xs,a,rfl,rfl,hH,h0,hc,q3⟩:=q2
 obtain rfl:u=Value.ref la:=rx
 have I4:Inv X pins σ H2 { s2 with heap:=s2.heap.push { cls:=.type "slice",data:=.fields #[vl,.none,.none] } }:=I2.kept (t':=s2.toks) fun b ob q=>Heap.get?_push_of_some _ q
 exact Zei I4 hH (Heap.IsSliceOf.new ..) pl h0 hc fun s5 I5=>wpAny_deleteEach_nil ⟨σ,_,I5,q3⟩
end
end L2
namespace K10
open PySem L2
inductive spParts_ (vs:List V)(H:Hp)(Q:VK):Prop
 |mk (H0:Hp) (v:V) (ts:List Th) (_:vs = [v]) (_:Same H0 H) (_:IsTh H0 v (.tup ts)) (_:ts.length<=1000000) (_:∀(p:Addr) (ws:List V) H',Same H H'->H' p=some (.tup ws)->IsThs H0 ws (Z11 ts)->Q (.ref p) H'):spParts_ vs H Q
def spParts:Sp:=fun vs H Q _=>spParts_ vs H Q
inductive spHead_ (vs:List V)(H:Hp)(Q:VK):Prop
 |mk (H0:Hp) (v:V) (ts:List Th) (_:vs = [v]) (_:Same H0 H) (_:IsTh H0 v (.tup ts)) (_:ts.length<=1000000) (_:∀(p:Addr) (ws:List V) H',Same H H'->H' p=some (.tup ws)->IsThs H0 ws (Z9k ts)->Q (.ref p) H'):spHead_ vs H Q
def spHead:Sp:=fun vs H Q _=>spHead_ vs H Q
section
variable {P:Program}{w:World}{K:PySem.W.Frag}{mg:Str->Option Value}{base:Heap}
theorem Ziu:FnScope ["e"] ["e"] (Z06 Z6d):=⟨rfl,rfl,rfl,by decide+kernel,rfl,by decide+kernel,by decide+kernel⟩
theorem Zb9 {f:Addr}{fd:FuncData}(F:Fun K "parts" "parts" Z6d f fd)(T:TxtT mg)(KI:Kits K):FnOk P w K mg base CX0 1 f fd ["e"] spParts:=by
 refine F.ok Ziu (fun vs H Q E h=>?_) (fun cdv A outer s H vs Q E hr h=>?_)
 ·obtain⟨H0,v,ts,rfl,_⟩:=h
  rfl
 ·obtain⟨H0,v,ts,rfl,s0,hv,hz,k⟩:=h
  refine⟨_,Z07 (Z0h (Z14 Z1q (by rfl) T.tup (by decide+kernel) (Z08 (Z1s (N':=["part"]) (src:=[none]) rfl (Z0m (Z06 Z6d) rfl ["e"] rfl (by decide+kernel)) (Z8q (pv 0))
   (fun cl C ex s0' H0'=>⟨Z0s (i:=0) (nd1 _) rfl (Or.inl rfl),Z4b (Z5f (Z0n (id:="isinstance") (Z2u (K:=K) rfl) (by rfl) T.isi (by decide+kernel) (Z0d (pv 0) (Z0d (Z5v (v:=.ty "tuple") (by rfl) T.tup (by decide+kernel) rfl) Z01)))),pv 0⟩)) Z01))),?_⟩
  obtain⟨a,xs,rfl,ha0,hts⟩:=Z1b hv
  have ha:=s0 _ _ ha0
  have hl:=IsThs.len _ hts
  refine⟨_,rfl,a,rfl,⟨_,SqT.of ha⟩,Z4m (K:=K) (a:=a) (xs:=xs) (fun i ys σc H'=>∃o,σc = [o]/\IsThs H0 ys ((ts.take i).filter isTup)/\ys.length<=i/\H'=H) ⟨none,rfl,by rw[take_zero];exact .nil,Nat.le_refl _,rfl⟩ (fun i ys σc H' ⟨_,_,_,_,e⟩=>by rw[e];exact SqT.of ha) ?_ ?_⟩
  ·rintro i x ys σc H' hx hi ⟨o,rfl,hys,hyl,rfl⟩
   obtain⟨t,ht,h1⟩:=Z1f _ hts hx
   have hnext:(ts.take (i+1)).filter isTup=(ts.take i).filter isTup++(if isTup t=true then [t] else []):=Z3w _ ht
   refine⟨by have:sizeLine=16777216:=sizeLine_eq;omega,?_⟩
   refine⟨_,rfl,_,_,_,_,rfl,Zfw (IsTh.kp (Kp.of s0) h1),KI.tup h1,_,rfl,Z1a (fun g=>?_) (fun g=>?_)⟩
   ·refine⟨_,rfl,nx hi ⟨_,rfl,?_,by rw[length_append];show ys.length+1<=i+1;omega,rfl⟩⟩
    rw[hnext,if_pos g]
    exact IsThs.app _ hys (.cons h1 .nil)
   ·refine nx hi ⟨_,rfl,?_,by omega,rfl⟩
    rw[hnext,if_neg g,append_nil]
    exact hys
  ·rintro ys σc H' ⟨o,rfl,hys,hyl,rfl⟩ l hl'
   refine⟨l,_,rfl,.inl ⟨SqL.of Z00,fun p hp=>?_⟩⟩
   rw[take_of_length_le (by omega)] at hys
   have s2:=(Z02 (o:=.lst ys) hl').trans (Z02 (o:=.tup ys) hp)
   exact k p ys _ s2 Z00 hys
theorem Zkx:FnScope ["node"] ["node"] (Z06 Za6):=⟨rfl,rfl,rfl,by decide+kernel,rfl,by decide+kernel,by decide+kernel⟩
theorem Ziv {f:Addr}{fd:FuncData}(F:Fun K "head" "head" Za6 f fd)(T:TxtT mg)(KI:Kits K):FnOk P w K mg base CX0 1 f fd ["node"] spHead:=by
 refine F.ok Zkx (fun vs H Q E h=>?_) (fun cdv A outer s H vs Q E hr h=>?_)
 ·obtain⟨H0,v,ts,rfl,_⟩:=h
  rfl
 ·obtain⟨H0,v,ts,rfl,s0,hv,hz,k⟩:=h
  refine⟨_,Z07 (Z0h (Z14 Z1q (by rfl) T.tup (by decide+kernel) (Z08 (Z1s (N':=["field"]) (src:=[none]) rfl (Z0m (Z06 Za6) rfl ["node"] rfl (by decide+kernel)) (Z8q (pv 0))
   (fun cl C ex s0 H0=>⟨Z0s (i:=0) (nd1 _) rfl (Or.inl rfl),Z4b (Z8p (Z5f (Z0n (id:="isinstance") (Z2u (K:=K) rfl) (by rfl) T.isi (by decide+kernel) (Z0d (pv 0) (Z0d (Z5v (v:=.ty "tuple") (by rfl) T.tup (by decide+kernel) rfl) Z01))))),pv 0⟩)) Z01))),?_⟩
  obtain⟨a,xs,rfl,ha0,hts⟩:=Z1b hv
  have ha:=s0 _ _ ha0
  have hl:=IsThs.len _ hts
  refine⟨_,rfl,a,rfl,⟨_,SqT.of ha⟩,Z4m (K:=K) (a:=a) (xs:=xs) (fun i ys σc H'=>∃o,σc = [o]/\IsThs H0 ys ((ts.take i).filter Z2i)/\ys.length<=i/\H'=H) ⟨none,rfl,by rw[take_zero];exact .nil,Nat.le_refl _,rfl⟩ (fun i ys σc H' ⟨_,_,_,_,e⟩=>by rw[e];exact SqT.of ha) ?_ ?_⟩
  ·rintro i x ys σc H' hx hi ⟨o,rfl,hys,hyl,rfl⟩
   obtain⟨t,ht,h1⟩:=Z1f _ hts hx
   have hnext:(ts.take (i+1)).filter Z2i=(ts.take i).filter Z2i++(if Z2i t=true then [t] else []):=Z3w _ ht
   refine⟨by have:sizeLine=16777216:=sizeLine_eq;omega,?_⟩
   refine⟨_,rfl,_,_,_,_,rfl,Zfw (IsTh.kp (Kp.of s0) h1),KI.tup h1,_,rfl,Z1a (fun g=>?_) (fun g=>?_)⟩
   ·refine⟨_,rfl,nx hi ⟨_,rfl,?_,by rw[length_append];show ys.length+1<=i+1;omega,rfl⟩⟩
    rw[hnext,if_pos (show Z2i t=true from g)]
    exact IsThs.app _ hys (.cons h1 .nil)
   ·refine nx hi ⟨_,rfl,?_,by omega,rfl⟩
    rw[hnext,if_neg (show ¬Z2i t=true from g),append_nil]
    exact hys
  ·rintro ys σc H' ⟨o,rfl,hys,hyl,rfl⟩ l hl'
   refine⟨l,_,rfl,.inl ⟨SqL.of Z00,fun p hp=>?_⟩⟩
   rw[take_of_length_le (by omega)] at hys
   have s2:=(Z02 (o:=.lst ys) hl').trans (Z02 (o:=.tup ys) hp)
   exact k p ys _ s2 Z00 hys
end
def off (a b:Addr)(H:Hp):Hp:=fun c=>if c=a∨c=b then none else H c
theorem Z8h {a b:Addr}{H:Hp}:Same (off a b H) H:=fun c o e=>by
 unfold off at e
 split at e
 ·cases e
 ·exact e
theorem Z7r {a b c:Addr}{H:Hp}{o:HO}(h:H c=some o)(h1:c≠a)(h2:c≠b):off a b H c=some o:=by
 unfold off
 rw[if_neg (fun z=>z.elim h1 h2)]
 exact h
theorem Zgj {a b:Addr}{H:Hp}{o:HO}:off a b (upd H a o)=off a b H:=by
 funext c
 unfold off
 split
 ·rfl
 ·next h=>rw[Z0a (fun z=>h (.inl z))]
theorem Zba {a b:Addr}{H:Hp}{o:HO}:off a b (upd H b o)=off a b H:=by
 funext c
 unfold off
 split
 ·rfl
 ·next h=>rw[Z0a (fun z=>h (.inr z))]
theorem Z2l {a b:Addr}{H H':Hp}(s:Same H H'):Same (off a b H) (off a b H'):=fun c o e=>by
 unfold off at e ⊢
 split at e
 ·cases e
 ·next h=>rw[if_neg h];exact s c o e
theorem Zky {a b:Addr}{H0 H:Hp}(s:Same H0 H)(h1:H0 a=none)(h2:H0 b=none):Same H0 (off a b H):=fun c o e=>Z7r (s c o e) (fun z=>by rw[z,h1] at e;cases e) (fun z=>by rw[z,h2] at e;cases e)
structure TxtD (mg:Str->Option Value):Prop where
 node:∃tk,mg "NODE"=some (.str "node" tk)
 opened:∃tk,mg "OPENED"=some (.str "opened" tk)
 closed:∃tk,mg "CLOSED"=some (.str "closed" tk)
inductive spSteps_ (N:Nat)(vs:List V)(H:Hp)(Q:VK):Prop
 |mk (v:V) (t:Th) (_:vs = [v]) (_:IsTh H v t) (_:OkT N t) (_:Th.sz t<=100000) (_:∀(p:Addr) (ws:List V) H',Same H H'->H p=none->H' p=some (.lst ws)->IsThs H' ws ((Z0u t).map pr)->Q (.ref p) H'):spSteps_ N vs H Q
def Zej (N:Nat):Sp:=fun vs H Q _=>spSteps_ N vs H Q
mutual
theorem Z3s:∀t:Th,(Z0u t).length<=3*Th.sz t
 | .tup xs=>by
  rw[Z0u,Th.sz,length_cons]
  have:=Z6r (Z2g xs) (.tup xs) xs 0
  omega
 | .at _=>by simp [Z0u]
 | .lst _=>by simp [Z0u]
theorem Z6r (l:Bool)(me:Th):∀(xs:List Th) (i:Nat),(Z3h l me i xs).length<=3*szs xs+(2-i)
 |[],i=>by simp [Z3h,szs]
 |x::xs,i=>by
  rw[Z3h,szs]
  have h1:=Z3s x
  have hm:(Z37 l me i).length<=(2-i)-(2-(i+1)):=by
   match i with
   | 0=>cases l <;> simp [Z37]
   | 1=>cases l <;> simp [Z37]
   |_+2=>simp [Z37]
  split
  ·have h2:=Z6r l me xs (i+1)
   rw[length_append,length_append]
   omega
  ·have h2:=Z6r l me xs i
   omega
end
abbrev prs (l:List (Str×Th)):List Th:=l.map pr
theorem Zgk {H:Hp}{ws:List V}{st:List (Str×Th)}(h:IsThs H ws (prs st))(hne:ws ≠ []):∃ws' y st' d t a vn,ws=ws' ++ [y]/\st=st' ++ [(d,t)]/\IsThs H ws' (prs st')/\y = .ref a/\H a=some (.tup [.str d,vn])/\IsTh H vn t:=by
 obtain⟨ws',y,us',u,e1,e2,h1,h2⟩:=Zfx ws h hne
 have hn:st ≠ []:=fun z=>by
  subst z
  have:=congrArg List.length e2
  simp [prs] at this
 obtain⟨st',x,rfl⟩:∃st' x,st=st' ++ [x]:=⟨st.dropLast,st.getLast hn,(dropLast_concat_getLast hn).symm⟩
 have e3:prs (st' ++ [x])=prs st' ++ [pr x]:=by simp [prs]
 rw[e3] at e2
 have e4:=List.append_inj' e2 rfl
 obtain⟨e5,e6⟩:=e4
 have e6':pr x=u:=by simpa using e6
 subst e6' e5
 obtain⟨a,vs,rfl,ha,hvs⟩:=Z1b h2
 cases hvs with
 |cons c1 c2=>
  cases c2 with
  |cons c3 c4=>
   cases c4
   obtain⟨rfl,_⟩:=Z1w c1
   exact⟨ws',_,st',x.1,x.2,a,_,e1,rfl,h1,rfl,ha,c3⟩
theorem Z3c {d:Str}(h:d="node"∨d="opened"∨d="closed"):smallV (.str d)=true:=by
 rcases h with rfl|rfl|rfl <;> decide+kernel
theorem Zek {n:Nat}{t:Th}(h:OkT n t):1<=(Z0u t).length:=by
 cases n with
 |zero=>exact h.elim
 |succ n=>
  obtain⟨w,ts,rfl,_⟩:=h
  rw[Z0u,length_cons]
  omega
def Ziw (N:Nat)(p:Str×Th):Prop:=(p.1="node"∨p.1="opened"∨p.1="closed")/\OkT N p.2/\Th.sz p.2<=100000
theorem Zbb {N:Nat}:∀(st:List (Str×Th)),(∀x∈st,Ziw N x)->st.length<=(Z2d st).length:=by
 intro st
 induction st with
 |nil=>intro _;exact Nat.zero_le _
 |cons x st ih=>
  intro h
  have h1:=ih (fun y hy=>h y (mem_cons_of_mem _ hy))
  have h2:1<=(Z56 x).length:=by
   unfold Z56
   split
   ·exact Zek (h x (mem_cons_self ..)).2.1
   ·exact Nat.le_refl _
  have e:Z2d (x::st)=Z2d st++Z56 x:=by unfold Z2d;simp
  rw[e,length_append,length_cons]
  omega
theorem Z6s (w:Str)(ts:List Th):Z11 (.at (.str w)::ts)=Z11 ts:=rfl
theorem Z9p {w:Str}{ts:List Th}:Z2g (.at (.str w)::ts)=decide (w="let"):=rfl
section
variable {P:Program}{w:World}{K:PySem.W.Frag}{mg:Str->Option Value}{base:Heap}
theorem scSteps:FnScope ["tree","walk","waiting","deed","node","inner"] ["tree"] (Z06 Z7l):=⟨rfl,rfl,rfl,by decide+kernel,rfl,by decide+kernel,by decide+kernel⟩
theorem Zgl {f fP:Addr}{fd dP:FuncData}(F:Fun K "steps" "steps" Z7l f fd)(T:TxtT mg)(TD:TxtD mg)(KI:Kits K)
  (FP:Fun K "parts" "parts" Z6d fP dP) (bP:Binds K dP ["e"] []) (mP:mg "parts"=some (.ref fP)) (N:Nat):FnOk P w K mg base CX0 2 f fd ["tree"] (Zej N):=by
 have GP:FnOk P w K mg base CX0 1 fP dP ["e"] spParts:=Zb9 FP T KI
 obtain⟨tn,hNode⟩:=TD.node
 obtain⟨to,hOpen⟩:=TD.opened
 obtain⟨tc,hClose⟩:=TD.closed
 refine F.ok scSteps (fun vs H Q E h=>?_) (fun cdv A outer s H vs Q E hr h=>?_)
 ·obtain⟨v,t,rfl,_⟩:=h
  rfl
 ·obtain⟨v,t,rfl,ht,hok,hz,k⟩:=h
  have hsz:sizeLine=16777216:=sizeLine_eq
  have hr1:Room 1 _:=hr.mono (by decide)
  refine'⟨?tt,?body,?fin⟩
  case body=>
   refine' Z04 ?s1 (Z0l ?s2 (Z04 ?s3 (Z07 ?s4)))
   case s1=>exact Z0c (i:=1) scSteps.nd rfl (Or.inl rfl) (Z0y Z01)
   case s2=>exact Z0c (i:=2) scSteps.nd rfl (Or.inl rfl) (Z0y (Zji (Z12 (Z0d (Z48 (v:=.str "node") (by rfl) hNode ⟨tn,rfl⟩) (Z0d (pv 0) Z01))) Z01))
   case s3=>
    refine' Zai PassesOwn.never ?c (Z04 ?b1 (Z0l ?b2 (Z07 ?b3)))
    case c=>exact Zal (pv 2) (fun _=>rfl)
    case b1=>exact Zah (Zhd PySem.F.plainAttrs_list PySem.F.slot_list_pop PySem.F.type_list_pop Zhe (pv 2)) (Z5x rfl (Z1j (Z0s (i:=3) scSteps.nd rfl (Or.inl rfl)) (Z1j (Z0s (i:=4) scSteps.nd rfl (Or.inl rfl)) Z49)))
    case b2=>exact Z3k (Z92 PySem.F.plainAttrs_list PySem.F.slot_list_append PySem.F.type_list_append Z34 (pv 1) (Zji (Z12 (Z0d (pv 3) (Z0d (pv 4) Z01))) Z01))
    case b3=>
     refine' Z0x ?d (Z0l ?c1 (Z0l ?c2 (Z07 ?c3))) Z0f
     case d=>exact Z0b Z1d (pv 3) (Z48 (v:=.str "node") (by rfl) hNode ⟨tn,rfl⟩) (Z0k _)
     case c1=>
      refine' Z35 (i:=5) (N':=["part"]) (src:=[none]) ?k1 ?k2 ?k3 ?k4 ?k5 ?k6 ?k7
      case k1=>rfl
      case k2=>exact scSteps.nd
      case k3=>rfl
      case k4=>exact Or.inl rfl
      case k5=>exact Z0m (Z06 Z7l) rfl ["tree","walk","waiting","deed","node","inner"] rfl (by decide+kernel)
      case k6=>exact Z8q (Z05 GP hr1 (by rfl) mP FP.kp bP .nil Z0e (Z0d (pv 4) Z01))
      case k7=>exact fun cl C ex s0 H0=>⟨Z0s (i:=0) (nd1 _) rfl (Or.inl rfl),Z24,Z12 (Z0d (Z48 (v:=.str "node") (by rfl) hNode ⟨tn,rfl⟩) (Z0d (pv 0) Z01))⟩
     case c2=>
      refine' Z0x ?e (Z07 ?g) Z0f
      case e=>exact Z0b Z1d (Z0q Z0v (pv 4) Z03 (fun _ _=>rfl)) Z09 (Z0k _)
      case g=>exact Z0c (i:=5) scSteps.nd rfl (Or.inl rfl) (Z0y (Z08 (Z0q Z0w (pv 5) Z03 (fun _ _=>rfl)) (Zji (Z12 (Z0d (Z48 (v:=.str "opened") (by rfl) hOpen ⟨to,rfl⟩) (Z0d (pv 4) Z01))) (Z08 (Z0q Z0w (pv 5) Z03 (fun _ _=>rfl)) (Zji (Z12 (Z0d (Z48 (v:=.str "closed") (by rfl) hClose ⟨tc,rfl⟩) (Z0d (pv 4) Z01))) Z01)))))
     case c3=>exact Z3k (Z92 PySem.F.plainAttrs_list PySem.F.slot_list_extend PySem.F.type_list_extend Zd6 (pv 2) (Z08 (Zhh (pv 5) (Zfg Zak Z03)) Z01))
   case s4=>exact Z0h (pv 1)
  case fin=>
   refine⟨Nat.zero_le _,fun wk hwk=>?_⟩
   refine⟨fun σ' H'=>∃wt p0,σ' = [some v,some (.ref wk),some (.ref wt),none,none,none]/\wk≠wt/\H wt=none/\Same H H'/\H' wk=some (.lst [])/\H' wt=some (.lst [.ref p0])/\H' p0=some (.tup [.str "node",v]),?_,?_⟩
   ·refine⟨_,rfl,(by show 2<=sizeLine;decide),fun p0 hp0=>⟨(by show 1<=sizeLine;decide),fun wt hwt=>?_⟩⟩
    have s1:=Z02 (o:=.lst []) hwk
    have s2:=s1.trans (Z02 (o:=.tup [.str "node",v]) hp0)
    have e1:upd (upd H wk (.lst [])) p0 (.tup [.str "node",v]) wk=some (.lst []):=Z02 hp0 _ _ Z00
    have s3:=Z02 (o:=.lst [.ref p0]) hwt
    exact⟨wt,p0,rfl,Z0g e1 hwt,Z1u s2 hwt,s2.trans s3,s3 _ _ e1,Z00,s3 _ _ Z00⟩
   rintro σ0 H1 ⟨wt,p0,rfl,hkt,hwt,s1,L1,W1,P1⟩
   refine Zib (fun m σ H'=>∃(ws wl:List V) (st dn:List (Str×Th)) (o3 o4 o5:Option V),σ = [some v,some (.ref wk),some (.ref wt),o3,o4,o5]/\Same H H'/\H' wt=some (.lst ws)/\H' wk=some (.lst wl) ∧
     IsThs (off wk wt H') ws (prs st)/\IsThs (off wk wt H') wl (prs dn)/\dn++Z2d st=Z0u t/\(∀x∈st,Ziw N x)/\m=(Z2d st).length)
    (Z2d [("node",t)]).length ⟨[.ref p0],[],[("node",t)],[],none,none,none,rfl,s1,W1,L1,?_,.nil,?_,?_,rfl⟩ ?_ ?_
   ·refine .cons (.tup (Z7r P1 (Z3i P1 L1 (by intro q;cases q)) (Z3i P1 W1 (by intro q;cases q))) (.cons (.at (Z3c (.inl rfl))) (.cons (IsTh.kp (Kp.of (Zky s1 hwk hwt)) ht) .nil))) .nil
   ·show Z2d ([] ++ [(("node":Str),t)])=_
    rw[Z4q,Z3x]
    show Z0u t ++ []=_
    rw[append_nil]
   ·intro x hx
    rw[mem_singleton] at hx
    subst hx
    exact⟨.inl rfl,hok,hz⟩
   ·rintro m σ H2 ⟨ws,wl,st,dn,o3,o4,o5,rfl,s2,W2,L2,hst,hdn,heq,hall,rfl⟩
    have hlt:=Z3s t
    have hlen:dn.length+(Z2d st).length=(Z0u t).length:=by rw[<- heq,length_append]
    have hstl:=Zbb st hall
    refine⟨_,rfl,_,.inl ⟨ws,SqL.of W2,rfl⟩,?_⟩
    cases hws:ws.isEmpty with
    |true=>
     have e:ws = []:=List.isEmpty_iff.mp hws
     subst e
     refine Za0 ?_
     have est:st = []:=by
      have:=IsThs.len _ hst
      rw[length_map] at this
      exact eq_nil_of_length_eq_zero this.symm
     subst est
     have ed:dn=Z0u t:=by rw[<- heq];show dn=dn ++ [];rw[append_nil]
     subst ed
     exact⟨_,rfl,k wk wl H2 s2 hwk L2 (IsThs.kp (Kp.of Z8h) hdn)⟩
    |false=>
     have hne:ws ≠ []:=fun z=>by rw[z] at hws;cases hws
     obtain⟨ws',y,st',d,n,a,vn,rfl,rfl,hst',rfl,ha,hvn⟩:=Zgk hst hne
     refine Zaq ?_
     refine⟨_,rfl,.inl ⟨rfl,_,SqL.of W2⟩,wt,_,.ref a,rfl,rfl,W2,(by rw[length_append];simp),?_⟩
     rw[List.dropLast_concat]
     have hx:=hall (d,n) (mem_append_right _ (mem_singleton.mpr rfl))
     have hall':∀x∈st',Ziw N x:=fun x hx=>hall x (mem_append_left _ hx)
     have hat:upd H2 wt (.lst ws') a=some (.tup [.str d,vn]):=by
      have h1:=Z8h _ _ ha
      rw[Z0a (Z3i h1 W2 (by intro q;cases q))]
      exact h1
     refine⟨a,[.str d,vn],rfl,SqT.of hat,rfl,_,_,rfl,_,_,rfl,rfl,?_⟩
     refine⟨fun σ' H'=>∃(wl':List V),σ' = [some v,some (.ref wk),some (.ref wt),some (.str d),some vn,o5]/\Same H H'/\H' wt=some (.lst ws')/\H' wk=some (.lst wl') ∧
      IsThs (off wk wt H') ws' (prs st')/\IsThs (off wk wt H') wl' (prs (dn ++ [(d,n)]))/\IsTh (off wk wt H') vn n,?_,?_⟩
     ·have eo:off wk wt (upd H2 wt (.lst ws'))=off wk wt H2:=Zba
      have Lx:upd H2 wt (.lst ws') wk=some (.lst wl):=by rw[Z0a hkt];exact L2
      have Wx:upd H2 wt (.lst ws') wt=some (.lst ws'):=Z00
      have sx:Same H (upd H2 wt (.lst ws')):=fun b ob e=>by rw[Z0a (Z0g e hwt)];exact s2 b ob e
      rw[<- eo] at hst' hdn hvn
      generalize upd H2 wt (.lst ws')=H3 at Lx Wx sx hst' hdn hvn ⊢
      refine⟨_,rfl,.inl ⟨rfl,_,SqL.of Lx⟩,_,rfl,_,rfl,(by show 2<=sizeLine;decide),fun q hq=>?_⟩
      have sq:=Z02 (o:=.tup [.str d,vn]) hq
      have hqk:q≠wk:=fun z=>by rw[z,Lx] at hq;cases hq
      have hqt:q≠wt:=fun z=>by rw[z,Wx] at hq;cases hq
      have hll:=IsThs.len _ hdn
      rw[length_map] at hll
      rw[length_append] at hstl
      simp only [length_singleton] at hstl
      refine⟨wk,wl,.ref q,rfl,rfl,sq _ _ Lx,by omega,?_⟩
      have so:=Z2l (a:=wk) (b:=wt) sq
      have eo2:off wk wt (upd (upd H3 q (.tup [.str d,vn])) wk (.lst (wl ++ [.ref q])))=off wk wt (upd H3 q (.tup [.str d,vn])):=Zgj
      refine⟨wl ++ [.ref q],rfl,?_,?_,Z00,?_,?_,?_⟩
      ·intro b ob e
       rw[Z0a (Z0g e hwk)]
       exact sq _ _ (sx _ _ e)
      ·rw[Z0a hkt.symm]
       exact sq _ _ Wx
      ·rw[eo2];exact IsThs.kp (Kp.of so) hst'
      ·rw[eo2]
       unfold prs
       rw[map_append]
       refine IsThs.app _ (IsThs.kp (Kp.of so) hdn) (.cons (.tup (Z7r Z00 hqk hqt) (.cons (.at (Z3c hx.1)) (.cons (IsTh.kp (Kp.of so) hvn) .nil))) .nil)
      ·rw[eo2];exact IsTh.kp (Kp.of so) hvn
     clear hst hdn ha hvn hat hst' W2 L2 s2
     rintro σ3 H3 ⟨wl',rfl,s3,W3,L3,hst3,hdn3,hvn3⟩
     refine⟨_,rfl,rfl,_,rfl,Z1a (fun g=>?_) (fun g=>?_)⟩
     ·have hd:d="node":=by
       have g':=of_decide_eq_true g
       injection g'
      subst hd
      obtain⟨_,hokn,hzn⟩:=hx
      obtain⟨N',rfl⟩:∃N',N=N'+1:=by
       cases N with
       |zero=>exact hokn.elim
       |succ N'=>exact⟨N',rfl⟩
      obtain⟨w0,xs,rfl,hlet,hkid⟩:=hokn
      simp only [] at hzn
      have hxs:Th.sz (.tup (.at (.str w0)::xs))=1+(1+szs xs):=by simp only [Th.sz,szs]
      have hxl:=Za2 xs
      have hkl:(Z11 xs).length<=100000:=by
       have h1:=length_filter_le isTup xs
       show(xs.filter isTup).length<=_
       omega
      have hkok:∀k∈Z11 xs,OkT N' k/\Th.sz k<=100000:=fun k hk=>by
       have hk':k∈xs/\isTup k=true:=mem_filter.mp hk
       have:=Zkh xs k hk'.1
       exact⟨hkid k hk'.1 hk'.2,by omega⟩
      refine⟨fun σ' H'=>∃(l:Addr) (ys:List V),σ' = [some v,some (.ref wk),some (.ref wt),some (.str "node"),some vn,some (.ref l)]/\Same H3 H'/\H' l=some (.lst ys)/\H3 l=none/\IsThs (off wk wt H') ys (prs ((Z11 xs).map fun k=>(("node":Str),k))),?_,?_⟩
      ·refine⟨_,rfl,off wk wt H3,vn,.at (.str w0)::xs,rfl,Z8h,hvn3,by rw[length_cons];omega,fun p ps H4 s4 hp4 hps=>?_⟩
       rw[Z6s] at hps
       have hpl:=IsThs.len _ hps
       refine⟨p,rfl,⟨_,SqT.of hp4⟩,Z4m (K:=K) (a:=p) (xs:=ps) (fun i ys σc H'=>∃o,σc = [o]/\Same H4 H'/\ys.length=i/\IsThs (off wk wt H') ys (prs (((Z11 xs).take i).map fun k=>(("node":Str),k))))
        ⟨none,rfl,Same.refl _,rfl,by rw[take_zero];exact .nil⟩ (fun i ys σc H' ⟨_,_,e,_⟩=>SqT.of (e _ _ hp4)) ?_ ?_⟩
       ·rintro i x ys σc H' hxi hi ⟨o,rfl,s5,hyl,hys⟩
        obtain⟨kd,hk,h1⟩:=Z1f _ hps hxi
        refine⟨by omega,_,rfl,(by show 2<=sizeLine;decide),fun q hq=>?_⟩
        have sq:=Z02 (o:=.tup [.str "node",x]) hq
        have so:=Z2l (a:=wk) (b:=wt) sq
        have hqk:q≠wk:=fun z=>by rw[z,s5 _ _ (s4 _ _ L3)] at hq;cases hq
        have hqt:q≠wt:=fun z=>by rw[z,s5 _ _ (s4 _ _ W3)] at hq;cases hq
        refine nx hi ⟨_,rfl,s5.trans sq,by rw[length_append,hyl];rfl,?_⟩
        have e1:((Z11 xs).take (i+1))=(Z11 xs).take i ++ [kd]:=by rw[take_add_one,hk];rfl
        unfold prs
        rw[e1,map_append,map_append]
        refine IsThs.app _ (IsThs.kp (Kp.of so) hys) (.cons (.tup (Z7r Z00 hqk hqt) (.cons (.at (Z3c (.inl rfl))) (.cons (IsTh.kp (Kp.of (Z2l ((s4.trans s5).trans sq))) h1) .nil))) .nil)
       ·rintro ys σc H' ⟨o,rfl,s5,hyl,hys⟩ l hl
        rw[take_of_length_le (by omega)] at hys
        have sl:=Z02 (o:=.lst ys) hl
        refine⟨l,ys,rfl,(s4.trans s5).trans sl,Z00,Z1u (s4.trans s5) hl,IsThs.kp (Kp.of (Z2l sl)) hys⟩
      rintro σ4 H4 ⟨l,ys,rfl,s4,hl4,hl3,hys4⟩
      have hlk:l≠wk:=fun z=>by rw[z,L3] at hl3;cases hl3
      have hlt':l≠wt:=fun z=>by rw[z,W3] at hl3;cases hl3
      obtain⟨an,vns,evn,han,hvns⟩:=Z1b hvn3
      cases hvns with
      | @cons vh vr _ _ c1 c2=>
       obtain⟨rfl,_⟩:=Z1w c1
       have han3:=Z8h _ _ han
       refine⟨fun σ' H'=>∃(l:Addr) (ys:List V) (ps:List (Str×Th)),σ' = [some v,some (.ref wk),some (.ref wt),some (.str "node"),some vn,some (.ref l)]/\Same H3 H'/\H' l=some (.lst ys)/\IsThs (off wk wt H') ys (prs ps) ∧
        Z2d (st' ++ [(("node":Str),.tup (.at (.str w0)::xs))])=(("node":Str),.tup (.at (.str w0)::xs))::Z2d (st'++ps.reverse)/\∀x∈ps,Ziw (N'+1) x,?_,?_⟩
       ·have hself:Ziw (N'+1) ("opened",.tup (.at (.str w0)::xs))/\Ziw (N'+1) ("closed",.tup (.at (.str w0)::xs)):=
         ⟨⟨.inr (.inl rfl),⟨w0,xs,rfl,hlet,hkid⟩,hzn⟩,⟨.inr (.inr rfl),⟨w0,xs,rfl,hlet,hkid⟩,hzn⟩⟩
        refine⟨_,rfl,an,_,0,.str w0,evn,rfl,SqT.of (s4 _ _ han3),Z16 _ _,rfl,_,rfl,Z1a (fun g2=>?_) (fun g2=>?_)⟩
        ·have hw0:w0="let":=by
          have g':=of_decide_eq_true g2
          injection g'
         have h2:=hlet hw0
         obtain⟨k1,k2,hk12⟩:∃k1 k2,Z11 xs = [k1,k2]:=by
          match hq:Z11 xs,h2 with
          |[k1,k2],_=>exact⟨k1,k2,rfl⟩
         rw[hk12] at hys4 hkok
         cases hys4 with
         | @cons y1 yr _ _ d1 d2=>
          cases d2 with
          | @cons y2 yr2 _ _ d3 d4=>
           cases d4
           refine⟨_,rfl,l,_,0,y1,rfl,rfl,SqL.of hl4,Z16 _ _,_,rfl,(by show 2<=sizeLine;decide),fun q1 hq1=>?_⟩
           have sq1:=Z02 (o:=.tup [.str "opened",vn]) hq1
           refine⟨_,rfl,l,_,1,y2,rfl,rfl,SqL.of (sq1 _ _ hl4),Z15 _ _ _,_,rfl,(by show 2<=sizeLine;decide),fun q2 hq2=>?_⟩
           have sq2:=Z02 (o:=.tup [.str "closed",vn]) hq2
           refine⟨(by show 4<=sizeLine;decide),fun l2 hl2=>?_⟩
           have sq3:=Z02 (o:=.lst [y1,.ref q1,y2,.ref q2]) hl2
           have sA:=(sq1.trans sq2).trans sq3
           have hq1k:q1≠wk:=fun z=>by rw[z,s4 _ _ L3] at hq1;cases hq1
           have hq1t:q1≠wt:=fun z=>by rw[z,s4 _ _ W3] at hq1;cases hq1
           have hq2k:q2≠wk:=fun z=>by rw[z,sq1 _ _ (s4 _ _ L3)] at hq2;cases hq2
           have hq2t:q2≠wt:=fun z=>by rw[z,sq1 _ _ (s4 _ _ W3)] at hq2;cases hq2
           have oA:=Z2l (a:=wk) (b:=wt) sA
           have hvA:=IsTh.kp (Kp.of (Z2l (a:=wk) (b:=wt) (s4.trans sA))) hvn3
           refine⟨l2,_,[("node",k1),("opened",.tup (.at (.str w0)::xs)),("node",k2),("closed",.tup (.at (.str w0)::xs))],rfl,s4.trans sA,Z00,?_,?_,?_⟩
           ·exact .cons (IsTh.kp (Kp.of oA) d1) (.cons (.tup (Z7r (sq3 _ _ (sq2 _ _ Z00)) hq1k hq1t) (.cons (.at (Z3c (.inr (.inl rfl)))) (.cons hvA .nil))) (.cons (IsTh.kp (Kp.of oA) d3) (.cons (.tup (Z7r (sq3 _ _ Z00) hq2k hq2t) (.cons (.at (Z3c (.inr (.inr rfl)))) (.cons hvA .nil))) .nil)))
           ·exact Zfy (by rw[Z9p,hw0];decide+kernel) (by rw[Z6s,hk12])
           ·intro x hx
            have o1:=hkok k1 (by simp)
            have o2:=hkok k2 (by simp)
            simp only [mem_cons,not_mem_nil,or_false] at hx
            rcases hx with rfl|rfl|rfl|rfl
            ·exact⟨.inl rfl,o1.1.up,o1.2⟩
            ·exact hself.1
            ·exact⟨.inl rfl,o2.1.up,o2.2⟩
            ·exact hself.2
        ·have hw0:w0≠"let":=fun z=>g2 (by rw[z];decide+kernel)
         refine⟨l,ys,(Z11 xs).map fun k=>(("node":Str),k),rfl,s4,hl4,hys4,?_,?_⟩
         ·have:=Zc3 (st:=st') (xs:=.at (.str w0)::xs) (by rw[Z9p];exact decide_eq_false hw0)
          rw[Z6s] at this
          exact this
         ·intro x hx
          obtain⟨kd,hk,rfl⟩:=mem_map.mp hx
          exact⟨.inl rfl,(hkok kd hk).1.up,(hkok kd hk).2⟩
       clear hys4 hl4 s4 hl3 hlk hlt'
       rintro σ5 H5 ⟨l,ys,ps,rfl,s5,hl5,hys5,htodo,hps⟩
       have hyl:=IsThs.len _ hys5
       rw[length_map] at hyl
       have hnew:∀x∈st'++ps.reverse,Ziw (N'+1) x:=fun x hx=>by
        rcases mem_append.mp hx with z|z
        ·exact hall' x z
        ·exact hps x (List.mem_reverse.mp z)
       have hnl:=Zbb _ hnew
       rw[htodo] at hlen
       rw[length_cons] at hlen
       rw[length_append,length_reverse] at hnl
       have hwl:=IsThs.len _ hst3
       rw[length_map] at hwl
       refine⟨_,rfl,.inl ⟨rfl,_,SqL.of (s5 _ _ W3)⟩,_,rfl,_,rfl,rfl,l,ys,rfl,SqL.of hl5,fun p hp=>?_⟩
       have sp5:=Z02 (o:=.lst ys.reverse) hp
       refine⟨wt,p,ws',ys.reverse,rfl,rfl,sp5 _ _ (s5 _ _ W3),Z00,by rw[length_reverse];omega,?_⟩
       have eo:off wk wt (upd (upd H5 p (.lst ys.reverse)) wt (.lst (ws'++ys.reverse)))=off wk wt (upd H5 p (.lst ys.reverse)):=Zba
       refine⟨(Z2d (st'++ps.reverse)).length,by rw[htodo,length_cons];omega,ws'++ys.reverse,wl',st'++ps.reverse,dn ++ [(("node":Str),Th.tup (.at (.str w0)::xs))],_,_,_,rfl,?_,Z00,?_,?_,?_,?_,hnew,rfl⟩
       ·intro b ob e
        rw[Z0a (Z0g e hwt)]
        exact sp5 _ _ (s5 _ _ (s3 _ _ e))
       ·rw[Z0a hkt]
        exact sp5 _ _ (s5 _ _ L3)
       ·rw[eo]
        unfold prs
        rw[map_append,List.map_reverse]
        exact IsThs.app _ (IsThs.kp (Kp.of (Z2l (s5.trans sp5))) hst3) (Zdm _ (IsThs.kp (Kp.of (Z2l sp5)) hys5))
       ·rw[eo]
        exact IsThs.kp (Kp.of (Z2l (s5.trans sp5))) hdn3
       ·rw[<- heq,htodo,append_assoc]
        rfl
     ·have hd:d≠"node":=fun z=>g (by rw[z];decide+kernel)
      have e1:Z2d (st' ++ [(d,n)])=(d,n)::Z2d st':=by
       rw[Z4q]
       unfold Z56
       rw[if_neg hd]
       rfl
      refine⟨(Z2d st').length,by rw[e1,length_cons];omega,ws',wl',st',dn ++ [(d,n)],_,_,_,rfl,s3,W3,L3,hst3,hdn3,?_,hall',rfl⟩
      rw[<- heq,e1,append_assoc]
      rfl
   ·rintro σ H1 Q1 Q2 hq ⟨u1,e1,b1,e2,q⟩
    exact⟨u1,e1,b1,e2,hq _ _ q⟩
end
theorem Z8i {X:Cx}{K:PySem.W.Frag}(hK:X.K=K):Z3l X (.builtin "len") (fun xs H Q=>∃p ys,xs = [.ref p]/\(SqL K H p ys∨SqT K H p ys)/\Q (.int ys.length) H):=by
 subst hK
 exact Z0o
theorem Zbc {X:Cx}{K:PySem.W.Frag}{x y:Str}{px py pos:Pos}{k i j:Nat}(hK:X.K=K)(hc:X.calm=true)(hN:X.N.Nodup)(hi:X.N[i]? = some x)(hx:Loc X.env.scope x)(hj:X.N[j]? = some y)(hy:Loc X.env.scope y)
  (hf:X.fn x=true∨X.env.scope.names.lookup x=some .local) (hg:X.fn y=true∨X.env.scope.names.lookup y=some .local):
  PG X (.Tuple [.Name x px,.Name y py] k pos) (gTup K 2 (Zhz (Zbn i) (Zhz (Zbn j) gNil))):=by
 subst hK
 exact Z5x hc (Z1j (Z0s hN hi hx hf) (Z1j (Z0s hN hj hy hg) Z49))
def nm:Th->Str
 | .tup (_ :: .at (.str s)::_)=>s
 |_=>""
def wd:Th->Str
 | .tup (.at (.str s)::_)=>s
 |_=>""
def OkN:Nat->Th->Prop
 | 0,_=>False
 |n+1,t=>∃(w:Str) (ts:List Th),t = .tup (.at (.str w)::ts)/\(w="let"->(Z11 ts).length=2)/\(w="let"∨w="name"∨w="set"->∃x r,ts = .at (.str x)::r) ∧
  (∀x∈ts,isTup x=true∨∃v,x = .at v)/\∀x∈ts,isTup x=true->OkN n x
theorem OkN.ok:∀(n:Nat) {t:Th},OkN n t->OkT n t:=by
 intro n
 induction n with
 |zero=>intro t h;exact h.elim
 |succ n ih=>
  intro t h
  obtain⟨w,ts,rfl,h1,_,_,h4⟩:=h
  exact⟨w,ts,rfl,h1,fun x hx hxt=>ih (h4 x hx hxt)⟩
theorem OkN.up:∀(n:Nat) {t:Th},OkN n t->OkN (n+1) t:=by
 intro n
 induction n with
 |zero=>intro t h;exact h.elim
 |succ n ih=>
  intro t h
  obtain⟨w,ts,rfl,h1,h2,h3,h4⟩:=h
  exact⟨w,ts,rfl,h1,h2,h3,fun x hx hxt=>ih (h4 x hx hxt)⟩
def TO (H:Hp):Hp:=fun c=>match H c with
 |some (.tup vs)=>some (.tup vs)
 |_=>none
theorem Z9q {H:Hp}{c:Addr}{vs:List V}(h:H c=some (.tup vs)):TO H c=some (.tup vs):=by
 unfold TO;rw[h]
theorem Zbd {H:Hp}{c:Addr}{o:HO}(h:TO H c=some o):H c=some o/\∃vs,o = .tup vs:=by
 unfold TO at h
 split at h
 ·next vs e=>cases h;exact⟨e,_,rfl⟩
 ·cases h
theorem Z6t {H:Hp}:Same (TO H) H:=fun _ _ e=>(Zbd e).1
theorem Z6u {H H':Hp}(s:Same H H'):Same (TO H) (TO H'):=fun c o e=>by
 obtain⟨h,vs,rfl⟩:=Zbd e
 exact Z9q (s _ _ h)
theorem Z7s {H:Hp}{a:Addr}{xs:List V}{o:HO}(h:H a=some (.lst xs)):Same (TO H) (TO (upd H a o)):=fun c u e=>by
 obtain⟨h1,vs,rfl⟩:=Zbd e
 refine Z9q ?_
 rw[Z0a (Z3i h1 h (by intro q;cases q))]
 exact h1
theorem Zmh {H:Hp}{a:Addr}{kvs:List (Key×V)}{o:HO}(h:H a=some (.dK kvs)):Same (TO H) (TO (upd H a o)):=fun c u e=>by
 obtain⟨h1,vs,rfl⟩:=Zbd e
 refine Z9q ?_
 rw[Z0a (Z3i h1 h (by intro q;cases q))]
 exact h1
theorem Zmi {H:Hp}:∀(n:Nat) {v:V} {t:Th},OkN n t->IsTh H v t->IsTh (TO H) v t:=by
 intro n
 induction n with
 |zero=>intro v t h;exact h.elim
 |succ n ih=>
  intro v t h ht
  obtain⟨w,ts,rfl,h1,h2,h3,h4⟩:=h
  obtain⟨a,vs,rfl,ha,hvs⟩:=Z1b ht
  refine .tup (Z9q ha) ?_
  cases hvs with
  | @cons v1 vr _ _ c1 c2=>
   obtain⟨rfl,f⟩:=Z1w c1
   refine .cons (.at f) ?_
   clear ht ha c1 h1 h2
   revert vr
   induction ts with
   |nil=>intro vr c2;cases c2;exact .nil
   |cons x ts ihx=>
    intro vr c2
    cases c2 with
    |cons c3 c4=>
     refine .cons ?_ (ihx (fun y hy=>h3 y (mem_cons_of_mem _ hy)) (fun y hy=>h4 y (mem_cons_of_mem _ hy)) c4)
     rcases h3 x (mem_cons_self ..) with z|⟨u,rfl⟩
     ·exact ih (h4 x (mem_cons_self ..) z) c3
     ·obtain⟨rfl,f⟩:=Z1w c3
      exact .at f
abbrev Mp:=Str->List Int
def Z53 (n:Th)(m:Mp)(L:Int):Int:=if wd n="name"/\m (nm n) ≠ [] then L-1-(m (nm n)).getLastD 0 else -1
def push (m:Mp)(x:Str)(L:Int):Mp:=fun y=>if y=x then m x ++ [L] else m y
def Zix (m:Mp)(x:Str):Mp:=fun y=>if y=x then (m x).dropLast else m y
theorem Zbe (m:Mp)(x:Str)(L:Int):Zix (push m x L) x=m:=by
 funext y
 unfold Zix push
 split
 ·next h=>subst h;simp
 ·rfl
structure OS where
 L:Int
 m:Mp
 r:List (Th×Int)
def Z1t (s:OS)(p:Str×Th):Option OS:=
 if p.1="node" then some ⟨s.L,s.m,s.r ++ [(p.2,Z53 p.2 s.m s.L)]⟩
 else if p.1="opened" then some ⟨s.L+1,push s.m (nm p.2) s.L,s.r⟩
 else if s.m (nm p.2) = [] then none else some ⟨s.L-1,Zix s.m (nm p.2),s.r⟩
def Z3e:List (Str×Th)->OS->Option OS
 |[],s=>some s
 |p::l,s=>(Z1t s p).bind (Z3e l)
theorem Z3t:∀(a b:List (Str×Th)) (s:OS),Z3e (a++b) s=(Z3e a s).bind (Z3e b):=by
 intro a
 induction a with
 |nil=>intro b s;rfl
 |cons p a ih=>
  intro b s
  show(Z1t s p).bind (Z3e (a++b))=((Z1t s p).bind (Z3e a)).bind (Z3e b)
  cases Z1t s p with
  |none=>rfl
  |some s'=>exact ih b s'
theorem Zgm {l:List (Str×Th)}{s e:OS}(h:Z3e l s=some e)(i:Nat):∃u,Z3e (l.take i) s=some u:=by
 rw[<- take_append_drop i l,Z3t] at h
 cases z:Z3e (l.take i) s with
 |none=>rw[z] at h;cases h
 |some u=>exact⟨u,rfl⟩
theorem Zgn {l:List (Str×Th)}{s u:OS}{i:Nat}{p:Str×Th}(h:l[i]? = some p)(e:Z3e (l.take i) s=some u):Z3e (l.take (i+1)) s=Z1t u p:=by
 rw[take_add_one,h,Z3t,e]
 show(Z1t u p).bind (Z3e [])=_
 cases Z1t u p <;> rfl
def frO (n:Th)(B:List Str):List Str:=if wd n="set"∨(wd n="name"/\nm n∉B) then [nm n] else []
mutual
def frT:Th->List Str->List Str
 | .tup xs,B=>frO (.tup xs) B++frI (Z2g xs) (nm (.tup xs)) 0 xs B
 | .at _,_=>[]
 | .lst _,_=>[]
def frI (l:Bool)(x:Str):Nat->List Th->List Str->List Str
 |_,[],_=>[]
 |i,y::ys,B=>if isTup y=true then frT y (B++if l=true/\i=1 then [x] else [])++frI l x (i+1) ys B else frI l x i ys B
end
def frK (l:Bool)(x:Str):Nat->List Th->List Str->List Str
 |_,[],_=>[]
 |i,y::ys,B=>frT y (B++if l=true/\i=1 then [x] else [])++frK l x (i+1) ys B
theorem Z8j (l:Bool)(x:Str)(B:List Str):∀(xs:List Th) (i:Nat),frI l x i xs B=frK l x i (Z11 xs) B:=by
 intro xs
 induction xs with
 |nil=>intro i;simp [frI,frK,Z11]
 |cons y xs ih=>
  intro i
  rw[frI]
  unfold Z11
  rw[filter_cons]
  split
  ·rw[frK,ih];rfl
  ·rw[ih];rfl
def Zjk (q:Th×Int):Bool:=decide (wd q.1="set"∨(wd q.1="name"/\q.2<0))
structure RelB (m:Mp)(B:List Str)(L:Int):Prop where
 iff:∀x,m x ≠ []↔x∈B
 lt:∀x,∀z∈m x,z<L
theorem RelB.push {m:Mp}{B:List Str}{L:Int}(h:RelB m B L)(x:Str):RelB (push m x L) (B ++ [x]) (L+1):=by
 constructor
 ·intro y
  unfold K10.push
  rw[mem_append,mem_singleton,<- h.iff y]
  split
  ·next e=>simp [e]
  ·next e=>simp [e]
 ·intro y z hz
  unfold K10.push at hz
  split at hz
  ·rcases mem_append.mp hz with q|q
   ·have:=h.lt x z q;omega
   ·rw[mem_singleton] at q;omega
  ·have:=h.lt y z hz;omega
theorem Ziy {m:Mp}{B:List Str}{L:Int}(h:RelB m B L)(n:Th):Zjk (n,Z53 n m L)=decide (wd n="set"∨(wd n="name"/\nm n∉B)):=by
 unfold Zjk
 have e:(wd n="name"/\Z53 n m L<0)↔(wd n="name"/\nm n∉B):=by
  refine and_congr_right fun hw=>?_
  rw[<- h.iff]
  unfold Z53
  by_cases hm:m (nm n) = []
  ·simp [hm]
  ·rw[if_pos ⟨hw,hm⟩]
   have hl:=h.lt (nm n) ((m (nm n)).getLast hm) (List.getLast_mem hm)
   have e2:(m (nm n)).getLastD 0=(m (nm n)).getLast hm:=by
    rw[getLastD_eq_getLast?,List.getLast?_eq_some_getLast hm];rfl
   rw[e2]
   constructor
   ·intro z;omega
   ·intro z;exact absurd hm z
 simp only [e]
theorem Zel:("opened":Str)≠"node":=by decide+kernel
theorem Zem:("closed":Str)≠"node":=by decide+kernel
theorem Zhp:("closed":Str)≠"opened":=by decide+kernel
theorem Ziz:∀(n:Nat) (t:Th),OkN n t->∀(m:Mp) (B:List Str) (L:Int),RelB m B L->∃rs,(∀r,Z3e (Z0u t) ⟨L,m,r⟩=some ⟨L,m,r++rs⟩)/\(rs.filter Zjk).map (fun q=>nm q.1)=frT t B/\rs.map (·.1)=(Z2c (Z0u t)).map (·.2):=by
 intro n
 induction n with
 |zero=>intro t h;exact h.elim
 |succ n ih=>
  intro t h m B L hR
  obtain⟨w,ts,rfl,h1,h2,h3,h4⟩:=h
  have hk:∀k∈Z11 (Th.at (.str w)::ts),OkN n k:=fun k hk=>by
   unfold Z11 at hk
   rw[mem_filter] at hk
   rcases mem_cons.mp hk.1 with z|z
   ·subst z;cases hk.2
   ·exact h4 k z hk.2
  have hn:∀r,Z1t ⟨L,m,r⟩ ("node",.tup (.at (.str w)::ts))=some ⟨L,m,r ++ [(.tup (.at (.str w)::ts),Z53 (.tup (.at (.str w)::ts)) m L)]⟩:=fun r=>by
   unfold Z1t
   exact if_pos rfl
  have hfo:(([(Th.tup (.at (.str w)::ts),Z53 (.tup (.at (.str w)::ts)) m L)]:List (Th×Int)).filter Zjk).map (fun q=>nm q.1)=frO (.tup (.at (.str w)::ts)) B:=by
   rw[filter_cons,Ziy hR]
   unfold frO
   split
   ·next q=>rw[if_pos (of_decide_eq_true q)];rfl
   ·next q=>rw[if_neg (fun z=>q (decide_eq_true z))];rfl
  rw[Z0u,frT,Z38,Z8j]
  rw[show Z2g (Th.at (.str w)::ts)=decide (w="let") from rfl]
  by_cases hw:w="let"
  ·rw[decide_eq_true hw]
   obtain⟨x,tr,rfl⟩:=h2 (Or.inl hw)
   have hnm:nm (Th.tup (.at (.str w) :: .at (.str x)::tr))=x:=rfl
   have hl2:(Z11 (Th.at (.str w) :: .at (.str x)::tr)).length=2:=h1 hw
   match hks:Z11 (Th.at (.str w) :: .at (.str x)::tr),hl2,hk with
   |[a,b],_,hk=>
    obtain⟨ra,ea,fa,ga⟩:=ih a (hk a (by simp)) m B L hR
    obtain⟨rb,eb,fb,gb⟩:=ih b (hk b (by simp)) (push m x L) (B ++ [x]) (L+1) (hR.push x)
    refine⟨(.tup (.at (.str w) :: .at (.str x)::tr),Z53 (.tup (.at (.str w) :: .at (.str x)::tr)) m L)::(ra++rb),fun r=>?_,?_,?_⟩
    rotate_left 1
    ·rw[show((Th.tup (.at (.str w) :: .at (.str x)::tr),Z53 (.tup (.at (.str w) :: .at (.str x)::tr)) m L)::(ra++rb)) = [(Th.tup (.at (.str w) :: .at (.str x)::tr),Z53 (.tup (.at (.str w) :: .at (.str x)::tr)) m L)]++(ra++rb) from rfl]
     rw[filter_append,map_append,hfo,filter_append,map_append,fa,fb,hnm]
     simp [frK]
    ·show _::(ra++rb).map (·.1)=_
     simp only [Z2h,Z37]
     unfold Z2c at ga gb ⊢
     rw[map_append,ga,gb]
     simp [Zel,Zem]
    ·show(Z1t _ _).bind (Z3e _)=_
     rw[hn]
     show Z3e _ _=_
     rw[Z2h,Z2h,Z2h,Z3t,ea]
     show Z3e _ _=_
     simp only [Z37,if_true]
     show(Z1t _ _).bind (Z3e _)=_
     have e1:∀r,Z1t ⟨L,m,r⟩ ("opened",.tup (.at (.str w) :: .at (.str x)::tr))=some ⟨L+1,push m x L,r⟩:=fun r=>by
      unfold Z1t
      rw[if_neg Zel,if_pos rfl]
      rfl
     rw[e1]
     show Z3e (Z0u b++_) _=_
     rw[Z3t,eb]
     show(Z1t _ _).bind (Z3e _)=_
     have e2:∀r,Z1t ⟨L+1,push m x L,r⟩ ("closed",.tup (.at (.str w) :: .at (.str x)::tr))=some ⟨L,m,r⟩:=fun r=>by
      unfold Z1t
      rw[if_neg Zem,if_neg Zhp,hnm]
      have:push m x L x ≠ []:=by unfold push;simp
      rw[if_neg this,Zbe]
      simp
     rw[e2]
     show some _=some _
     simp
  ·rw[decide_eq_false hw,Z3o]
   have main:∀(ks:List Th) (i:Nat) (x:Str),(∀k∈ks,OkN n k)->∃rs,(∀r,Z3e (ks.map Z0u).flatten ⟨L,m,r⟩=some ⟨L,m,r++rs⟩)/\(rs.filter Zjk).map (fun q=>nm q.1)=frK false x i ks B/\rs.map (·.1)=(Z2c (ks.map Z0u).flatten).map (·.2):=by
    intro ks
    induction ks with
    |nil=>intro i x _;exact⟨[],fun r=>by simp [Z3e],rfl,rfl⟩
    |cons k ks ihk=>
     intro i x hks
     obtain⟨ra,ea,fa,ga⟩:=ih k (hks k (mem_cons_self ..)) m B L hR
     obtain⟨rb,eb,fb,gb⟩:=ihk (i+1) x (fun y hy=>hks y (mem_cons_of_mem _ hy))
     refine⟨ra++rb,fun r=>?_,?_,?_⟩
     ·rw[map_cons,flatten_cons,Z3t,ea]
      show Z3e _ _=_
      rw[eb,append_assoc]
     ·rw[filter_append,map_append,fa,fb,frK]
      simp
     ·unfold Z2c at ga gb ⊢
      rw[map_append,ga,gb,map_cons,flatten_cons,filter_append,map_append]
   obtain⟨rs,e1,e2,e3⟩:=main _ 0 (nm (.tup (.at (.str w)::ts))) hk
   refine⟨(.tup (.at (.str w)::ts),Z53 (.tup (.at (.str w)::ts)) m L)::rs,fun r=>?_,?_,?_⟩
   rotate_left 1
   ·rw[show((Th.tup (.at (.str w)::ts),Z53 (.tup (.at (.str w)::ts)) m L)::rs) = [(Th.tup (.at (.str w)::ts),Z53 (.tup (.at (.str w)::ts)) m L)]++rs from rfl]
    rw[filter_append,map_append,hfo,e2]
   ·rw[map_cons,e3]
    unfold Z2c
    simp
   ·show(Z1t _ _).bind (Z3e _)=_
    rw[hn]
    show Z3e _ _=_
    rw[e1]
    simp
structure LetD (H:Hp)(kvs:List (Key×V))(m:Mp):Prop where
 no:∀x,Z27 kvs (.inr x)=none->m x = []
 at1:∀x v,Z27 kvs (.inr x)=some v->∃a,v = .ref a/\H a=some (.lst ((m x).map V.int))
inductive spOwnNo_ (vs:List V)(H:Hp)(Q:VK):Prop
 |mk (v:V) (ld:Addr) (L:Int) (N:Nat) (n:Th) (kvs:List (Key×V)) (m:Mp) (_:vs = [v,.ref ld,.int L]) (_:IsTh H v n) (_:OkN N n) (_:H ld=some (.dK kvs)) (_:LetD H kvs m) (_:Q (.int (Z53 n m L)) H):spOwnNo_ vs H Q
def spOwnNo:Sp:=fun vs H Q _=>spOwnNo_ vs H Q
section
variable {P:Program}{w:World}{K:PySem.W.Frag}{mg:Str->Option Value}{base:Heap}
theorem Zj0:FnScope ["node","lets","level"] ["node","lets","level"] (Z06 Z39):=⟨rfl,rfl,rfl,by decide+kernel,rfl,by decide+kernel,by decide+kernel⟩
theorem Zgo {f:Addr}{fd:FuncData}(F:Fun K "own_number" "own_number" Z39 f fd):FnOk P w K mg base CX0 1 f fd ["node","lets","level"] spOwnNo:=by
 refine F.ok Zj0 (fun vs H Q E h=>?_) (fun cdv A outer s H vs Q E hr h=>?_)
 ·obtain⟨v,ld,L,N,n,kvs,m,rfl,_⟩:=h
  rfl
 ·obtain⟨v,ld,L,N,n,kvs,m,rfl,ht,hok,hld,hd,k⟩:=h
  have hu1:(_:Around).units+1<cLine:=Nat.lt_of_le_of_lt (Nat.add_le_add_left (by decide) _) hr.units
  refine'⟨?tt,?body,?fin⟩
  case body=>
   refine' Z04 ?s1 (Z07 ?s2)
   case s1=>
    refine' Z0x ?c (Z07 ?e1) Z0f
    case c=>exact(Z5w (Z0b Zbq (Z0q Z0v (pv 0) Z03 (fun _ _=>rfl)) Z09 (Z0k _)) (Z5g (Z8p (Zal (Zfn hu1 (pv 1) (Z0q Z0v (pv 0) Z03 (fun _ _=>rfl)) ⟨rfl,rfl,rfl,rfl⟩) (fun _=>rfl))))).pt
    case e1=>exact Z0h (Zfg Zak Z03)
   case s2=>exact Z0h (Z0i Z1l (Z0i Z1l (pv 2) Z03) (Z0q Z0w (Z0t hu1 (pv 1) (Z0q Z0v (pv 0) Z03 (fun _ _=>rfl)) (fun _ _=>rfl)) (Zfg Zak Z03) (fun _ _=>rfl)))
  case fin=>
   cases N with
   |zero=>exact hok.elim
   |succ N=>
    obtain⟨w0,ts,rfl,_,h2,_,_⟩:=hok
    obtain⟨a,vs,rfl,ha,hvs⟩:=Z1b ht
    cases hvs with
    | @cons v1 vr _ _ c1 c2=>
     obtain⟨rfl,_⟩:=Z1w c1
     have hwd:wd (Th.tup (.at (.str w0)::ts))=w0:=rfl
     refine⟨_,rfl,a,_,_,_,rfl,rfl,SqT.of ha,Z16 _ _,rfl,_,rfl,Z1a (fun g=>?_) (fun g=>?_)⟩
     ·have hne:w0≠"name":=fun z=>by
       subst z
       exact absurd g (by decide+kernel)
      have e:Z53 (Th.tup (.at (.str w0)::ts)) m L = -1:=by
       unfold Z53
       rw[if_neg]
       exact fun z=>hne z.1
      rw[e] at k
      exact Zaq ⟨_,rfl,k⟩
     ·have he:w0="name":=by
       by_cases z:w0="name"
       ·exact z
       ·exfalso
        refine g ?_
        have:¬V.str w0=V.str "name":=fun q=>z (by injection q)
        simp [this]
      obtain⟨x,tr,rfl⟩:=h2 (Or.inr (Or.inl he))
      have hnm:nm (Th.tup (.at (.str w0) :: .at (.str x)::tr))=x:=rfl
      cases c2 with
      | @cons v2 vr2 _ _ c3 c4=>
       obtain⟨rfl,_⟩:=Z1w c3
       have hix:rIxT K (.ref a) (.int 1) H=rIxT K (.ref a) (.int 1) H:=rfl
       cases hv:Z27 kvs (.inr x) with
       |none=>
        refine⟨_,rfl,ld,rfl,.inl ⟨kvs,.inl hld⟩,_,rfl,a,_,_,_,rfl,rfl,SqT.of ha,Z15 _ _ _,none,?_,false,rfl,?_⟩
        ·rw[<- hv];exact DGet.k (k:=.inr x) hld
        ·have e:Z53 (Th.tup (.at (.str w0) :: .at (.str x)::tr)) m L = -1:=by
          unfold Z53
          rw[if_neg]
          rw[hnm]
          exact fun z=>z.2 (hd.no x hv)
         rw[e] at k
         exact Zaq ⟨_,rfl,k⟩
       |some u=>
        obtain⟨b,rfl,hb⟩:=hd.at1 x u hv
        refine⟨_,rfl,ld,rfl,.inl ⟨kvs,.inl hld⟩,_,rfl,a,_,_,_,rfl,rfl,SqT.of ha,Z15 _ _ _,some (.ref b),?_,!((m x).map V.int).isEmpty,.inl ⟨_,SqL.of hb,rfl⟩,?_⟩
        ·rw[<- hv];exact DGet.k (k:=.inr x) hld
        ·cases hm:(m x) with
         |nil=>
          have e:Z53 (Th.tup (.at (.str w0) :: .at (.str x)::tr)) m L = -1:=by
           unfold Z53
           rw[if_neg]
           rw[hnm]
           exact fun z=>z.2 hm
          rw[e] at k
          exact Zaq ⟨_,rfl,k⟩
         |cons z0 zr=>
          have hne:m x ≠ []:=by rw[hm];intro q;cases q
          refine Za0 ?_
          have hl:m x=(m x).dropLast ++ [(m x).getLast hne]:=(dropLast_concat_getLast hne).symm
          have hb2:H b=some (.lst ((m x).dropLast.map V.int ++ [V.int ((m x).getLast hne)])):=by
           rw[hb]
           conv=>lhs;rw[hl]
           rw[map_append]
           rfl
          have e:Z53 (Th.tup (.at (.str w0) :: .at (.str x)::tr)) m L=L-1-(m x).getLast hne:=by
           unfold Z53
           rw[hnm,if_pos ⟨he,hne⟩,getLastD_eq_getLast?,List.getLast?_eq_some_getLast hne]
           rfl
          rw[e] at k
          refine⟨_,rfl,_,_,rfl,rfl,_,rfl,_,rfl,a,_,_,_,rfl,rfl,SqT.of ha,Z15 _ _ _,ld,.ref b,rfl,?_,_,rfl,b,_,_,_,rfl,rfl,SqL.of hb2,Zfk _ _,_,_,rfl,rfl,k⟩
          rw[<- hv]
          exact DGet.k (k:=.inr x) hld
end
def Zmj (N:Nat)(p:Str×Th):Prop:=OkN N p.2/\(p.1="node"∨p.1="opened"∨p.1="closed")/\(p.1≠"node"->wd p.2="let")
theorem Zgp {l:Bool}{N:Nat}{me:Th}(hm:OkN N me)(hl:l=true->wd me="let")(i:Nat):∀p∈Z37 l me i,Zmj N p:=by
 intro p hp
 match i with
 | 0=>
  cases l with
  |false=>simp [Z37] at hp
  |true=>simp [Z37] at hp;subst hp;exact⟨hm,.inr (.inl rfl),fun _=>hl rfl⟩
 | 1=>
  cases l with
  |false=>simp [Z37] at hp
  |true=>simp [Z37] at hp;subst hp;exact⟨hm,.inr (.inr rfl),fun _=>hl rfl⟩
 |_+2=>simp [Z37] at hp
theorem Z6v:∀(N:Nat) (t:Th),OkN N t->∀p∈Z0u t,Zmj N p:=by
 intro N
 induction N with
 |zero=>intro t h;exact h.elim
 |succ N ih=>
  intro t h p hp
  have hme:=h
  obtain⟨w,ts,rfl,h1,h2,h3,h4⟩:=h
  have hk:∀k∈Z11 (Th.at (.str w)::ts),OkN N k:=fun k hk=>by
   unfold Z11 at hk
   rw[mem_filter] at hk
   rcases mem_cons.mp hk.1 with z|z
   ·subst z;cases hk.2
   ·exact h4 k z hk.2
  rw[Z0u,Z38] at hp
  rcases mem_cons.mp hp with z|z
  ·subst z;exact⟨hme,.inl rfl,fun q=>absurd rfl q⟩
  ·have hl:Z2g (Th.at (.str w)::ts)=true->wd (Th.tup (.at (.str w)::ts))="let":=fun q=>of_decide_eq_true q
   generalize Z2g (Th.at (.str w)::ts)=l at z hl
   have main:∀(ks:List Th) (i:Nat),(∀k∈ks,OkN N k)->p∈Z2h l (.tup (.at (.str w)::ts)) i ks->Zmj (N+1) p:=by
    intro ks
    induction ks with
    |nil=>intro i _ q;cases q
    |cons k ks ihk=>
     intro i hks q
     rw[Z2h] at q
     rcases mem_append.mp q with q|q
     ·obtain⟨a,b,c⟩:=ih k (hks k (mem_cons_self ..)) p q
      exact⟨a.up,b,c⟩
     ·rcases mem_append.mp q with q|q
      ·exact Zgp hme hl i p q
      ·exact ihk (i+1) (fun y hy=>hks y (mem_cons_of_mem _ hy)) q
   exact main _ 0 hk z
structure Lt (H0:Hp)(ra wk:Addr)(H:Hp)(kvs:List (Key×V))(m:Mp):Prop where
 d:LetD H kvs m
 fr:∀x a,Z27 kvs (.inr x)=some (.ref a)->H0 a=none/\a≠ra/\a≠wk
 inj:∀x y a,Z27 kvs (.inr x)=some (.ref a)->Z27 kvs (.inr y)=some (.ref a)->x=y
section
variable {H0 H H':Hp}{ra wk:Addr}{kvs:List (Key×V)}{m:Mp}
theorem Lt.mono (h:Lt H0 ra wk H kvs m)(s:∀a xs,a≠ra->H a=some (.lst xs)->H' a=some (.lst xs)):Lt H0 ra wk H' kvs m:=
 ⟨⟨h.d.no,fun x v e=>by
  obtain⟨a,rfl,ha⟩:=h.d.at1 x v e
  exact⟨a,rfl,s _ _ (h.fr x a e).2.1 ha⟩⟩,h.fr,h.inj⟩
theorem Lt.set (h:Lt H0 ra wk H kvs m){x:Str}{a:Addr}(e:Z27 kvs (.inr x)=some (.ref a))(zs:List Int):Lt H0 ra wk (upd H a (.lst (zs.map V.int))) kvs (fun y=>if y=x then zs else m y):=by
 refine⟨⟨fun y q=>?_,fun y v q=>?_⟩,h.fr,h.inj⟩
 ·have:y≠x:=fun z=>by rw[z,e] at q;cases q
  simp only [if_neg this]
  exact h.d.no y q
 ·obtain⟨b,rfl,hb⟩:=h.d.at1 y v q
  refine⟨b,rfl,?_⟩
  by_cases z:y=x
  ·subst z
   rw[e] at q
   cases q
   simp only [if_true]
   exact Z00
  ·have hne:b≠a:=fun w=>z (h.inj y x a (by rw[q,w]) e)
   simp only [if_neg z]
   rw[Z0a hne]
   exact hb
theorem Lt.new (h:Lt H0 ra wk H kvs m){x:Str}{q:Addr}{L:Int}(e:Z27 kvs (.inr x)=none)(hq:H q=none)(hq0:H0 q=none)(n1:q≠ra)(n2:q≠wk)
  (hh:H' q=some (.lst [.int L])) (s:∀a xs,a≠q->H a=some (.lst xs)->H' a=some (.lst xs)):Lt H0 ra wk H' (Z2t kvs (.inr x) (.ref q)) (push m x L):=by
 have old:∀y a,y≠x->Z27 (Z2t kvs (.inr x) (.ref q)) (.inr y)=some (.ref a)->Z27 kvs (.inr y)=some (.ref a):=fun y a hy z=>by
  rw[Z28,if_neg (fun w=>hy (by injection w))] at z
  exact z
 have hne:∀y a,Z27 kvs (.inr y)=some (.ref a)->a≠q:=fun y a z w=>by
  obtain⟨b,e1,e2⟩:=h.d.at1 y _ z
  cases e1
  rw[w,hq] at e2
  cases e2
 refine⟨⟨fun y z=>?_,fun y v z=>?_⟩,fun y a z=>?_,fun y y' a z z'=>?_⟩
 ·rw[Z28] at z
  split at z
  ·cases z
  ·next w=>
   have:y≠x:=fun u=>w (by rw[u])
   unfold push
   rw[if_neg this]
   exact h.d.no y z
 ·rw[Z28] at z
  split at z
  ·next w=>
   cases z
   have:y=x:=by injection w
   subst this
   refine⟨q,rfl,?_⟩
   unfold push
   rw[if_pos rfl,h.d.no y e]
   exact hh
  ·next w=>
   have hy:y≠x:=fun u=>w (by rw[u])
   obtain⟨b,rfl,hb⟩:=h.d.at1 y v z
   refine⟨b,rfl,?_⟩
   unfold push
   rw[if_neg hy]
   exact s _ _ (hne y b z) hb
 ·by_cases hy:y=x
  ·subst hy
   rw[Z28,if_pos rfl] at z
   cases z
   exact⟨hq0,n1,n2⟩
  ·exact h.fr y a (old y a hy z)
 ·by_cases hy:y=x
  ·by_cases hy':y'=x
   ·rw[hy,hy']
   ·exfalso
    have:=old y' a hy' z'
    rw[hy,Z28,if_pos rfl] at z
    cases z
    exact hne y' q this rfl
  ·by_cases hy':y'=x
   ·exfalso
    have:=old y a hy z
    rw[hy',Z28,if_pos rfl] at z'
    cases z'
    exact hne y q this rfl
   ·exact h.inj y y' a (old y a hy z) (old y' a hy' z')
end
def prO (q:Th×Int):Th:=.tup [q.1,.at (.int q.2)]
abbrev os0:OS:=⟨0,fun _=>[],[]⟩
def OwR (t:Th)(rs:List (Th×Int)):Prop:=Z3e (Z0u t) os0=some ⟨0,fun _=>[],rs⟩
theorem Zj1 {N:Nat}{t:Th}(h:OkN N t):∃rs,OwR t rs/\(rs.filter Zjk).map (fun q=>nm q.1)=frT t []/\rs.map (·.1)=(Z2c (Z0u t)).map (·.2):=by
 obtain⟨rs,e,f,g⟩:=Ziz N t h (fun _=>[]) [] 0 ⟨fun x=>by simp,fun x z hz=>by cases hz⟩
 exact⟨rs,by have:=e [];rw[nil_append] at this;exact this,f,g⟩
inductive spOwned_ (N:Nat)(vs:List V)(H:Hp)(Q:VK):Prop
 |mk (v:V) (t:Th) (_:vs = [v]) (_:IsTh H v t) (_:OkN N t) (_:Th.sz t<=100000) (_:∀(p:Addr) (ws:List V) (rs:List (Th×Int)) H',Same H H'->H p=none->H' p=some (.lst ws)->IsThs H' ws (rs.map prO)->OwR t rs->Q (.ref p) H'):spOwned_ N vs H Q
def Zen (N:Nat):Sp:=fun vs H Q _=>spOwned_ N vs H Q
structure Stt (H0:Hp)(ra wk ld:Addr)(ws:List V)(t:Th)(i:Nat)(u:OS)(H:Hp)(rws:List V)(kvs:List (Key×V)):Prop where
 same:Same H0 H
 rows:H ra=some (.lst rws)
 len:rws.length<=i
 rth:IsThs (TO H) rws (u.r.map prO)
 walk:H wk=some (.lst ws)
 wth:IsThs (TO H) ws (prs (Z0u t))
 dict:H ld=some (.dK kvs)
 few:kvs.length<=i
 lt:Lt H0 ra wk H kvs u.m
 lens:∀x,(u.m x).length<=i
theorem Zkz {H:Hp}{N:Nat}:∀(l:List (Str×Th)) {ws:List V},(∀p∈l,OkN N p.2)->IsThs H ws (prs l)->IsThs (TO H) ws (prs l):=by
 intro l
 induction l with
 |nil=>intro ws _ h;cases h;exact .nil
 |cons p l ih=>
  intro ws hp h
  cases h with
  |cons c1 c2=>
   refine .cons ?_ (ih (fun y hy=>hp y (mem_cons_of_mem _ hy)) c2)
   obtain⟨a,vs,rfl,ha,hvs⟩:=Z1b c1
   refine .tup (Z9q ha) ?_
   cases hvs with
   |cons d1 d2=>
    cases d2 with
    |cons d3 d4=>
     cases d4
     obtain⟨rfl,f⟩:=Z1w d1
     exact .cons (.at f) (.cons (Zmi N (hp p (mem_cons_self ..)) d3) .nil)
theorem Zeo (i:Int):smallV (.int i)=true:=rfl
section
variable {P:Program}{w:World}{K:PySem.W.Frag}{mg:Str->Option Value}{base:Heap}
structure HOw (K:PySem.W.Frag)(mg:Str->Option Value)(fP fS fO:Addr)(dP dS dO:FuncData):Prop where
 T:TxtT mg
 TD:TxtD mg
 KI:Kits K
 P:Fun K "parts" "parts" Z6d fP dP
 bP:Binds K dP ["e"] []
 mP:mg "parts"=some (.ref fP)
 S:Fun K "steps" "steps" Z7l fS dS
 bS:Binds K dS ["tree"] []
 mS:mg "steps"=some (.ref fS)
 O:Fun K "own_number" "own_number" Z39 fO dO
 bO:Binds K dO ["node","lets","level"] []
 mO:mg "own_number"=some (.ref fO)
theorem scOwned:FnScope ["e","rows","lets","level","deed","node"] ["e"] (Z06 Z9f):=⟨rfl,rfl,rfl,by decide+kernel,rfl,by decide+kernel,by decide+kernel⟩
theorem Zgq {f fP fS fO:Addr}{fd dP dS dO:FuncData}(F:Fun K "owned" "owned" Z9f f fd)(U:HOw K mg fP fS fO dP dS dO)(N:Nat):FnOk P w K mg base CX0 3 f fd ["e"] (Zen N):=by
 have GS:FnOk P w K mg base CX0 2 fS dS ["tree"] (Zej N):=Zgl U.S U.T U.TD U.KI U.P U.bP U.mP N
 have GO:FnOk P w K mg base CX0 1 fO dO ["node","lets","level"] spOwnNo:=Zgo U.O
 obtain⟨tn,hNode⟩:=U.TD.node
 obtain⟨to,hOpen⟩:=U.TD.opened
 refine F.ok scOwned (fun vs H Q E h=>?_) (fun cdv A outer s H vs Q E hr h=>?_)
 ·obtain⟨v,t,rfl,_⟩:=h
  rfl
 ·obtain⟨v,t,rfl,ht,hok,hz,k⟩:=h
  have hsz:sizeLine=16777216:=sizeLine_eq
  have hr1:Room 1 _:=hr.mono (by decide)
  have hr2:Room 2 _:=hr.mono (by decide)
  have hu1:(_:Around).units+1<cLine:=Nat.lt_of_le_of_lt (Nat.add_le_add_left (by decide) _) hr.units
  refine'⟨?tt,?body,?fin⟩
  case body=>
   refine' Z04 ?s1 ?r1
   case s1=>exact Z0c (i:=1) scOwned.nd rfl (Or.inl rfl) (Z0y Z01)
   case r1=>
    refine' Z04 ?s2 ?r2
    case s2=>exact Z0c (i:=2) scOwned.nd rfl (Or.inl rfl) Z4k
    case r2=>
     refine' Z04 ?s3 ?r3
     case s3=>exact Z0c (i:=3) scOwned.nd rfl (Or.inl rfl) Z03
     case r3=>
      refine' Z04 ?s4 (Z07 ?s5)
      case s4=>
       refine' Z43 PassesOwn.never rfl (Z1v (Z05 GS hr2 (by rfl) U.mS U.S.kp U.bS .nil Z0e (Z0d (pv 0) Z01))) (Z5x rfl (Z1j (Z0s (i:=4) scOwned.nd rfl (Or.inl rfl)) (Z1j (Z0s (i:=5) scOwned.nd rfl (Or.inl rfl)) Z49))) (Z07 ?b)
       case b=>
        refine' Z0x ?c (Z07 ?e1) (Z07 ?e2)
        case c=>exact Z0b Z1d (pv 4) (Z48 (v:=.str "node") (by rfl) hNode ⟨tn,rfl⟩) (Z0k _)
        case e1=>
         refine' Z3k ?m
         case m=>
          refine' Z92 PySem.F.plainAttrs_list PySem.F.slot_list_append PySem.F.type_list_append Z34 (pv 1) ?a
          case a=>
           refine' Zji (Z12 ?z) Z01
           case z=>exact Z0d (pv 5) (Z2x (Z05 GO hr1 (by rfl) U.mO U.O.kp U.bO .nil Z0e (Z0d (pv 5) (Z0d (pv 2) (Z0d (pv 3) Z01)))) Z01)
        case e2=>
         refine' Z0x ?c2 (Z04 ?e3 (Z07 ?e4)) (Z04 ?e5 (Z07 ?e6))
         case c2=>exact Z0b Z1d (pv 4) (Z48 (v:=.str "opened") (by rfl) hOpen ⟨to,rfl⟩) (Z0k _)
         case e3=>
          refine' Z3k ?m3
          case m3=>
           refine' Z92 PySem.F.plainAttrs_list PySem.F.slot_list_append PySem.F.type_list_append Z34 ?o3 ?a3
           case o3=>exact Zg0 (pv 2) (Z0q Z0v (pv 5) Z03 (fun _ _=>rfl)) (Z0y Z01) ⟨rfl,rfl,rfl,rfl⟩
           case a3=>exact Z0d (pv 3) Z01
         case e4=>exact Zh8 (i:=3) scOwned.nd rfl (Or.inl rfl) Z03 Zjv
         case e5=>
          refine' Z3k ?m5
          case m5=>
           refine' Zhd PySem.F.plainAttrs_list PySem.F.slot_list_pop PySem.F.type_list_pop Zhe ?o5
           case o5=>exact Z0t hu1 (pv 2) (Z0q Z0v (pv 5) Z03 (fun _ _=>rfl)) (fun _ _=>rfl)
         case e6=>exact Zh8 (i:=3) scOwned.nd rfl (Or.inl rfl) Z03 Zjw
      case s5=>exact Z0h (pv 1)
  case fin=>
   refine⟨Nat.zero_le _,fun ra hra=>?_⟩
   intro ld hld
   have z1:=Z02 (o:=.lst []) hra
   have z2:=Z02 (o:=.dK []) hld
   have za:=z1.trans z2
   refine⟨_,rfl,v,t,rfl,IsTh.kp (Kp.of za) ht,hok.ok,hz,fun wk ws H1 s1 hwk L1 hws=>?_⟩
   have sH1:=za.trans s1
   have hld0:H ld=none:=Z1u z1 hld
   have hwk0:H wk=none:=Z1u za hwk
   have hrl:ra≠ld:=fun z=>by rw[<- z,Z00] at hld;cases hld
   have R1:H1 ra=some (.lst []):=s1 _ _ (z2 _ _ Z00)
   have D1:H1 ld=some (.dK []):=s1 _ _ Z00
   have hwr:wk≠ra:=fun z=>by rw[z,z2 _ _ Z00] at hwk;cases hwk
   have hwl:=IsThs.len _ hws
   rw[length_map] at hwl
   have hls:=Z3s t
   obtain⟨rs,hrs,_,_⟩:=Zj1 hok
   have hws1:IsThs (TO H1) ws (prs (Z0u t)):=Zkz _ (fun p hp=>(Z6v N t hok p hp).1) hws
   refine⟨wk,rfl,⟨_,SqL.of L1⟩,Zaj (K:=K) (a:=wk) (xs:=ws) (fun i σ H'=>∃(u:OS) (rws:List V) (kvs:List (Key×V)) (o4 o5:Option V),σ = [some v,some (.ref ra),some (.ref ld),some (.int u.L),o4,o5]/\Z3e ((Z0u t).take i) os0=some u/\Stt H ra wk ld ws t i u H' rws kvs)
    ⟨os0,[],[],none,none,rfl,rfl,⟨sH1,R1,Nat.le_refl _,.nil,L1,hws1,D1,Nat.le_refl _,⟨⟨fun x _=>rfl,fun x v e=>(by cases e)⟩,fun x a e=>(by cases e),fun x y a e=>(by cases e)⟩,fun x=>Nat.zero_le _⟩⟩ (fun i σ H' _ ⟨_,_,_,_,_,_,_,S⟩=>SqL.of S.walk) ?_ ?_⟩
   ·rintro i x σ H2 hx ⟨u,rws,kvs,o4,o5,rfl,hrun,S⟩
    obtain⟨tx,htx,hx2⟩:=Z1f _ S.wth hx
    rw[List.getElem?_map] at htx
    obtain⟨p,hp,rfl⟩:∃p,(Z0u t)[i]? = some p/\pr p=tx:=by
     cases e:(Z0u t)[i]? with
     |none=>rw[e] at htx;cases htx
     |some p=>rw[e] at htx;exact⟨p,rfl,by simpa using htx⟩
    have hil:i<(Z0u t).length:=(List.getElem?_eq_some_iff.mp hp).1
    have hi:i<300000:=by omega
    have hl1:=S.len
    have hf1:=S.few
    obtain⟨hown,hdeed,hlet⟩:=Z6v N t hok p (mem_of_getElem? hp)
    obtain⟨d,n⟩:=p
    have hnext:=Zgn hp hrun
    obtain⟨u',hu'⟩:=Zgm hrs (i+1)
    rw[hu'] at hnext
    obtain⟨a,vs2,rfl,ha,hvs2⟩:=Z1b hx2
    cases hvs2 with
    | @cons v1 vr _ _ c1 c2=>
     cases c2 with
     | @cons v2 vr2 _ _ c3 c4=>
      cases c4
      obtain⟨rfl,_⟩:=Z1w c1
      refine⟨a,[.str d,v2],rfl,SqT.of (Z6t _ _ ha),rfl,_,_,rfl,_,_,rfl,rfl,?_⟩
      refine⟨_,rfl,rfl,_,rfl,Z1a (fun g=>?_) (fun g=>?_)⟩
      ·have hd:d="node":=by
        have g':=of_decide_eq_true g
        injection g'
       have es:Z1t u (d,n)=some ⟨u.L,u.m,u.r ++ [(n,Z53 n u.m u.L)]⟩:=by
        unfold Z1t
        exact if_pos hd
       rw[es] at hnext
       cases hnext
       refine⟨_,rfl,.inl ⟨rfl,_,SqL.of S.rows⟩,_,rfl,?_⟩
       refine⟨_,rfl,_,rfl,_,rfl,v2,ld,u.L,N,n,kvs,u.m,rfl,IsTh.kp (Kp.of Z6t) c3,hown,S.dict,S.lt.d,?_⟩
       refine⟨(by show 2<=sizeLine;decide),fun q hq=>?_⟩
       have s3:=Z02 (o:=.tup [v2,.int (Z53 n u.m u.L)]) hq
       have hqr:ra≠q:=Z0g S.rows hq
       refine⟨ra,rws,_,rfl,rfl,s3 _ _ S.rows,(by omega),⟨u.L,u.m,u.r ++ [(n,Z53 n u.m u.L)]⟩,rws ++ [.ref q],kvs,_,_,rfl,hu',?_⟩
       have R3:=s3 _ _ S.rows
       have t3:Same (TO H2) (TO (upd (upd H2 q (.tup [v2,.int (Z53 n u.m u.L)])) ra (.lst (rws ++ [.ref q])))):=(Z6u s3).trans (Z7s R3)
       refine⟨fun c o e=>?_,Z00,by rw[length_append];simp;omega,?_,?_,IsThs.kp (Kp.of t3) S.wth,?_,by omega,?_,fun x=>Nat.le_succ_of_le (S.lens x)⟩
       ·rw[Z0a (Z0g e hra)]
        exact s3 _ _ (S.same _ _ e)
       ·show IsThs _ _ ((u.r ++ [(n,Z53 n u.m u.L)]).map prO)
        rw[map_append]
        refine IsThs.app _ (IsThs.kp (Kp.of t3) S.rth) (.cons (.tup (Z9q ?_) (.cons (IsTh.kp (Kp.of t3) c3) (.cons (.at (Zeo _)) .nil))) .nil)
        rw[Z0a hqr.symm]
        exact Z00
       ·rw[Z0a hwr]
        exact s3 _ _ S.walk
       ·rw[Z0a hrl.symm]
        exact s3 _ _ S.dict
       ·refine S.lt.mono fun b xs hb e=>?_
        rw[Z0a hb]
        exact s3 _ _ e
      ·have hd:d≠"node":=fun z=>g (by rw[z];decide+kernel)
       have hlt:=hlet hd
       obtain⟨N',rfl⟩:∃N',N=N'+1:=by
        cases N with
        |zero=>exact hown.elim
        |succ N'=>exact⟨N',rfl⟩
       obtain⟨w0,ts,rfl,_,h2,_,_⟩:=hown
       obtain⟨x,tr,rfl⟩:=h2 (Or.inl hlt)
       have hnm:nm (Th.tup (.at (.str w0) :: .at (.str x)::tr))=x:=rfl
       obtain⟨an,vns,rfl,han,hvns⟩:=Z1b c3
       cases hvns with
       | @cons vh vr' _ _ d1 d2=>
        obtain⟨rfl,_⟩:=Z1w d1
        cases d2 with
        | @cons vh2 vr2 _ _ d3 d4=>
         obtain⟨rfl,_⟩:=Z1w d3
         have han2:=Z6t _ _ han
         refine⟨_,rfl,rfl,_,rfl,Z1a (fun g2=>?_) (fun g2=>?_)⟩
         ·have hd2:d="opened":=by
           have g':=of_decide_eq_true g2
           injection g'
          have es:Z1t u (d,Th.tup (.at (.str w0) :: .at (.str x)::tr))=some ⟨u.L+1,push u.m x u.L,u.r⟩:=by
           unfold Z1t
           rw[if_neg hd,if_pos hd2]
           rfl
          rw[es] at hnext
          cases hnext
          have hpl:∀y,(push u.m x u.L y).length<=i+1:=fun y=>by
           unfold push
           split
           ·rw[length_append]
            have:=S.lens x
            simp
            omega
           ·exact Nat.le_succ_of_le (S.lens y)
          refine⟨_,rfl,ld,rfl,.inl ⟨kvs,.inl S.dict⟩,_,rfl,an,_,_,_,rfl,rfl,SqT.of han2,Z15 _ _ _,Nat.zero_le _,fun q hq=>?_⟩
          have s3:=Z02 (o:=.lst []) hq
          refine⟨kvs,.inr x,s3 _ _ S.dict,rfl,(by omega),fun v' hv=>?_,fun hv=>?_⟩
          ·obtain⟨b,rfl,hb⟩:=S.lt.d.at1 x v' hv
           have hb3:=s3 _ _ hb
           have hf:=S.lt.fr x b hv
           have hlen:=S.lens x
           refine⟨.inl ⟨rfl,_,SqL.of hb3⟩,_,rfl,b,_,_,rfl,rfl,hb3,(by rw[length_map];omega),?_⟩
           refine⟨_,rfl,_,_,rfl,rfl,⟨u.L+1,push u.m x u.L,u.r⟩,rws,kvs,_,_,rfl,hu',?_⟩
           have t3:Same (TO H2) (TO (upd (upd H2 q (.lst [])) b (.lst ((u.m x).map V.int ++ [.int u.L])))):=(Z6u s3).trans (Z7s hb3)
           refine⟨fun c o e=>?_,?_,Nat.le_succ_of_le hl1,IsThs.kp (Kp.of t3) S.rth,?_,IsThs.kp (Kp.of t3) S.wth,?_,Nat.le_succ_of_le hf1,?_,hpl⟩
           ·rw[Z0a (Z0g e hf.1)]
            exact s3 _ _ (S.same _ _ e)
           ·rw[Z0a hf.2.1.symm]
            exact s3 _ _ S.rows
           ·rw[Z0a hf.2.2.symm]
            exact s3 _ _ S.walk
           ·rw[Z0a (Z3i (s3 _ _ S.dict) hb3 (by intro q;cases q))]
            exact s3 _ _ S.dict
           ·have l3:Lt H ra wk (upd H2 q (.lst [])) kvs u.m:=S.lt.mono fun c xs _ e=>s3 _ _ e
            have:=l3.set hv (u.m x ++ [u.L])
            rw[map_append] at this
            exact this
          ·have hq0:H q=none:=Z1u S.same hq
           have hqr:q≠ra:=(Z0g S.rows hq).symm
           have hqw:q≠wk:=(Z0g S.walk hq).symm
           have hqd:q≠ld:=(Z0g S.dict hq).symm
           have q3:upd (upd H2 q (.lst [])) ld (.dK (Z2t kvs (.inr x) (.ref q))) q=some (.lst []):=by
            rw[Z0a hqd]
            exact Z00
           refine⟨.inl ⟨rfl,_,SqL.of q3⟩,_,rfl,q,_,_,rfl,rfl,q3,(by show 0<sizeLine;omega),?_⟩
           refine⟨_,rfl,_,_,rfl,rfl,⟨u.L+1,push u.m x u.L,u.r⟩,rws,Z2t kvs (.inr x) (.ref q),_,_,rfl,hu',?_⟩
           have hpk:=Z1n kvs (Sum.inr x:Key) (.ref q)
           have t3:=((Z6u s3).trans (Zmh (o:=.dK (Z2t kvs (.inr x) (.ref q))) (s3 _ _ S.dict))).trans (Z7s (o:=.lst ([] ++ [.int u.L])) q3)
           refine⟨fun c o e=>?_,?_,Nat.le_succ_of_le hl1,IsThs.kp (Kp.of t3) S.rth,?_,IsThs.kp (Kp.of t3) S.wth,?_,by omega,?_,hpl⟩
           ·rw[Z0a (Z0g e hq0),Z0a (Z0g e hld0)]
            exact s3 _ _ (S.same _ _ e)
           ·rw[Z0a hqr.symm,Z0a hrl]
            exact s3 _ _ S.rows
           ·rw[Z0a hqw.symm,Z0a (Z3i S.walk S.dict (by intro q;cases q))]
            exact s3 _ _ S.walk
           ·rw[Z0a hqd.symm]
            exact Z00
           ·refine S.lt.new hv hq hq0 hqr hqw Z00 fun c xs hc e=>?_
            rw[Z0a hc,Z0a (Z3i e S.dict (by intro q;cases q))]
            exact s3 _ _ e
         ·have hd2:d≠"opened":=fun z=>g2 (by rw[z];decide+kernel)
          have es:Z1t u (d,Th.tup (.at (.str w0) :: .at (.str x)::tr))=if u.m x = [] then none else some ⟨u.L-1,Zix u.m x,u.r⟩:=by
           unfold Z1t
           rw[if_neg hd,if_neg hd2]
           rfl
          rw[es] at hnext
          by_cases hm:u.m x = []
          ·rw[if_pos hm] at hnext
           cases hnext
          rw[if_neg hm] at hnext
          cases hnext
          cases hv:Z27 kvs (.inr x) with
          |none=>exact absurd (S.lt.d.no x hv) hm
          |some v'=>
           obtain⟨b,rfl,hb⟩:=S.lt.d.at1 x v' hv
           have hf:=S.lt.fr x b hv
           have hml:u.m x=(u.m x).dropLast ++ [(u.m x).getLast hm]:=(dropLast_concat_getLast hm).symm
           refine⟨_,rfl,_,rfl,an,_,_,_,rfl,rfl,SqT.of han2,Z15 _ _ _,ld,.ref b,rfl,?_,.inl ⟨rfl,_,SqL.of hb⟩,b,_,.int ((u.m x).getLast hm),rfl,rfl,hb,?_,?_⟩
           ·rw[<- hv];exact DGet.k (k:=.inr x) S.dict
           ·conv=>lhs;rw[hml]
            rw[map_append]
            simp
           refine⟨_,rfl,_,_,rfl,rfl,⟨u.L-1,Zix u.m x,u.r⟩,rws,kvs,_,_,rfl,hu',?_⟩
           have t3:Same (TO H2) (TO (upd H2 b (.lst ((u.m x).map V.int).dropLast))):=Z7s hb
           refine⟨fun c o e=>?_,?_,Nat.le_succ_of_le hl1,IsThs.kp (Kp.of t3) S.rth,?_,IsThs.kp (Kp.of t3) S.wth,?_,Nat.le_succ_of_le hf1,?_,fun y=>?_⟩
           ·rw[Z0a (Z0g e hf.1)]
            exact S.same _ _ e
           ·rw[Z0a hf.2.1.symm]
            exact S.rows
           ·rw[Z0a hf.2.2.symm]
            exact S.walk
           ·rw[Z0a (Z3i S.dict hb (by intro q;cases q))]
            exact S.dict
           ·have:=S.lt.set hv (u.m x).dropLast
            rw[<- List.map_dropLast]
            exact this
           ·show(Zix u.m x y).length<=i+1
            unfold Zix
            split
            ·rw[List.length_dropLast]
             have:=S.lens x
             omega
            ·exact Nat.le_succ_of_le (S.lens y)
   ·rintro σ H2 ⟨u,rws,kvs,o4,o5,rfl,hrun,S⟩
    rw[hwl,List.take_length,hrs] at hrun
    cases hrun
    exact⟨_,rfl,k ra rws rs H2 S.same hra S.rows (IsThs.kp (Kp.of Z6t) S.rth) hrs⟩
end
def Zlk:List Str->Str->Nat
 |[],_=>0
 |y::R,x=>if y=x then R.length else Zlk R x
def lix (B:List Str)(x:Str):Nat:=Zlk B.reverse x
theorem Z4z (B:List Str)(y x:Str):lix (B ++ [y]) x=if y=x then B.length else lix B x:=by
 unfold lix
 rw[List.reverse_append]
 show Zlk (y::B.reverse) x=_
 rw[Zlk,length_reverse]
theorem Zcf {p:List Str->Prop}(h0:p [])(h1:∀B y,p B->p (B ++ [y])):∀B,p B:=by
 intro B
 rw[<- List.reverse_reverse B]
 generalize B.reverse=R
 induction R with
 |nil=>exact h0
 |cons y R ih=>rw[reverse_cons];exact h1 _ _ ih
theorem Zl0:∀(B:List Str) {x:Str},x∈B->lix B x<B.length/\B[lix B x]? = some x/\∀j,lix B x<j->B[j]? ≠ some x:=by
 refine Zcf ?_ ?_
 ·intro x h;cases h
 ·intro B y ih x h
  rw[Z4z]
  by_cases e:y=x
  ·rw[if_pos e]
   refine⟨by rw[length_append,length_singleton];omega,by rw[List.getElem?_append_right (Nat.le_refl _),Nat.sub_self,e];rfl,fun j hj q=>?_⟩
   rw[List.getElem?_eq_none (by rw[length_append,length_singleton];omega)] at q
   cases q
  ·rw[if_neg e]
   have hx:x∈B:=by
    rcases mem_append.mp h with q|q
    ·exact q
    ·rw[mem_singleton] at q;exact absurd q.symm e
   obtain⟨h1,h2,h3⟩:=ih hx
   refine⟨by rw[length_append];omega,by rw[List.getElem?_append_left h1];exact h2,fun j hj q=>?_⟩
   by_cases hjl:j<B.length
   ·rw[List.getElem?_append_left hjl] at q
    exact h3 j hj q
   ·rw[List.getElem?_append_right (by omega)] at q
    cases hz:j-B.length with
    |zero=>rw[hz] at q;exact e (Option.some.inj q)
    |succ m=>rw[hz] at q;simp at q
def Z46 (n:Th)(B:List Str):Int:=if wd n="name"/\nm n∈B then (B.length:Int)-1-(lix B (nm n):Int) else -1
structure RelC (m:Mp)(B:List Str)(L:Int):Prop where
 iff:∀x,m x ≠ []↔x∈B
 lv:L=(B.length:Int)
 last:∀x∈B,(m x).getLastD 0=(lix B x:Int)
theorem RelC.push {m:Mp}{B:List Str}{L:Int}(h:RelC m B L)(x:Str):RelC (push m x L) (B ++ [x]) (L+1):=by
 refine⟨fun y=>?_,by rw[h.lv,length_append];simp,fun y hy=>?_⟩
 ·unfold K10.push
  rw[mem_append,mem_singleton,<- h.iff y]
  split
  ·next e=>simp [e]
  ·next e=>simp [e]
 ·unfold K10.push
  rw[Z4z]
  by_cases e:y=x
  ·rw[if_pos e,if_pos e.symm,getLastD_eq_getLast?,List.getLast?_concat,<- h.lv]
   rfl
  ·rw[if_neg e,if_neg (fun q=>e q.symm)]
   rcases mem_append.mp hy with q|q
   ·exact h.last y q
   ·rw[mem_singleton] at q;exact absurd q e
theorem Zl1 {m:Mp}{B:List Str}{L:Int}(h:RelC m B L)(n:Th):Z53 n m L=Z46 n B:=by
 unfold Z53 Z46
 by_cases c:wd n="name"/\nm n∈B
 ·rw[if_pos ⟨c.1,(h.iff _).mpr c.2⟩,if_pos c,h.last _ c.2,h.lv]
 ·rw[if_neg (fun q=>c ⟨q.1,(h.iff _).mp q.2⟩),if_neg c]
mutual
def Z2m:Th->List Str->List (Th×Int)
 | .tup xs,B=>(.tup xs,Z46 (.tup xs) B)::Zcg (Z2g xs) (nm (.tup xs)) 0 xs B
 | .at _,_=>[]
 | .lst _,_=>[]
def Zcg (l:Bool)(x:Str):Nat->List Th->List Str->List (Th×Int)
 |_,[],_=>[]
 |i,y::ys,B=>if isTup y=true then Z2m y (B++if l=true/\i=1 then [x] else [])++Zcg l x (i+1) ys B else Zcg l x i ys B
end
def Z9r (l:Bool)(x:Str):Nat->List Th->List Str->List (Th×Int)
 |_,[],_=>[]
 |i,y::ys,B=>Z2m y (B++if l=true/\i=1 then [x] else [])++Z9r l x (i+1) ys B
theorem Z6w (l:Bool)(x:Str)(B:List Str):∀(xs:List Th) (i:Nat),Zcg l x i xs B=Z9r l x i (Z11 xs) B:=by
 intro xs
 induction xs with
 |nil=>intro i;simp [Zcg,Z9r,Z11]
 |cons y xs ih=>
  intro i
  rw[Zcg]
  unfold Z11
  rw[filter_cons]
  split
  ·rw[Z9r,ih];rfl
  ·rw[ih];rfl
theorem Z6x (x:Str)(B:List Str):∀(ks:List Th) (i:Nat),Z9r false x i ks B=(ks.map fun k=>Z2m k B).flatten:=by
 intro ks
 induction ks with
 |nil=>intro i;rfl
 |cons k ks ih=>intro i;rw[Z9r,ih];simp
theorem Zgr:∀(n:Nat) (t:Th),OkN n t->∀(m:Mp) (B:List Str) (L:Int),RelC m B L->∀r,Z3e (Z0u t) ⟨L,m,r⟩=some ⟨L,m,r++Z2m t B⟩:=by
 intro n
 induction n with
 |zero=>intro t h;exact h.elim
 |succ n ih=>
  intro t h m B L hR
  obtain⟨w,ts,rfl,h1,h2,h3,h4⟩:=h
  have hk:∀k∈Z11 (Th.at (.str w)::ts),OkN n k:=fun k hk=>by
   unfold Z11 at hk
   rw[mem_filter] at hk
   rcases mem_cons.mp hk.1 with z|z
   ·subst z;cases hk.2
   ·exact h4 k z hk.2
  have hn:∀r,Z1t ⟨L,m,r⟩ ("node",.tup (.at (.str w)::ts))=some ⟨L,m,r ++ [(.tup (.at (.str w)::ts),Z46 (.tup (.at (.str w)::ts)) B)]⟩:=fun r=>by
   unfold Z1t
   rw[<- Zl1 hR]
   exact if_pos rfl
  rw[Z0u,Z2m,Z38,Z6w]
  rw[show Z2g (Th.at (.str w)::ts)=decide (w="let") from rfl]
  by_cases hw:w="let"
  ·rw[decide_eq_true hw]
   obtain⟨x,tr,rfl⟩:=h2 (Or.inl hw)
   have hnm:nm (Th.tup (.at (.str w) :: .at (.str x)::tr))=x:=rfl
   have hl2:(Z11 (Th.at (.str w) :: .at (.str x)::tr)).length=2:=h1 hw
   match hks:Z11 (Th.at (.str w) :: .at (.str x)::tr),hl2,hk with
   |[a,b],_,hk=>
    have ea:=ih a (hk a (by simp)) m B L hR
    have eb:=ih b (hk b (by simp)) (push m x L) (B ++ [x]) (L+1) (hR.push x)
    intro r
    show(Z1t _ _).bind (Z3e _)=_
    rw[hn]
    show Z3e _ _=_
    rw[Z2h,Z2h,Z2h,Z3t,ea]
    show Z3e _ _=_
    simp only [Z37,if_true]
    show(Z1t _ _).bind (Z3e _)=_
    have e1:∀r,Z1t ⟨L,m,r⟩ ("opened",.tup (.at (.str w) :: .at (.str x)::tr))=some ⟨L+1,push m x L,r⟩:=fun r=>by
     unfold Z1t
     rw[if_neg Zel,if_pos rfl]
     rfl
    rw[e1]
    show Z3e (Z0u b++_) _=_
    rw[Z3t,eb]
    show(Z1t _ _).bind (Z3e _)=_
    have e2:∀r,Z1t ⟨L+1,push m x L,r⟩ ("closed",.tup (.at (.str w) :: .at (.str x)::tr))=some ⟨L,m,r⟩:=fun r=>by
     unfold Z1t
     rw[if_neg Zem,if_neg Zhp,hnm]
     have:push m x L x ≠ []:=by unfold push;simp
     rw[if_neg this,Zbe]
     simp
    rw[e2]
    show some _=some _
    simp [Z9r,hnm]
  ·rw[decide_eq_false hw,Z3o,Z6x]
   have main:∀(ks:List Th),(∀k∈ks,OkN n k)->∀r,Z3e (ks.map Z0u).flatten ⟨L,m,r⟩=some ⟨L,m,r++(ks.map fun k=>Z2m k B).flatten⟩:=by
    intro ks
    induction ks with
    |nil=>intro _ r;simp [Z3e]
    |cons k ks ihk=>
     intro hks r
     rw[map_cons,flatten_cons,Z3t,ih k (hks k (mem_cons_self ..)) m B L hR]
     show Z3e _ _=_
     rw[ihk fun y hy=>hks y (mem_cons_of_mem _ hy)]
     simp
   intro r
   show(Z1t _ _).bind (Z3e _)=_
   rw[hn]
   show Z3e _ _=_
   rw[main _ hk]
   simp
theorem Zac {N:Nat}{t:Th}{rs:List (Th×Int)}(h:OkN N t)(o:OwR t rs):rs=Z2m t []:=by
 have e:=Zgr N t h (fun _=>[]) [] 0 ⟨fun x=>by simp,rfl,fun x hx=>by cases hx⟩ []
 have:=o.symm.trans e
 injection this with this
 injection this
def Zbf:Th->List Th
 | .tup xs=>Z9k xs
 |_=>[]
def Zl2:Th->Nat
 | .tup xs=>(Z11 xs).length
 |_=>0
def shH (n:Th)(o:Int):List Th:=
 if wd n="let" then [.at (.str "let")]
 else if 0<=o then [.at (.str "own"),.at (.int o)]
 else Zbf n
mutual
def shT:Th->List Str->Th
 | .tup xs,B=>.tup (shH (.tup xs) (Z46 (.tup xs) B)++shI (Z2g xs) (nm (.tup xs)) 0 xs B)
 | .at v,_=>.at v
 | .lst xs,_=>.lst xs
def shI (l:Bool)(x:Str):Nat->List Th->List Str->List Th
 |_,[],_=>[]
 |i,y::ys,B=>if isTup y=true then shT y (B++if l=true/\i=1 then [x] else [])::shI l x (i+1) ys B else shI l x i ys B
end
def shK (l:Bool)(x:Str):Nat->List Th->List Str->List Th
 |_,[],_=>[]
 |i,y::ys,B=>shT y (B++if l=true/\i=1 then [x] else [])::shK l x (i+1) ys B
theorem Zep (l:Bool)(x:Str)(B:List Str):∀(xs:List Th) (i:Nat),shI l x i xs B=shK l x i (Z11 xs) B:=by
 intro xs
 induction xs with
 |nil=>intro i;simp [shI,shK,Z11]
 |cons y xs ih=>
  intro i
  rw[shI]
  unfold Z11
  rw[filter_cons]
  split
  ·rw[shK,ih];rfl
  ·rw[ih];rfl
theorem Zeq (x:Str)(B:List Str):∀(ks:List Th) (i:Nat),shK false x i ks B=ks.map fun k=>shT k B:=by
 intro ks
 induction ks with
 |nil=>intro i;rfl
 |cons k ks ih=>intro i;rw[shK,ih];simp
theorem Zer (x:Str)(B:List Str):∀(ks:List Th) (i:Nat),frK false x i ks B=(ks.map fun k=>frT k B).flatten:=by
 intro ks
 induction ks with
 |nil=>intro i;rfl
 |cons k ks ih=>intro i;rw[frK,ih];simp
theorem Z3f (w:Str)(hd:List V)(ks:List Th):Z2g (.at (.str w)::(hd.map Th.at++ks))=decide (w="let"):=rfl
section
variable {w:Str}{hd:List V}{ks:List Th}{B:List Str}
theorem Z5d:wd (nd w hd ks)=w:=rfl
theorem Zch {x:Str}:nm (nd w [.str x] ks)=x:=rfl
theorem Z6y (nk:∀k∈ks,L2.isTup k=true):Zl2 (nd w hd ks)=ks.length:=by
 show(Z11 (.at (.str w)::(hd.map Th.at++ks))).length=_
 rw[Z3d nk]
theorem Zad (nk:∀k∈ks,L2.isTup k=true)(hw:w≠"let"):Z2m (nd w hd ks) B=(nd w hd ks,Z46 (nd w hd ks) B)::(ks.map fun k=>Z2m k B).flatten:=by
 unfold nd
 rw[Z2m,Z6w,Z3f,decide_eq_false hw,Z6x,Z3d nk]
theorem Z8k {x:Str}{a b:Th}(ha:L2.isTup a=true)(hb:L2.isTup b=true):Z2m (nd "let" [.str x] [a,b]) B=(nd "let" [.str x] [a,b],-1)::(Z2m a B++Z2m b (B ++ [x])):=by
 have e:Z46 (nd "let" [.str x] [a,b]) B = -1:=by
  unfold Z46
  rw[Z5d,if_neg (fun q=>absurd q.1 (by decide+kernel))]
 have h:=e
 unfold nd at h ⊢
 rw[Z2m,Z6w,Z3f,h,Z3d (Z30 ha hb)]
 have hn:nm (.tup (.at (.str "let")::(([.str x]:List V).map Th.at ++ [a,b])))=x:=rfl
 rw[hn]
 simp [Z9r]
theorem Zes (nk:∀k∈ks,L2.isTup k=true)(hw:w≠"let"):shT (nd w hd ks) B = .tup (shH (nd w hd ks) (Z46 (nd w hd ks) B)++ks.map fun k=>shT k B):=by
 unfold nd
 rw[shT,Zep,Z3f,decide_eq_false hw,Zeq,Z3d nk]
theorem Z7t {x:Str}{a b:Th}(ha:L2.isTup a=true)(hb:L2.isTup b=true):shT (nd "let" [.str x] [a,b]) B = .tup [.at (.str "let"),shT a B,shT b (B ++ [x])]:=by
 have e:shH (nd "let" [.str x] [a,b]) (Z46 (nd "let" [.str x] [a,b]) B) = [.at (.str "let")]:=by
  unfold shH
  rw[Z5d,if_pos rfl]
 have h:=e
 unfold nd at h ⊢
 rw[shT,Zep,Z3f,h,Z3d (Z30 ha hb)]
 have hn:nm (.tup (.at (.str "let")::(([.str x]:List V).map Th.at ++ [a,b])))=x:=rfl
 rw[hn]
 simp [shK]
theorem Zgs (nk:∀k∈ks,L2.isTup k=true)(hw:w≠"let"):frT (nd w hd ks) B=frO (nd w hd ks) B++(ks.map fun k=>frT k B).flatten:=by
 unfold nd
 rw[frT,Z8j,Z3f,decide_eq_false hw,Zer,Z3d nk]
theorem Zbg {x:Str}{a b:Th}(ha:L2.isTup a=true)(hb:L2.isTup b=true):frT (nd "let" [.str x] [a,b]) B=frT a B++frT b (B ++ [x]):=by
 have e:frO (nd "let" [.str x] [a,b]) B = []:=by
  unfold frO
  rw[Z5d,if_neg]
  rintro(q|q)
  ·exact absurd q (by decide+kernel)
  ·exact absurd q.1 (by decide+kernel)
 have h:=e
 unfold nd at h ⊢
 rw[frT,Z8j,Z3f,h,Z3d (Z30 ha hb)]
 have hn:nm (.tup (.at (.str "let")::(([.str x]:List V).map Th.at ++ [a,b])))=x:=rfl
 rw[hn]
 simp [frK]
end
theorem PfT.cases {S:SS}{n:Nat}{t:Th}(h:PfT S (n+1) t):(∃x a b,t=nd "let" [.str x] [a,b]/\NmU S x/\PfT S n a/\PfT S n b) ∨
  ∃w hd ks,t=nd w hd ks/\w≠"let"/\Sh S w hd ks.length/\hd.length<=1/\ks.length<=6/\∀k∈ks,PfT S n k:=by
 obtain⟨w,hd,ks,rfl,h1,h2,h3,h4,h5,h6⟩:=h
 by_cases hw:w="let"
 ·left
  have sh:=h4.sh
  obtain⟨⟨x,rfl⟩,hl⟩:=h3 hw
  match ks,hl,h6 with
  |[a,b],_,h6=>
   subst hw
   refine⟨x,a,b,rfl,?_,h6 a (by simp),h6 b (by simp)⟩
   generalize [a,b].length=m at sh
   cases sh with
   |lt h=>exact h
 ·exact .inr ⟨w,hd,ks,rfl,hw,h4.sh,h1,h5,h6⟩
theorem Zhq {S:SS}:∀(n:Nat) {t:Th},PfT S n t->OkN n t:=by
 intro n
 induction n with
 |zero=>intro t h;exact h.elim
 |succ n ih=>
  intro t h
  obtain⟨w,hd,ks,rfl,h1,h2,h3,h4,h5,h6⟩:=h
  have nk:∀k∈ks,L2.isTup k=true:=fun k hk=>(h6 k hk).isTup
  refine⟨w,hd.map Th.at++ks,rfl,fun e=>?_,fun e=>?_,fun x hx=>?_,fun x hx ht=>?_⟩
  ·rw[Z2y nk];exact(h3 e).2
  ·have:∃x:Str,hd = [.str x]:=by
    rcases e with q|q|q
    ·exact(h3 q).1
    ·exact h4.st (.inr q)
    ·exact h4.st (.inl q)
   obtain⟨x,rfl⟩:=this
   exact⟨x,ks,rfl⟩
  ·rcases mem_append.mp hx with z|z
   ·obtain⟨v,_,rfl⟩:=mem_map.mp z
    exact .inr ⟨v,rfl⟩
   ·exact .inl (nk x z)
  ·rcases mem_append.mp hx with z|z
   ·obtain⟨v,_,rfl⟩:=mem_map.mp z
    cases ht
   ·exact ih (h6 x z)
def rowTh (q:Th×Int):Th:=.tup [.tup (shH q.1 q.2),.at (.int (Zl2 q.1:Nat))]
def bst:Th->List Th->Option (List Th)
 | .tup [.tup ls,.at (.int m)],D=>if m.toNat<=D.length then some (D.take (D.length-m.toNat) ++ [.tup (ls++(D.drop (D.length-m.toNat)).reverse)]) else none
 |_,_=>none
def Zci (R:List Th)(x:Option (List Th)):Option (List Th):=R.foldr (fun row acc=>acc.bind (bst row)) x
theorem Z8l (A B:List Th)(x:Option (List Th)):Zci (A++B) x=Zci A (Zci B x):=by
 unfold Zci;rw[List.foldr_append]
theorem Z50 (a:Th)(B:List Th)(x:Option (List Th)):Zci (a::B) x=(Zci B x).bind (bst a):=rfl
theorem Zet:∀{A:List Th} {x:Option (List Th)} {D:List Th},Zci A x=some D->∃D',x=some D':=by
 intro A
 induction A with
 |nil=>intro x D h;exact⟨D,h⟩
 |cons a A ih=>
  intro x D h
  rw[Z50] at h
  obtain⟨D1,h1,_⟩:=Option.bind_eq_some_iff.mp h
  exact ih h1
theorem Zeu (ls D K:List Th)(m:Nat)(hm:K.length=m):bst (.tup [.tup ls,.at (.int (m:Nat))]) (D++K.reverse)=some (D ++ [.tup (ls++K)]):=by
 unfold bst
 dsimp only
 rw[Int.toNat_natCast,length_append,length_reverse,hm,if_pos (by omega),show D.length+m-m=D.length by omega,List.take_left,List.drop_left,List.reverse_reverse]
theorem Z6z {S:SS}:∀(n:Nat) {t:Th},PfT S n t->∀(B:List Str) (D:List Th),Zci ((Z2m t B).map rowTh) (some D)=some (D ++ [shT t B]):=by
 intro n
 induction n with
 |zero=>intro t h;exact h.elim
 |succ n ih=>
  intro t h B D
  rcases h.cases with ⟨x,a,b,rfl,_,ha,hb⟩|⟨w,hd,ks,rfl,hw,sh,h1,h5,h6⟩
  ·rw[Z8k ha.isTup hb.isTup,Z7t ha.isTup hb.isTup,map_cons,Z50,map_append,Z8l,ih hb,ih ha]
   have e:rowTh (nd "let" [.str x] [a,b],-1) = .tup [.tup [.at (.str "let")],.at (.int (2:Nat))]:=by
    unfold rowTh shH
    rw[Z5d,if_pos rfl]
    rw[Z6y (Z30 ha.isTup hb.isTup)]
    rfl
   rw[e]
   have:=Zeu [.at (.str "let")] D [shT a B,shT b (B ++ [x])] 2 rfl
   simpa using this
  ·have nk:∀k∈ks,L2.isTup k=true:=fun k hk=>(h6 k hk).isTup
   rw[Zad nk hw,Zes nk hw,map_cons,Z50]
   have main:∀l:List Th,(∀k∈l,PfT S n k)->Zci (((l.map fun k=>Z2m k B).flatten).map rowTh) (some D)=some (D++(l.map fun k=>shT k B).reverse):=by
    intro l
    induction l with
    |nil=>intro _;simp [Zci]
    |cons k l il=>
     intro hl
     rw[map_cons,flatten_cons,map_append,Z8l,il fun y hy=>hl y (mem_cons_of_mem _ hy),ih (hl k (mem_cons_self ..))]
     simp
   rw[main ks h6]
   have e:Zl2 (nd w hd ks)=ks.length:=Z6y nk
   show bst (rowTh (nd w hd ks,Z46 (nd w hd ks) B)) _=_
   unfold rowTh
   rw[e]
   exact Zeu _ D _ _ (by rw[length_map])
end K10
namespace L2
open PySem PySem.Spec PyProof.Rows
section
variable {X:Cx}
theorem Zj2 {K:PySem.W.Frag}(hK:X.K=K)(n:Nat)(hu:X.A.units+(n+1)<cLine):OpR X (compareOp .Eq) (rSame false n .lst):=by
 subst hK
 intro pins s σ H x y v u Q I rx ry h
 obtain⟨ts,us,hx,hy,p1,p2,d1,d2,q1,q2⟩:=h
 obtain⟨a,vs,rfl,ha,hvs⟩:=Zhk hx
 obtain⟨b,ws,rfl,hb,hws⟩:=Zhk hy
 cases rx
 cases ry
 obtain⟨its,v1,pl,_⟩:=I.list (SqL.of ha)
 obtain⟨its2,v2,pl2,_⟩:=I.list (SqL.of hb)
 have r:=Z7j (K:=X.K) hvs n p1 d1
 have r':=Z7j (K:=X.K) hws n p2 d2
 obtain⟨e1,e2⟩:=Zi8 (A:=X.A.in1) I r r' v1 v2 (fun hx hy rx ry=>Zdg I n X.A.in1 (by show X.A.units+1+n<cLine;omega) hx hy rx ry)
 by_cases hs:its.length=its2.length
 ·refine SeqAt.RcAt.lists pl.isList pl2.isList (by simp only [size_toArray];exact hs) (by omega) e1 X.prog X.w _ _ ?_
  refine Z0z I (Za5 (n:=n) (neg:=false) p1 p2 q1 q2 rfl) ?_
  show Z2b (Z5k ts) (Z5k us)=_
  rw[<- e2]
  simp [hs]
 ·refine SeqAt.RcAt.lists_lengths pl.isList pl2.isList (by simp only [size_toArray,bne_iff_ne];exact hs) (by omega) X.prog X.w _ _ ?_
  refine Z0z I (Za5 (n:=n) (neg:=false) p1 p2 q1 q2 rfl) ?_
  show Z2b (Z5k ts) (Z5k us)=_
  rw[<- e2]
  simp [hs]
end
end L2
namespace L2
namespace Z2
open PySem PySem.Spec PyProof.Rows PySem.Builtin PySem.AutoSeq1
end Z2
end L2
namespace L2
open PySem PySem.Spec PyProof.Rows
end L2
namespace K10
open PySem L2
inductive spBareHead_ (N:Nat)(vs:List V)(H:Hp)(Q:VK):Prop
 |mk (v:V) (n:Th) (o:Int) (_:vs = [v,.int o]) (_:IsTh H v n) (_:OkN N n) (_:Th.sz n<=100000) (_:∀(p:Addr) H',Same H H'->IsTh H' (.ref p) (.tup (shH n o))->Q (.ref p) H'):spBareHead_ N vs H Q
def Z7u (N:Nat):Sp:=fun vs H Q _=>spBareHead_ N vs H Q
section
variable {P:Program}{w:World}{K:PySem.W.Frag}{mg:Str->Option Value}{base:Heap}
theorem Zcj:FnScope ["node","own"] ["node","own"] (Z06 Z3p):=⟨rfl,rfl,rfl,by decide+kernel,rfl,by decide+kernel,by decide+kernel⟩
theorem Zae {f fH:Addr}{fd dH:FuncData}(F:Fun K "bare_head" "bare_head" Z3p f fd)(T:TxtT mg)(KI:Kits K)(FH:Fn K mg "head" Za6 ["node"] fH dH)(N:Nat):FnOk P w K mg base CX0 2 f fd ["node","own"] (Z7u N):=by
 have GH:FnOk P w K mg base CX0 1 fH dH ["node"] spHead:=Ziv FH.F T KI
 refine F.ok Zcj (fun vs H Q E h=>?_) (fun cdv A outer s H vs Q E hr h=>?_)
 ·obtain⟨v,n,o,rfl,_⟩:=h
  rfl
 ·obtain⟨v,n,o,rfl,hv,hok,hz,k⟩:=h
  have hsz:sizeLine=16777216:=sizeLine_eq
  refine'⟨?tt,?body,?fin⟩
  case body=>
   refine' Z04 ?s1 (Z04 ?s2 (Z07 ?s3))
   case s1=>exact Z0x (Z0b Z1d (Z0q Z0v (pv 0) Z03 (fun _ _=>rfl)) Z09 (Z0k _)) (Z07 (Z0h (Z12 (Z17 Z09 Z01)))) Z0f
   case s2=>exact Z0x (Z0b Zjx (pv 1) Z03 (Z0k _)) (Z07 (Z0h (Z12 (Z17 Z09 (Z0d (pv 1) Z01))))) Z0f
   case s3=>exact Z0h (Z05 GH hr (by rfl) FH.m FH.F.kp FH.b .nil Z0e (Z0d (pv 0) Z01))
  case fin=>
   cases N with
   |zero=>exact hok.elim
   |succ N=>
    obtain⟨w0,ts,rfl,_⟩:=hok
    obtain⟨a,vs,rfl,ha,hvs⟩:=Z1b hv
    have hwd:wd (Th.tup (.at (.str w0)::ts))=w0:=rfl
    unfold shH at k
    rw[hwd] at k
    cases hvs with
    | @cons v1 vr _ _ c1 c2=>
     obtain⟨rfl,_⟩:=Z1w c1
     refine⟨_,rfl,a,_,_,_,rfl,rfl,SqT.of ha,Z16 _ _,rfl,_,rfl,Z1a (fun g=>?_) (fun g=>?_)⟩
     ·have hw:w0="let":=by
       have g':=of_decide_eq_true g
       injection g'
      refine⟨(by show 1<=sizeLine;decide),fun p hp=>k p _ (Z02 hp) ?_⟩
      rw[if_pos hw]
      exact .tup Z00 (.cons (.at (by decide+kernel)) .nil)
     ·have hw:w0≠"let":=fun z=>g (by rw[z];decide+kernel)
      rw[if_neg hw] at k
      refine⟨_,rfl,_,_,rfl,rfl,_,rfl,Z1a (fun g2=>?_) (fun g2=>?_)⟩
      ·have ho:0<=o:=of_decide_eq_true g2
       refine⟨_,rfl,(by show 2<=sizeLine;decide),fun p hp=>k p _ (Z02 hp) ?_⟩
       rw[if_pos ho]
       exact .tup Z00 (.cons (.at (by decide+kernel)) (.cons (.at rfl) .nil))
      ·have ho:¬ 0<=o:=fun z=>g2 (decide_eq_true z)
       rw[if_neg ho] at k
       have hl:=Za2 ts
       have hz2:Th.sz (.tup (.at (.str w0)::ts))=1+(1+szs ts):=by simp only [Th.sz,szs]
       refine⟨_,rfl,H,.ref a,_,rfl,Same.refl _,hv,by rw[length_cons];omega,fun p ws H' s' hp hws=>k p H' s' (.tup hp (IsThs.kp (Kp.of s') hws))⟩
end
mutual
theorem Zbh:∀(t:Th) (N:Nat),OkT N t->Th.sz t<=100000->∀x∈Z0u t,OkT N x.2/\Th.sz x.2<=100000
 | .tup xs,N,h,hz,x,hx=>by
  rw[Z0u] at hx
  rcases mem_cons.mp hx with z|z
  ·subst z;exact⟨h,hz⟩
  ·cases N with
   |zero=>exact h.elim
   |succ N=>
    refine Zbi (Z2g xs) (.tup xs) xs N 0 ?_ h hz ?_ x z
    ·intro y hy hyt
     obtain⟨w,ts,e,_,h2⟩:=h
     cases e
     rcases mem_cons.mp hy with q|q
     ·subst q;cases hyt
     ·exact h2 y q hyt
    ·rw[Th.sz] at hz;omega
 | .at _,N,h,hz,x,hx=>by simp [Z0u] at hx
 | .lst _,N,h,hz,x,hx=>by simp [Z0u] at hx
theorem Zbi (l:Bool)(me:Th):∀(xs:List Th) (N i:Nat),(∀y∈xs,isTup y=true->OkT N y)->OkT (N+1) me->Th.sz me<=100000->szs xs<=100000->∀x∈Z3h l me i xs,OkT (N+1) x.2/\Th.sz x.2<=100000
 |[],N,i,h,hm,hz,hs,x,hx=>by simp [Z3h] at hx
 |y::ys,N,i,h,hm,hz,hs,x,hx=>by
  rw[Z3h] at hx
  rw[szs] at hs
  have hr:=fun j z=>Zbi l me ys N j (fun q hq=>h q (mem_cons_of_mem _ hq)) hm hz (by omega) x z
  split at hx
  ·rcases mem_append.mp hx with z|z
   ·have:=Zbh y N (h y (mem_cons_self ..) ‹_›) (by omega) x z
    exact⟨this.1.up,this.2⟩
   ·rcases mem_append.mp z with z|z
    ·have e:x.2=me:=by
      match i with
      | 0=>cases l <;> simp [Z37] at z;rw[z]
      | 1=>cases l <;> simp [Z37] at z;rw[z]
      |_+2=>simp [Z37] at z
     rw[e];exact⟨hm,hz⟩
    ·exact hr _ z
  ·exact hr _ hx
end
mutual
theorem Zl3 {H:Hp}:∀{v:V} {t:Th},IsTh H v t->plT t=true->IsTh (TO H) v t
 |_,_,.at f,_=>.at f
 |_,_,.tup e r,p=>by
  rw[plT] at p
  exact .tup (Z9q e) (Zaf r p)
 |_,_,.lst e r,p=>by rw[plT] at p;cases p
theorem Zaf {H:Hp}:∀{vs:List V} {ts:List Th},IsThs H vs ts->Z44 ts=true->IsThs (TO H) vs ts
 |_,_,.nil,_=>.nil
 |_,_,.cons e r,p=>by
  rw[Z44,Bool.and_eq_true] at p
  exact .cons (Zl3 e p.1) (Zaf r p.2)
end
def Zmk (r:Th):Prop:=∃(ls:List Th) (m:Nat),r = .tup [.tup ls,.at (.int (m:Nat))]/\m<=6/\ls.length<=1000/\Z44 ls=true
inductive spBuilt_ (vs:List V)(H:Hp)(Q:VK):Prop
 |mk (ra:Addr) (ws:List V) (R:List Th) (u:Th) (_:vs = [.ref ra]) (_:H ra=some (.lst ws)) (_:IsThs H ws R) (_:(∀r∈R,Zmk r)) (_:Zci R (some [])=some [u]) (_:R.length<=100000) (_:∀(v:V) H',Same H H'->IsTh H' v u->Q v H'):spBuilt_ vs H Q
def spBuilt:Sp:=fun vs H Q _=>spBuilt_ vs H Q
theorem Zj3 {r:Th}(h:Zmk r):plT r=true:=by
 obtain⟨ls,m,rfl,_,_,hp⟩:=h
 simp [plT,Z44,hp]
section
variable {P:Program}{w:World}{K:PySem.W.Frag}{mg:Str->Option Value}{base:Heap}
theorem scBuilt:FnScope ["rows","done","lead","many","start","inner"] ["rows"] (Z06 Z9e):=⟨rfl,rfl,rfl,by decide+kernel,rfl,by decide+kernel,by decide+kernel⟩
theorem Zgt {f:Addr}{fd:FuncData}(F:Fun K "built" "built" Z9e f fd)(T:TxtT mg)(hrev:mg "reversed"=none):FnOk P w K mg base CX0 1 f fd ["rows"] spBuilt:=by
 refine F.ok scBuilt (fun vs H Q E h=>?_) (fun cdv A outer s H vs Q E hr h=>?_)
 ·obtain⟨ra,ws,R,u,rfl,_⟩:=h
  rfl
 ·obtain⟨ra,ws,R,u,rfl,hra,hws,hR,run,hRl,k⟩:=h
  have hsz:sizeLine=16777216:=sizeLine_eq
  refine'⟨?tt,?body,?fin⟩
  case body=>
   refine' Z04 ?s1 (Z04 ?s2 (Z07 ?s3))
   case s1=>exact Z0c (i:=1) scBuilt.nd rfl (Or.inl rfl) (Z0y Z01)
   case s2=>
    refine' Z43 PassesOwn.never rfl (Zkj (by rfl) hrev (Z0d (pv 0) Z01)) (Z5x rfl (Z1j (Z0s (i:=2) scBuilt.nd rfl (Or.inl rfl)) (Z1j (Z0s (i:=3) scBuilt.nd rfl (Or.inl rfl)) Z49))) (Z04 ?b1 (Z04 ?b2 (Z04 ?b3 (Z07 ?b4))))
    case b1=>exact Z0c (i:=4) scBuilt.nd rfl (Or.inl rfl) (Z0i Z1l (Z0n Z0o (by rfl) T.len PySem.boot_len (Z0d (pv 1) Z01)) (pv 3))
    case b2=>exact Z0c (i:=5) scBuilt.nd rfl (Or.inl rfl) (Z1e Z80 (pv 1) (Z1m (pv 4)) Z1z)
    case b3=>exact Zce (pv 1) (Z1m (pv 4))
    case b4=>exact Z3k (Z92 PySem.F.plainAttrs_list PySem.F.slot_list_append PySem.F.type_list_append Z34 (pv 1) (Z08 (Z0i Z6b (pv 2) (Z14 Z1q (by rfl) T.tup (by decide+kernel) (Z08 (Zhh (pv 5) (Zfg Zak Z03)) Z01))) Z01))
   case s3=>exact Z0h (Z0q Z0w (pv 1) Z03 (fun _ _=>rfl))
  case fin=>
   refine⟨Nat.zero_le _,fun dn hdn=>?_⟩
   have s0:=Z02 (o:=.lst []) hdn
   have hrd:ra≠dn:=Z0g hra hdn
   have hwl:=IsThs.len _ hws
   have hra1:=s0 _ _ hra
   have hdn1:upd H dn (.lst []) dn=some (.lst []):=Z00
   have hplR:Z44 R=true:=Z2v fun r hr=>Zj3 (hR r hr)
   have hws1:IsThs (TO (upd H dn (.lst []))) ws R:=Zaf (IsThs.kp (Kp.of s0) hws) hplR
   refine⟨_,rfl,ra,ws,rfl,hra1,Zif (K:=K) (a:=ra) (xs:=ws) (fun i σ H'=>∃(D:List Th) (dv:List V) (o3 o4 o5 o6:Option V),σ = [some (.ref ra),some (.ref dn),o3,o4,o5,o6]/\Zci (R.drop (ws.length-i)) (some [])=some D/\D.length<=i/\H' dn=some (.lst dv)/\IsThs (TO H') dv D/\But dn H H'/\IsThs (TO H') ws R)
    ⟨[],[],none,none,none,none,rfl,by rw[Nat.sub_zero,List.drop_of_length_le (Nat.le_of_eq hwl.symm)];rfl,Nat.le_refl _,hdn1,.nil,But.of s0,hws1⟩ (fun i σ H' _ ⟨_,_,_,_,_,_,_,_,_,_,_,b,_⟩=>SqL.of (b _ _ hra hrd)) ?_ ?_⟩
   ·rintro i x σ H2 hi hx ⟨D,dv,o3,o4,o5,o6,rfl,hD,hDl,hdn2,hdv,B2,hws2⟩
    obtain⟨row,hrow,hxr⟩:=Z1f _ hws2 hx
    have hmem:=mem_of_getElem? hrow
    obtain⟨ls,m,rfl,hm6,hls,hlp⟩:=hR row hmem
    obtain⟨a,vs,rfl,ha,hvs⟩:=Z1b hxr
    have hdvl:=IsThs.len _ hdv
    have hdrop:R.drop (ws.length-(i+1)) = .tup [.tup ls,.at (.int (m:Nat))]::R.drop (ws.length-i):=by
     rw[show ws.length-(i+1)=ws.length-1-i by omega,List.drop_eq_getElem?_toList_append,hrow,show ws.length-1-i+1=ws.length-i by omega]
     rfl
    have hsome:∃D',Zci (R.drop (ws.length-(i+1))) (some [])=some D':=by
     have e:=run
     rw[<- take_append_drop (ws.length-(i+1)) R,Z8l] at e
     exact Zet e
    obtain⟨D',hD'⟩:=hsome
    have hst:=hD'
    rw[hdrop,Z50,hD] at hst
    have hst2:(if ((m:Nat):Int).toNat<=D.length then some (D.take (D.length-((m:Nat):Int).toNat) ++ [.tup (ls++(D.drop (D.length-((m:Nat):Int).toNat)).reverse)]) else none)=some D':=hst
    rw[Int.toNat_natCast] at hst2
    by_cases hmD:m<=D.length
    ·rw[if_pos hmD] at hst2
     have hD2:=Option.some.inj hst2
     cases hvs with
     | @cons v1 vr _ _ d1 d2=>
      cases d2 with
      | @cons v2 vr2 _ _ d3 d4=>
       cases d4
       obtain⟨rfl,_⟩:=Z1w d3
       obtain⟨la,lvs,rfl,hla,hlvs⟩:=Z1b d1
       have hll:=IsThs.len _ hlvs
       refine⟨a,_,rfl,SqT.of (Z6t _ _ ha),rfl,_,_,rfl,_,_,rfl,rfl,?_⟩
       refine⟨_,rfl,dn,_,rfl,.inl (SqL.of hdn2),_,rfl,_,_,rfl,rfl,?_⟩
       refine⟨_,rfl,_,rfl,_,rfl,dn,_,rfl,SqL.of hdn2,fun p1 hp1=>?_⟩
       rw[Z2n (by omega) (by omega)]
       have e1:((dv.length:Int)-(m:Int)).toNat=D.length-m:=by omega
       rw[e1]
       have s3:=Z02 (o:=.lst (dv.drop (D.length-m))) hp1
       have hdn3:=s3 _ _ hdn2
       have hp1d:p1≠dn:=fun q=>by rw[q,hdn2] at hp1;cases hp1
       refine⟨_,rfl,_,rfl,_,rfl,dn,dv,_,rfl,rfl,hdn3,by omega,by omega,?_⟩
       rw[e1]
       have P4:upd (upd H2 p1 (.lst (dv.drop (D.length-m)))) dn (.lst (dv.take (D.length-m))) p1=some (.lst (dv.drop (D.length-m))):=by rw[Z0a hp1d];exact Z00
       have N4:upd (upd H2 p1 (.lst (dv.drop (D.length-m)))) dn (.lst (dv.take (D.length-m))) dn=some (.lst (dv.take (D.length-m))):=Z00
       have t4:Same (TO H2) (TO (upd (upd H2 p1 (.lst (dv.drop (D.length-m)))) dn (.lst (dv.take (D.length-m))))):=(Z6u s3).trans (Z7s hdn3)
       have B4:But dn H (upd (upd H2 p1 (.lst (dv.drop (D.length-m)))) dn (.lst (dv.take (D.length-m)))):=fun b o e hb=>by rw[Z0a hb];exact s3 _ _ (B2 b o e hb)
       generalize upd (upd H2 p1 (.lst (dv.drop (D.length-m)))) dn (.lst (dv.take (D.length-m)))=H4 at P4 N4 t4 B4
       refine⟨_,rfl,.inl ⟨rfl,_,SqL.of N4⟩,_,rfl,_,rfl,_,rfl,rfl,p1,_,rfl,SqL.of P4,fun p2 hp2=>?_⟩
       have s5:=Z02 (o:=.lst (dv.drop (D.length-m)).reverse) hp2
       refine⟨p2,_,rfl,.inl ⟨SqL.of Z00,fun p3 hp3=>?_⟩⟩
       have s6:=Z02 (o:=.tup (dv.drop (D.length-m)).reverse) hp3
       have s56:=s5.trans s6
       have hla6:=s56 _ _ (Z6t _ _ (t4 _ _ hla))
       refine⟨la,p3,_,_,rfl,rfl,hla6,Z00,by rw[length_reverse,length_drop];omega,fun p4 H7 s7 hp4=>?_⟩
       have s47:=s56.trans s7
       have N7:=s47 _ _ N4
       have t7:=t4.trans (Z6u s47)
       refine⟨dn,_,_,rfl,rfl,N7,by rw[length_take];omega,?_⟩
       have t8:=t7.trans (Z7s (o:=.lst (dv.take (D.length-m) ++ [.ref p4])) N7)
       have hdv8:=IsThs.kp (Kp.of t8) hdv
       refine⟨D',_,_,_,_,_,rfl,hD',?_,Z00,?_,fun b o e hb=>?_,IsThs.kp (Kp.of t8) hws2⟩
       ·rw[<- hD2,length_append,length_take,length_singleton]
        omega
       ·rw[<- hD2]
        refine IsThs.app _ (Z87 _ hdv8) (.cons (.tup (Z9q ?_) (IsThs.app _ (IsThs.kp (Kp.of t8) hlvs) (Zdm _ (Zb0 _ hdv8)))) .nil)
        rw[Z0a (fun q=>by rw[q,N7] at hp4;cases hp4)]
        exact hp4
       ·rw[Z0a hb]
        exact s47 _ _ (B4 b o e hb)
    ·rw[if_neg hmD] at hst2
     cases hst2
   ·rintro σ H2 ⟨D,dv,o3,o4,o5,o6,rfl,hD,hDl,hdn2,hdv,B2,_⟩
    rw[Nat.sub_self,drop_zero,run] at hD
    have hD2:=Option.some.inj hD
    subst hD2
    cases hdv with
    | @cons v1 vr _ _ d1 d2=>
     refine⟨_,rfl,dn,_,_,v1,rfl,rfl,SqL.of hdn2,Z16 _ _,k v1 H2 (fun b o e=>B2 b o e (Z0g e hdn)) (IsTh.kp (Kp.of Z6t) d1)⟩
end
theorem Zev {S:SS}:∀(n:Nat) {t:Th},PfT S n t->∀(B:List Str),∀q∈Z2m t B,PfT S n q.1:=by
 intro n
 induction n with
 |zero=>intro t h;exact h.elim
 |succ n ih=>
  intro t h B q hq
  have me:=h
  rcases h.cases with ⟨x,a,b,rfl,_,ha,hb⟩|⟨w,hd,ks,rfl,hw,sh,h1,h5,h6⟩
  ·rw[Z8k ha.isTup hb.isTup] at hq
   rcases mem_cons.mp hq with z|z
   ·rw[z];exact me
   ·rcases mem_append.mp z with z|z
    ·exact(ih ha B q z).up
    ·exact(ih hb _ q z).up
  ·rw[Zad (fun k hk=>(h6 k hk).isTup) hw] at hq
   rcases mem_cons.mp hq with z|z
   ·rw[z];exact me
   ·obtain⟨l,hl,hx⟩:=mem_flatten.mp z
    obtain⟨k,hk,rfl⟩:=mem_map.mp hl
    exact(ih (h6 k hk) B q hx).up
theorem Zck {n:Th}{B:List Str}(h1:wd n="name")(h2:nm n∈B):Z46 n B=(B.length:Int)-1-(lix B (nm n):Int)/\0<=Z46 n B:=by
 have e:Z46 n B=(B.length:Int)-1-(lix B (nm n):Int):=by unfold Z46;rw[if_pos ⟨h1,h2⟩]
 have:=(Zl0 B h2).1
 exact⟨e,by rw[e];omega⟩
theorem Zbj {n:Th}{B:List Str}(h:¬ (wd n="name"/\nm n∈B)):Z46 n B = -1:=by unfold Z46;rw[if_neg h]
theorem Z51 {S:SS}{n:Nat}{t:Th}{o:Int}(h:PfT S n t):∃l:List V,shH t o=l.map Th.at/\(∀v∈l,plT (.at v)=true)/\l.length<=2:=by
 cases n with
 |zero=>exact h.elim
 |succ n=>
  obtain⟨w,hd,ks,rfl,h1,h2,h3,h4,h5,h6⟩:=h
  have e:Zbf (nd w hd ks) = .at (.str w)::hd.map Th.at:=Z6n fun k hk=>(h6 k hk).isTup
  unfold shH
  rw[e]
  split
  ·exact⟨[_],rfl,Z1i rfl,by show 1<=2;decide⟩
  ·split
   ·exact⟨[_,_],rfl,Z30 rfl rfl,Nat.le_refl _⟩
   ·refine⟨.str w::hd,rfl,fun v hv=>?_,by rw[length_cons];omega⟩
    rcases mem_cons.mp hv with z|z
    ·rw[z];rfl
    ·exact h2 v z
theorem Zj4:∀l:List V,dps (l.map Th.at)=0:=by
 intro l
 induction l with
 |nil=>rfl
 |cons v l ih=>rw[map_cons,dps,ih];rfl
theorem Zhr {l:List V}(h:∀v∈l,plT (.at v)=true):Z44 (l.map Th.at)=true:=Z2v fun y hy=>by
 obtain⟨v,hv,rfl⟩:=mem_map.mp hy
 exact h v hv
theorem Zml {S:SS}{n:Nat}{q:Th×Int}(h:PfT S n q.1):Zmk (rowTh q):=by
 obtain⟨l,e,h1,h2⟩:=Z51 (o:=q.2) h
 refine⟨shH q.1 q.2,Zl2 q.1,rfl,?_,by rw[e,length_map];omega,by rw[e];exact Zhr h1⟩
 cases n with
 |zero=>exact h.elim
 |succ n=>
  obtain⟨w,hd,ks,e,_,_,_,_,h5,h6⟩:=h
  rw[e,Z6y fun k hk=>(h6 k hk).isTup]
  exact h5
abbrev brT (t:Th):Th:=shT t []
abbrev rws (t:Th):List Th:=(Z2m t []).map rowTh
theorem Zew {S:SS}{n:Nat}{t:Th}(h:PfT S n t):Z44 (rws t)=true/\dps (rws t)<=2:=by
 have key:∀x∈rws t,plT x=true/\dp x<=2:=fun x hx=>by
  obtain⟨q,hq,rfl⟩:=mem_map.mp hx
  obtain⟨l,e,hl,_⟩:=Z51 (o:=q.2) (Zev n h [] q hq)
  unfold rowTh
  rw[e]
  constructor
  ·rw[plT,Z44,plT,Zhr hl]
   rfl
  ·rw[dp,dps,dp,Zj4]
   show 1+max (1+0) (max 0 0)<=2
   decide
 exact⟨Z2v fun x hx=>(key x hx).1,Zkq fun x hx=>(key x hx).2⟩
theorem Zl4 {S:SS}{n:Nat}{t:Th}(h:PfT S (n+1) t)(B:List Str):∃kb:List (Th×List Str),shT t B = .tup (shH t (Z46 t B)++kb.map fun p=>shT p.1 p.2)/\Z2m t B=(t,Z46 t B)::(kb.map fun p=>Z2m p.1 p.2).flatten ∧
  Zl2 t=kb.length/\∀p∈kb,PfT S n p.1:=by
 rcases h.cases with ⟨x,a,b,rfl,_,ha,hb⟩|⟨w,hd,ks,rfl,hw,sh,h1,h5,h6⟩
 ·have e:Z46 (nd "let" [.str x] [a,b]) B = -1:=Zbj fun q=>absurd (show("let":Str)="name" from q.1) (by decide+kernel)
  have e2:shH (nd "let" [.str x] [a,b]) (-1) = [.at (.str "let")]:=by
   unfold shH
   rw[Z5d,if_pos rfl]
  refine⟨[(a,B),(b,B ++ [x])],?_,?_,?_,?_⟩
  ·rw[Z7t ha.isTup hb.isTup,e,e2];rfl
  ·rw[Z8k ha.isTup hb.isTup,e];simp
  ·rw[Z6y (Z30 ha.isTup hb.isTup)];rfl
  ·exact Z30 ha hb
 ·have nk:∀k∈ks,L2.isTup k=true:=fun k hk=>(h6 k hk).isTup
  refine⟨ks.map fun k=>(k,B),?_,?_,?_,?_⟩
  ·rw[Zes nk hw,map_map];rfl
  ·rw[Zad nk hw,map_map];rfl
  ·rw[Z6y nk,length_map]
  ·intro p hp
   obtain⟨k,hk,rfl⟩:=mem_map.mp hp
   exact h6 k hk
theorem Zgu {S:SS}{n:Nat}{t:Th}{B:List Str}(h:PfT S n t):L2.isTup (shT t B)=true:=by
 cases n with
 |zero=>exact h.elim
 |succ n=>
  obtain⟨kb,e,_⟩:=Zl4 h B
  rw[e];rfl
theorem Zgv {a b:List V}{ks us:List Th}(hk:∀k∈ks,L2.isTup k=true)(hu:∀k∈us,L2.isTup k=true)(e:a.map Th.at++ks=b.map Th.at++us):a=b/\ks=us:=by
 have h1:=congrArg (List.filter L2.isTup) e
 rw[filter_append,filter_append,Z5t,Z5t,nil_append,nil_append,Z5u hk,Z5u hu] at h1
 rw[h1] at e
 exact⟨Ze2 (List.append_cancel_right e),h1⟩
theorem Zcl {α β : Type}{f : α -> List β}{g : α -> List β}:∀{a b:List α},a.length=b.length->(∀(i:Nat) x y,a[i]? = some x->b[i]? = some y->f x=g y)->(a.map f).flatten=(b.map g).flatten:=by
 intro a
 induction a with
 |nil=>intro b hl _;rw[length_nil] at hl;rw[eq_nil_of_length_eq_zero hl.symm];rfl
 |cons x a ih=>
  intro b hl h
  cases b with
  |nil=>cases hl
  |cons y b=>
   rw[map_cons,map_cons,flatten_cons,flatten_cons,h 0 x y rfl rfl,ih (Nat.succ.inj hl) fun i u v hu hv=>h (i+1) u v hu hv]
theorem Zj5 {S S':SS}:∀(n:Nat) {t t':Th},PfT S n t->PfT S' n t'->∀B B',shT t B=shT t' B'->(Z2m t B).map rowTh=(Z2m t' B').map rowTh:=by
 intro n
 induction n with
 |zero=>intro t t' h;exact h.elim
 |succ n ih=>
  intro t t' h h' B B' e
  obtain⟨kb,a1,a2,a4,a5⟩:=Zl4 h B
  obtain⟨kb',b1,b2,b4,b5⟩:=Zl4 h' B'
  obtain⟨l,hl,_⟩:=Z51 (o:=Z46 t B) h
  obtain⟨l',hl',_⟩:=Z51 (o:=Z46 t' B') h'
  rw[a1,b1,hl,hl'] at e
  injection e with e
  have tk:∀(kb:List (Th×List Str)) (S:SS),(∀p∈kb,PfT S n p.1)->∀k∈kb.map fun p=>shT p.1 p.2,L2.isTup k=true:=fun kb S hk k hk'=>by
   obtain⟨p,hp,rfl⟩:=mem_map.mp hk'
   exact Zgu (hk p hp)
  obtain⟨e1,e2⟩:=Zgv (tk kb S a5) (tk kb' S' b5) e
  have hlen:kb.length=kb'.length:=by
   have:=congrArg List.length e2
   rwa [length_map,length_map] at this
  have pt:∀(i:Nat) p p',kb[i]? = some p->kb'[i]? = some p'->shT p.1 p.2=shT p'.1 p'.2:=fun i p p' hp hp'=>by
   have:=congrArg (fun l=>l[i]?) e2
   simp only [List.getElem?_map,hp,hp',Option.map_some] at this
   exact Option.some.inj this
  rw[a2,b2,map_cons,map_cons,List.map_flatten,List.map_flatten,map_map,map_map]
  have r0:rowTh (t,Z46 t B)=rowTh (t',Z46 t' B'):=by
   unfold rowTh
   rw[hl,hl',e1,a4,b4,hlen]
  rw[r0]
  refine congrArg _ (Zcl hlen fun i p p' hp hp'=>?_)
  exact ih (a5 p (mem_of_getElem? hp)) (b5 p' (mem_of_getElem? hp')) _ _ (pt i p p' hp hp')
theorem Zbk {S S':SS}{n n':Nat}{t t':Th}(h:PfT S n t)(h':PfT S' n' t'):rws t=rws t'↔brT t=brT t':=by
 refine⟨fun e=>?_,fun e=>Zj5 (n+n') (h.le (Nat.le_add_right _ _)) (h'.le (Nat.le_add_left _ _)) [] [] e⟩
 have h1:=Z6z n h [] []
 have h2:=Z6z n' h' [] []
 have e:(Z2m t []).map rowTh=(Z2m t' []).map rowTh:=e
 rw[e,h2] at h1
 injection h1 with h1
 injection h1 with h1
 exact h1.symm
inductive spBareRows_ (S:SS)(N:Nat)(vs:List V)(H:Hp)(Q:VK):Prop
 |mk (v:V) (t:Th) (_:vs = [v]) (_:IsTh H v t) (_:PfT S N t) (_:Th.sz t<=30000) (_:∀(p:Addr) (ws:List V) H',Same H H'->H' p=some (.lst ws)->IsThs H' ws (rws t)->Q (.ref p) H'):spBareRows_ S N vs H Q
def Z5e (S:SS)(N:Nat):Sp:=fun vs H Q _=>spBareRows_ S N vs H Q
inductive spBare_ (S:SS)(N:Nat)(vs:List V)(H:Hp)(Q:VK):Prop
 |mk (v:V) (t:Th) (_:vs = [v]) (_:IsTh H v t) (_:PfT S N t) (_:Th.sz t<=30000) (_:∀(v':V) H',Same H H'->IsTh H' v' (brT t)->Q v' H'):spBare_ S N vs H Q
def Zhs (S:SS)(N:Nat):Sp:=fun vs H Q _=>spBare_ S N vs H Q
inductive spSameP_ (S:SS)(N:Nat)(vs:List V)(H:Hp)(Q:VK):Prop
 |mk (v1 v2:V) (t1 t2:Th) (_:vs = [v1,v2]) (_:IsTh H v1 t1) (_:IsTh H v2 t2) (_:PfT S N t1) (_:PfT S N t2) (_:Th.sz t1<=30000) (_:Th.sz t2<=30000) (_:(brT t1=brT t2->∀H',Same H H'->Q (.bl true) H')) (_:(brT t1≠brT t2->∀H',Same H H'->Q (.bl false) H')):spSameP_ S N vs H Q
def Zex (S:SS)(N:Nat):Sp:=fun vs H Q _=>spSameP_ S N vs H Q
theorem Zl5:(["node","own"]:List Str).Nodup:=by decide+kernel
section
variable {S:SS}{P:Program}{w:World}{K:PySem.W.Frag}{mg:Str->Option Value}{base:Heap}
structure BrF where
 fP:Addr
 fS:Addr
 fO:Addr
 fW:Addr
 fH:Addr
 fB:Addr
 fR:Addr
 fT:Addr
 dP:FuncData
 dS:FuncData
 dO:FuncData
 dW:FuncData
 dH:FuncData
 dB:FuncData
 dR:FuncData
 dT:FuncData
structure Brp (K:PySem.W.Frag)(mg:Str->Option Value)(q:BrF):Prop where
 U:HOw K mg q.fP q.fS q.fO q.dP q.dS q.dO
 W:Fn K mg "owned" Z9f ["e"] q.fW q.dW
 H:Fn K mg "head" Za6 ["node"] q.fH q.dH
 B:Fn K mg "bare_head" Z3p ["node","own"] q.fB q.dB
 R:Fn K mg "bare_rows" Z3a ["e"] q.fR q.dR
 T:Fn K mg "built" Z9e ["rows"] q.fT q.dT
 rev:mg "reversed"=none
variable {q:BrF}
theorem Zcm:FnScope ["e"] ["e"] (Z06 Z3a):=⟨rfl,rfl,rfl,by decide+kernel,rfl,by decide+kernel,by decide+kernel⟩
theorem Z70 {f:Addr}{fd:FuncData}(F:Fun K "bare_rows" "bare_rows" Z3a f fd)(G:Brp K mg q)(N:Nat):FnOk P w K mg base CX0 4 f fd ["e"] (Z5e S N):=by
 have GW:FnOk P w K mg base CX0 3 q.fW q.dW ["e"] (Zen N):=Zgq G.W.F G.U N
 have GX:FnOk P w K mg base CX0 2 q.fB q.dB ["node","own"] (Z7u N):=Zae G.B.F G.U.T G.U.KI G.H N
 have GP:FnOk P w K mg base CX0 1 q.fP q.dP ["e"] spParts:=Zb9 G.U.P G.U.T G.U.KI
 have T:=G.U.T
 refine F.ok Zcm (fun vs H Q E h=>?_) (fun cdv A outer s H vs Q E hr h=>?_)
 ·obtain⟨v,t,rfl,_⟩:=h
  rfl
 ·obtain⟨v,t,rfl,hv,pf,hz,k⟩:=h
  have hsz:sizeLine=16777216:=sizeLine_eq
  have hr1:Room 1 _:=hr.mono (by decide)
  have hr2:Room 2 _:=hr.mono (by decide)
  refine'⟨?tt,?body,?fin⟩
  case body=>
   refine' Z07 ?s2
   case s2=>
    refine' Z0h (Z1s (N':=["node","own"]) (src:=[none,none]) ?k1 ?k5 ?k6 ?k7)
    case k1=>rfl
    case k5=>exact Z0m (Z06 Z3a) rfl ["e"] rfl (by decide+kernel)
    case k6=>exact Z1v (Z05 GW hr (by rfl) G.W.m G.W.F.kp G.W.b .nil Z0e (Z0d (pv 0) Z01))
    case k7=>exact fun cl C ex s0 H0=>⟨Zbc (K:=K) (i:=0) (j:=1) rfl rfl Zl5 rfl (Or.inl rfl) rfl (Or.inl rfl) (Or.inr rfl) (Or.inr rfl),Z24,Z12 (Z2x (Z05 GX hr2 (by rfl) G.B.m G.B.F.kp G.B.b .nil Z0e (Z0d (pv 0) (Z0d (pv 1) Z01))) (Z2x (Z0n (id:="len") (Z8i (K:=K) rfl) (by rfl) T.len PySem.boot_len (Z2x (Z05 GP hr1 (by rfl) G.U.mP G.U.P.kp G.U.bP .nil Z0e (Z0d (pv 0) Z01)) Z01)) Z01))⟩
  case fin=>
   have hok:=Zhq N pf
   obtain⟨rs,hrs,hfr,hnd⟩:=Zj1 hok
   have ers:=Zac hok hrs
   have hrl:rs.length<=3*Th.sz t:=by
    have h1:=congrArg List.length hnd
    rw[length_map,length_map] at h1
    have h2:=length_filter_le (fun p:Str×Th=>decide (p.1="node")) (Z0u t)
    have h3:=Z3s t
    unfold Z2c at h1
    omega
   refine⟨_,rfl,v,t,rfl,hv,hok,by omega,fun p ws rs2 H2 s2 hp0 hp hws hrs2=>?_⟩
   have e2:rs2=rs:=by rw[Zac hok hrs2,ers]
   subst e2
   have hwl:=IsThs.len _ hws
   rw[length_map] at hwl
   refine⟨p,rfl,⟨_,SqL.of hp⟩,Z19 (K:=K) (a:=p) (xs:=ws) (fun i ys σc H'=>∃o o',σc = [o,o']/\Same H2 H'/\ys.length=i/\IsThs H' ys ((rs2.take i).map rowTh))
    ⟨none,none,rfl,Same.refl _,rfl,by rw[take_zero];exact .nil⟩ (fun i ys σc H' ⟨_,_,_,e,_⟩=>SqL.of (e _ _ hp)) ?_ ?_⟩
   ·rintro i x ys σc H' hx hi ⟨o,o',rfl,s',hyl,hys⟩
    obtain⟨tx,htx,hx2⟩:=Z1f _ hws hx
    rw[List.getElem?_map] at htx
    obtain⟨r,hr',rfl⟩:=Option.map_eq_some_iff.mp htx
    obtain⟨n,o2⟩:=r
    have hmem:=mem_of_getElem? hr'
    have hown:OkN N n/\Th.sz n<=100000:=by
     have h1:n∈rs2.map (·.1):=mem_map.mpr ⟨(n,o2),hmem,rfl⟩
     rw[hnd] at h1
     obtain⟨q,h2,h3⟩:=mem_map.mp h1
     have hqs:=(mem_filter.mp h2).1
     have a1:=(Z6v N t hok q hqs).1
     have a2:=(Zbh t N hok.ok (by omega) q hqs).2
     rw[<- h3]
     exact⟨a1,a2⟩
    obtain⟨a,vs2,rfl,ha,hvs2⟩:=Z1b hx2
    cases hvs2 with
    | @cons v1 vr _ _ c1 c2=>
     cases c2 with
     | @cons v2 vr2 _ _ c3 c4=>
      cases c4
      obtain⟨rfl,_⟩:=Z1w c3
      refine⟨by omega,a,_,rfl,SqT.of (s' _ _ ha),rfl,_,_,rfl,_,_,rfl,rfl,?_⟩
      refine⟨_,rfl,_,rfl,v1,n,o2,rfl,IsTh.kp (Kp.of s') c1,hown.1,hown.2,fun p3 H3 s3 hp3=>?_⟩
      have hn3:=IsTh.kp (Kp.of (s'.trans s3)) c1
      obtain⟨N',rfl⟩:∃N',N=N'+1:=by
       cases N with
       |zero=>exact hown.1.elim
       |succ N'=>exact⟨N',rfl⟩
      obtain⟨w0,ts,en,_⟩:=hown.1
      have hzn:=hown.2
      subst en
      have hl:=Za2 ts
      have hz2:Th.sz (.tup (.at (.str w0)::ts))=1+(1+szs ts):=by simp only [Th.sz,szs]
      refine⟨_,rfl,H3,v1,_,rfl,Same.refl _,hn3,by rw[length_cons];omega,fun p4 ws4 H4 s4 hp4 hws4=>?_⟩
      have hl4:=IsThs.len _ hws4
      refine⟨p4,ws4,rfl,.inr (SqT.of hp4),(by show 2<=sizeLine;decide),fun p5 hp5=>?_⟩
      have s5:=Z02 (o:=.tup [.ref p3,.int (ws4.length:Nat)]) hp5
      have sA:=(s3.trans s4).trans s5
      refine nx hi ⟨_,_,rfl,s'.trans sA,by rw[length_append,hyl];rfl,?_⟩
      rw[take_add_one,hr',map_append]
      refine IsThs.app _ (IsThs.kp (Kp.of sA) hys) (.cons (.tup Z00 (.cons (IsTh.kp (Kp.of (s4.trans s5)) hp3) (.cons ?_ .nil))) .nil)
      rw[hl4]
      exact .at rfl
   ·rintro ys σc H' ⟨o,o',rfl,s',hyl,hys⟩ l hl
    have sl:=Z02 (o:=.lst ys) hl
    rw[take_of_length_le (by omega),ers] at hys
    exact k l ys _ (s2.trans (s'.trans sl)) Z00 (IsThs.kp (Kp.of sl) hys)
theorem Zl6:FnScope ["e"] ["e"] (Z06 Zdt):=⟨rfl,rfl,rfl,by decide+kernel,rfl,by decide+kernel,by decide+kernel⟩
theorem Zj6 {f:Addr}{fd:FuncData}(F:Fun K "bare" "bare" Zdt f fd)(G:Brp K mg q)(N:Nat):FnOk P w K mg base CX0 5 f fd ["e"] (Zhs S N):=by
 have GR:FnOk P w K mg base CX0 4 q.fR q.dR ["e"] (Z5e S N):=Z70 G.R.F G N
 have GT:FnOk P w K mg base CX0 1 q.fT q.dT ["rows"] spBuilt:=Zgt G.T.F G.U.T G.rev
 refine F.ok Zl6 (fun vs H Q E h=>?_) (fun cdv A outer s H vs Q E hr h=>?_)
 ·obtain⟨v,t,rfl,_⟩:=h
  rfl
 ·obtain⟨v,t,rfl,hv,pf,hz,k⟩:=h
  have hr1:Room 1 _:=hr.mono (by decide)
  refine'⟨?tt,?body,?fin⟩
  case body=>
   refine' Z07 ?s1
   case s1=>exact Z0h (Z05 GT hr1 (by rfl) G.T.m G.T.F.kp G.T.b .nil Z0e (Z2x (Z05 GR hr (by rfl) G.R.m G.R.F.kp G.R.b .nil Z0e (Z0d (pv 0) Z01)) Z01))
  case fin=>
   have hok:=Zhq N pf
   obtain⟨rs,hrs,hfr,hnd⟩:=Zj1 hok
   have ers:=Zac hok hrs
   have hrl:rs.length<=3*Th.sz t:=by
    have h1:=congrArg List.length hnd
    rw[length_map,length_map] at h1
    have h2:=length_filter_le (fun p:Str×Th=>decide (p.1="node")) (Z0u t)
    have h3:=Z3s t
    unfold Z2c at h1
    omega
   rw[ers] at hrl
   refine⟨_,rfl,v,t,rfl,hv,pf,hz,fun p ws H1 s1 hp hws=>?_⟩
   refine⟨p,ws,_,_,rfl,hp,hws,fun r hr=>?_,by have:=Z6z N pf [] [];exact this,by rw[length_map];omega,fun v' H2 s2 hv'=>k v' H2 (s1.trans s2) hv'⟩
   obtain⟨r',hr',rfl⟩:=mem_map.mp hr
   exact Zml (Zev N pf [] r' hr')
theorem Zj7:FnScope ["one","other"] ["one","other"] (Z06 Z9g):=⟨rfl,rfl,rfl,by decide+kernel,rfl,by decide+kernel,by decide+kernel⟩
theorem Zgw {f:Addr}{fd:FuncData}(F:Fun K "same" "same" Z9g f fd)(G:Brp K mg q)(N:Nat):FnOk P w K mg base CX0 5 f fd ["one","other"] (Zex S N):=by
 have GR:FnOk P w K mg base CX0 4 q.fR q.dR ["e"] (Z5e S N):=Z70 G.R.F G N
 refine F.ok Zj7 (fun vs H Q E h=>?_) (fun cdv A outer s H vs Q E hr h=>?_)
 ·obtain⟨v1,v2,t1,t2,rfl,_⟩:=h
  rfl
 ·obtain⟨v1,v2,t1,t2,rfl,hv1,hv2,p1,p2,z1,z2,k1,k2⟩:=h
  have hu:(_:Around).units+(2+1)<cLine:=Nat.lt_of_le_of_lt (Nat.add_le_add_left (by decide) _) hr.units
  refine'⟨?tt,?body,?fin⟩
  case body=>
   refine' Z07 ?s1
   case s1=>exact Z0h (Z5z (Zj2 (K:=K) rfl 2 hu) (Z05 GR hr (by rfl) G.R.m G.R.F.kp G.R.b .nil Z0e (Z0d (pv 0) Z01)) (Z05 GR hr (by rfl) G.R.m G.R.F.kp G.R.b .nil Z0e (Z0d (pv 1) Z01)) (Z0k _))
  case fin=>
   obtain⟨f1,f2⟩:=Zew p1
   obtain⟨g1,g2⟩:=Zew p2
   refine⟨_,rfl,v1,t1,rfl,hv1,p1,z1,fun pa ws H1 s1 hpa hws=>⟨_,rfl,v2,t2,rfl,IsTh.kp (Kp.of s1) hv2,p2,z2,fun pb us H2 s2 hpb hus=>?_⟩⟩
   exact⟨rws t1,rws t2,.lst (s2 _ _ hpa) (IsThs.kp (Kp.of s2) hws),.lst hpb hus,f1,g1,f2,g2,fun e=>k1 ((Zbk p1 p2).mp e) H2 (s1.trans s2),fun e=>k2 (fun z=>e ((Zbk p1 p2).mpr z)) H2 (s1.trans s2)⟩
end
theorem Zgx (l:Bool)(x:Str)(B:List Str)(y:Th):∀(a:List Th) (j:Nat),frK l x j (a ++ [y]) B=frK l x j a B++frT y (B++if l=true/\j+a.length=1 then [x] else []):=by
 intro a
 induction a with
 |nil=>intro j;simp [frK]
 |cons u a ih=>
  intro j
  rw[cons_append,frK,frK,ih,append_assoc,length_cons,show j+1+a.length=j+(a.length+1) by omega]
theorem Zht {w:Str}{hd:List V}{ks:List Th}(nk:∀k∈ks,L2.isTup k=true)(B:List Str):frT (nd w hd ks) B=frO (nd w hd ks) B++frK (decide (w="let")) (nm (nd w hd ks)) 0 ks B:=by
 unfold nd
 rw[frT,Z8j,Z3f,Z3d nk]
theorem Sh.leaf0 {S:SS}{hd:List V}{n:Nat}(h:Sh S "name" hd n):n=0:=by
 cases h;rfl
theorem Zey {x:Str}{B:List Str}:frT (nd "name" [.str x] []) B=if x∈B then [] else [x]:=by
 rw[Zgs (fun k hk=>by cases hk) (by decide+kernel)]
 unfold frO
 rw[Z5d,Zch]
 by_cases h:x∈B
 ·rw[if_neg,if_pos h]
  ·rfl
  ·rintro(q|q)
   ·exact absurd q (by decide+kernel)
   ·exact q.2 h
 ·rw[if_pos (.inr ⟨rfl,h⟩),if_neg h]
  rfl
theorem Zez {S:SS}:∀(n:Nat) {t:Th},PfT S n t->∀B,(frT t B).length<=cnt t:=by
 intro n
 induction n with
 |zero=>intro t h;exact h.elim
 |succ n ih=>
  intro t h B
  obtain⟨w,hd,ks,rfl,h1,h2,h3,h4,h5,h6⟩:=h
  have nk:∀k∈ks,L2.isTup k=true:=fun k hk=>(h6 k hk).isTup
  rw[Zht nk,Z18 nk,length_append]
  have e1:(frO (nd w hd ks) B).length<=1:=by unfold frO;split <;> simp
  have main:∀(l:List Th) (j:Nat),(∀k∈l,PfT S n k)->(frK (decide (w="let")) (nm (nd w hd ks)) j l B).length<=Z1o l:=by
   intro l
   induction l with
   |nil=>intro j _;simp [frK]
   |cons k l il=>
    intro j hl
    rw[frK,length_append,Z1o]
    have:=ih (hl k (mem_cons_self ..)) (B++if decide (w="let")=true/\j=1 then [nm (nd w hd ks)] else [])
    have:=il (j+1) fun y hy=>hl y (mem_cons_of_mem _ hy)
    omega
  have:=main ks 0 h6
  omega
theorem Zj8 {S:SS}{n:Nat}{l:Bool}{x:Str}{B:List Str}:∀(a:List Th) (j:Nat),(∀k∈a,PfT S n k)->(frK l x j a B).length<=Z1o a:=by
 intro a
 induction a with
 |nil=>intro j _;simp [frK]
 |cons k a il=>
  intro j hl
  rw[frK,length_append,Z1o]
  have:=Zez n (hl k (mem_cons_self ..)) (B++if l=true/\j=1 then [x] else [])
  have:=il (j+1) fun y hy=>hl y (mem_cons_of_mem _ hy)
  omega
theorem Z8m:∀a b:List Th,Z1o (a++b)=Z1o a+Z1o b:=by
 intro a b
 induction a with
 |nil=>simp [Z1o]
 |cons x a ih=>rw[cons_append,Z1o,Z1o,ih];omega
theorem Zf0:∀(ks:List Th) (u:Th),u∈ks->cnt u<=Z1o ks:=by
 intro ks u h
 obtain⟨a,b,rfl⟩:=List.append_of_mem h
 rw[Z8m,Z1o]
 omega
theorem Z52 (ks:List Th)(i:Nat):Z1o (ks.take i)<=Z1o ks:=by
 have:=Z8m (ks.take i) (ks.drop i)
 rw[take_append_drop] at this
 omega
theorem bi (b:Bool) : -(2 ^ 63)<=(if b=true then (1:Int) else 0)/\(if b=true then (1:Int) else 0)<2 ^ 63/\(if b=true then (1:Int) else 0).toNat<=1:=by
 cases b <;> decide
inductive spFree_ (S:SS)(N:Nat)(vs:List V)(H:Hp)(Q:VK):Prop
 |mk (v:V) (ba:Addr) (t:Th) (B:List Str) (_:vs = [v,.ref ba]) (_:IsTh H v t) (_:PfT S N t) (_:H ba=some (.lst (B.map V.str))) (_:B.length+N<=1000) (_:cnt t<=5000) (_:∀(p:Addr) H',Same H H'->H' p=some (.lst ((frT t B).map V.str))->Q (.ref p) H'):spFree_ S N vs H Q
def Zhu (S:SS)(N:Nat):Sp:=fun vs H Q _=>spFree_ S N vs H Q
abbrev Zmm:List Str:=["_law_e","_law_bound_here","_law_found","_law_k","_law_one","_law_inner"]
section
variable {S:SS}{P:Program}{w:World}{K:PySem.W.Frag}{mg:Str->Option Value}{base:Heap}
theorem scFree:FnScope Zmm ["_law_e","_law_bound_here"] (Z06 Zc6):=⟨rfl,rfl,rfl,by decide+kernel,rfl,by decide+kernel,by decide+kernel⟩
theorem Zj9 {f fP fW:Addr}{fd dP dW:FuncData}(F:Fn K mg "_law_free" Zc6 ["_law_e","_law_bound_here"] f fd)(U:HW K mg fP fW dP dW)(hlist:mg "list"=none)(henum:mg "enumerate"=none):
  ∀N,FnOk P w K mg base CX0 (N+2) f fd ["_law_e","_law_bound_here"] (Zhu S N):=by
 have GP:FnOk P w K mg base CX0 1 fP dP ["_law_e"] spLawParts:=Z1g U.P U.T U.KI
 have T:=U.T
 intro N
 induction N with
 |zero=>
  refine F.F.ok scFree (fun vs H Q E h=>?_) (fun cdv A outer s H vs Q E hr h=>?_)
  ·obtain⟨v,ba,t,B,rfl,_⟩:=h
   rfl
  ·obtain⟨v,ba,t,B,rfl,_,h,_⟩:=h
   exact h.elim
 |succ N ih=>
  refine F.F.ok scFree (fun vs H Q E h=>?_) (fun cdv A outer s H vs Q E hr h=>?_)
  ·obtain⟨v,ba,t,B,rfl,_⟩:=h
   rfl
  ·obtain⟨v,ba,t,B,rfl,hv,pf,hba,hBl,hc,k⟩:=h
   have hsz:sizeLine=16777216:=sizeLine_eq
   have hr1:Room 1 _:=hr.mono (by omega)
   refine'⟨?tt,?body,?fin⟩
   case body=>
    refine' Z04 ?s1 ?r1
    case s1=>
     refine' Z0x (Z0b Z1d (Z0q Z0v (pv 0) Z03 (fun _ _=>rfl)) Z09 (Z0k _)) (Z07 (Z0h (Z0i Zhf (Z0y (Z08 (Z0q Z0v (pv 0) Z03 (fun _ _=>rfl)) Z01)) ?n))) Z0f
     case n=>exact Z14 Z62 (by rfl) T.int (by decide+kernel) (Z08 (Z5z Z5i (Z0q Z0v (pv 0) Z03 (fun _ _=>rfl)) (pv 1) (by with_unfolding_all rfl)) Z01)
    case r1=>
     refine' Z0l ?s2 ?r2
     case s2=>
      refine' Z0c (i:=2) scFree.nd rfl (Or.inl rfl) (Z0i Zhf (Z14 Z5j (by rfl) hlist (by decide+kernel) (Z08 (Z1e Z3n (pv 0) (Z1m Z03) (Z1m Z03)) Z01)) ?n)
      case n=>exact Z14 Z62 (by rfl) T.int (by decide+kernel) (Z08 (Z5z Z1d (Z0q Z0v (pv 0) Z03 (fun _ _=>rfl)) Z09 (Z0k _)) Z01)
     case r2=>
      refine' Z04 ?s3 (Z07 ?s4)
      case s4=>exact Z0h (pv 2)
      case s3=>
       refine' Z43 PassesOwn.never rfl (Zic (by rfl) henum (Z2x (Z05 GP hr1 (by rfl) U.mP U.P.kp U.bP .nil Z0e (Z0d (pv 0) Z01)) Z01)) ?g (Z04 ?b1 (Z0l ?b2 (Z07 ?b3)))
       case g=>exact Z5x rfl (Z1j (Z0s (i:=3) scFree.nd rfl (Or.inl rfl)) (Z1j (Z0s (i:=4) scFree.nd rfl (Or.inl rfl)) Z49))
       case b1=>exact Z0c (i:=5) scFree.nd rfl (Or.inl rfl) (pv 1)
       case b2=>
        refine' Z0x ?c (Z07 ?e) Z0f
        case c=>exact(Z5h (Z0b Z1d (Z0q Z0v (pv 0) Z03 (fun _ _=>rfl)) Z09 (Z0k _)) (Z3j (Z0b Z1d (pv 3) Z03 (Z0k _)))).pt
        case e=>exact Z0c (i:=5) scFree.nd rfl (Or.inl rfl) (Z0i Z2q (pv 1) (Z0y (Z08 (Z0q Z0v (pv 0) Z03 (fun _ _=>rfl)) Z01)))
       case b3=>exact Z0c (i:=2) scFree.nd rfl (Or.inl rfl) (Z0i Z2q (pv 2) (Z05 ih hr (by rfl) F.m F.F.kp F.b .nil Z0e (Z0d (pv 4) (Z0d (pv 5) Z01))))
   case fin=>
    obtain⟨w0,hd,ks,rfl,h1,h2,h3,h4,h5,h6⟩:=pf
    have nk:∀y∈ks,L2.isTup y=true:=fun y hy=>(h6 y hy).isTup
    have sh:=h4.sh
    rw[Z18 nk] at hc
    have hvt:IsTh H v (.tup (.at (.str w0)::(hd.map Th.at++ks))):=hv
    obtain⟨a,vs,rfl,ha,hvs⟩:=Z1b hvt
    obtain⟨vr,rfl,hvr⟩:∃vr,vs = .str w0::vr/\IsThs H vr (hd.map Th.at++ks):=by
     cases hvs with
     |cons c1 c2=>
      obtain⟨rfl,_⟩:=Z1w c1
      exact⟨_,rfl,c2⟩
    have second:∀x,hd = [.str x]->∃vr2,vr = .str x::vr2/\IsThs H vr2 ks:=fun x e=>by
     subst e
     cases hvr with
     |cons c1 c2=>
      obtain⟨rfl,_⟩:=Z1w c1
      exact⟨_,rfl,c2⟩
    have hvl:=IsThs.len _ hvr
    rw[length_append,length_map] at hvl
    refine⟨_,rfl,a,_,_,_,rfl,rfl,SqT.of ha,Z16 _ _,rfl,_,rfl,Z1a (fun g=>?_) (fun g=>?_)⟩
    ·have hw:w0="name":=by
      have g':=of_decide_eq_true g
      injection g'
     subst hw
     obtain⟨x,rfl⟩:=h4.st (.inr rfl)
     obtain⟨vr2,rfl,_⟩:=second x rfl
     have hk0:ks = []:=eq_nil_of_length_eq_zero sh.leaf0
     subst hk0
     rw[Zey] at k
     refine⟨_,rfl,a,_,_,.str x,rfl,rfl,SqT.of ha,Z15 _ _ _,(by show 1<=sizeLine;decide),fun q hq=>?_⟩
     have sq:=Z02 (o:=.lst [.str x]) hq
     refine⟨_,rfl,a,_,_,.str x,rfl,rfl,SqT.of (sq _ _ ha),Z15 _ _ _,_,rfl,ba,B.map V.str,rfl,.inl (SqL.of (sq _ _ hba)),rfl,Z1p B,.inr ⟨_,rfl,q,_,_,rfl,rfl,Z00,?_,?_,?_,fun p hp=>?_⟩⟩
     ·exact(bi _).1
     ·exact(bi _).2.1
     ·exact Nat.le_trans (Nat.mul_le_mul_left _ (bi _).2.2) (by show 1*1<=sizeLine;decide)
     ·refine k p _ (sq.trans (Z02 hp)) ?_
      rw[Z00]
      by_cases hx:x∈B
      ·rw[if_pos hx]
       have:inV (.str x) (B.map V.str)=true:=(Z29 x B).mpr hx
       simp [this]
      ·rw[if_neg hx]
       have:inV (.str x) (B.map V.str)=false:=by
        rw[Bool.eq_false_iff]
        exact fun z=>hx ((Z29 x B).mp z)
       simp [this]
    have hwn:w0≠"name":=fun z=>g (by rw[z];decide+kernel)
    rw[Zht nk] at k
    obtain⟨x,hx⟩:∃x,x=nm (nd w0 hd ks):=⟨_,rfl⟩
    obtain⟨lb,hlb⟩:∃lb,lb=decide (w0="let"):=⟨_,rfl⟩
    rw[<- hx,<- hlb] at k
    refine⟨fun σ' H'=>∃(fa:Addr),σ' = [some (.ref a),some (.ref ba),some (.ref fa),none,none,none]/\Same H H'/\H' fa=some (.lst ((frO (nd w0 hd ks) B).map V.str)),?_,?_⟩
    ·refine⟨_,rfl,_,rfl,_,rfl,a,_,rfl,ha,fun p1 H1 s1 hp1=>⟨p1,_,rfl,.inr (SqT.of hp1),fun p2 hp2=>?_⟩⟩
     have s2:=Z02 (o:=.lst (Z79 (.str w0::vr) (some 1) (some 2))) hp2
     have s12:=s1.trans s2
     have hcl:=Z4a (.str w0::vr) (some 1) (some 2)
     rw[length_cons] at hcl
     refine⟨_,rfl,a,_,_,_,rfl,rfl,SqT.of (s12 _ _ ha),Z16 _ _,rfl,.inr ⟨_,rfl,p2,_,_,rfl,rfl,Z00,?_,?_,?_,fun p3 hp3=>?_⟩⟩
     ·exact(bi _).1
     ·exact(bi _).2.1
     ·exact Nat.le_trans (Nat.mul_le_mul_left _ (bi _).2.2) (by omega)
     ·refine⟨p3,rfl,s12.trans (Z02 hp3),?_⟩
      rw[Z00]
      by_cases hs:w0="set"
      ·subst hs
       obtain⟨y,rfl⟩:=h4.st (.inl rfl)
       obtain⟨vr2,rfl,_⟩:=second y rfl
       have e1:frO (nd "set" [.str y] ks) B = [y]:=by unfold frO;rw[Z5d,Zch,if_pos (.inl rfl)]
       rw[e1]
       rfl
      ·have e1:frO (nd w0 hd ks) B = []:=by unfold frO;rw[Z5d,if_neg (fun z:w0="set"∨_=>z.elim hs fun q=>hwn q.1)]
       have e:decide (V.str w0=V.str "set")=false:=decide_eq_false fun z=>hs (by injection z)
       rw[e1,e]
       rfl
    rintro σ1 H1 ⟨fa,rfl,s1,hfa⟩
    have ha1:=s1 _ _ ha
    have hba1:=s1 _ _ hba
    have hfl:(frO (nd w0 hd ks) B).length<=1:=by unfold frO;split <;> simp
    refine⟨_,rfl,.ref a,w0,hd.map Th.at++ks,rfl,IsTh.kp (Kp.of s1) hvt,by rw[length_append,length_map];omega,fun p ws H2 s2 hp0 hp hws=>?_⟩
    rw[Z2y nk] at hws
    have hwl:=IsThs.len _ hws
    have s12:=s1.trans s2
    refine⟨p,rfl,.inl ⟨⟨_,SqL.of hp⟩,Zdq (K:=K) (a:=p) (xs:=ws) (fun i σ H'=>∃(fa:Addr) (o3 o4 o5:Option V),σ = [some (.ref a),some (.ref ba),some (.ref fa),o3,o4,o5]/\Same H2 H'/\H' fa=some (.lst ((frO (nd w0 hd ks) B++frK lb x 0 (ks.take i) B).map V.str)))
     ⟨fa,none,none,none,rfl,Same.refl _,by rw[take_zero,frK,append_nil];exact s2 _ _ hfa⟩ (fun i σ H' _ ⟨_,_,_,_,_,e,_⟩=>SqL.of (e _ _ hp)) ?_ ?_⟩⟩
    ·rintro i vx σ H3 T' hx' ⟨fa,o3,o4,o5,rfl,s3,hfa3⟩ hT
     obtain⟨u,hu,hxu⟩:=Z1f _ (IsThs.kp (Kp.of s3) hws) hx'
     have hum:=mem_of_getElem? hu
     have hcu:=Zf0 ks u hum
     have s4:=Z02 (o:=.tup [.int (i:Nat),vx]) hT
     have s34:=s3.trans s4
     have hil:i<ks.length:=(List.getElem?_eq_some_iff.mp hu).1
     have hB4:upd H3 T' (.tup [.int (i:Nat),vx]) ba=some (.lst (B.map V.str)):=s34 _ _ (s2 _ _ hba1)
     have hA4:upd H3 T' (.tup [.int (i:Nat),vx]) a=some (.tup (.str w0::vr)):=s34 _ _ (s2 _ _ ha1)
     refine⟨T',_,rfl,SqT.of Z00,rfl,_,_,rfl,_,_,rfl,rfl,_,rfl,?_⟩
     generalize upd H3 T' (.tup [.int (i:Nat),vx])=H4 at s4 s34 hB4 hA4 ⊢
     refine⟨fun σ' H'=>∃(ia:Addr),σ' = [some (.ref a),some (.ref ba),some (.ref fa),some (.int (i:Nat)),some vx,some (.ref ia)]/\Same H4 H'/\H' ia=some (.lst ((B++if lb=true/\i=1 then [x] else []).map V.str)),?_,?_⟩
     ·refine⟨_,rfl,a,_,_,_,rfl,rfl,SqT.of hA4,Z16 _ _,rfl,_,rfl,Z1a (fun g2=>?_) (fun g2=>Za0 ⟨ba,rfl,Same.refl _,?_⟩)⟩
      ·have hw:w0="let":=by
        have g':=of_decide_eq_true g2
        injection g'
       refine⟨_,rfl,rfl,_,rfl,Z1a (fun g3=>?_) (fun g3=>⟨ba,rfl,Same.refl _,?_⟩)⟩
       ·have hi1:i=1:=by
         have g':=of_decide_eq_true g3
         injection g' with g'
         omega
        obtain⟨⟨y,rfl⟩,_⟩:=h3 hw
        obtain⟨vr2,rfl,_⟩:=second y rfl
        refine⟨_,rfl,_,rfl,a,_,_,.str y,rfl,rfl,SqT.of hA4,Z15 _ _ _,(by show 1<=sizeLine;decide),fun q1 hq1=>?_⟩
        have t1:=Z02 (o:=.lst [.str y]) hq1
        refine⟨ba,q1,_,_,rfl,rfl,t1 _ _ hB4,Z00,by rw[length_map,length_singleton];omega,fun q2 hq2=>⟨q2,rfl,t1.trans (Z02 hq2),?_⟩⟩
        rw[Z00,hlb,decide_eq_true hw,if_pos ⟨rfl,hi1⟩,map_append,hx,Zch]
        rfl
       ·rw[if_neg,append_nil]
        ·exact hB4
        ·rintro⟨_,q⟩
         exact g3 (by rw[q];decide+kernel)
      ·rw[if_neg,append_nil]
       ·exact hB4
       ·rintro⟨q,_⟩
        rw[hlb] at q
        exact g2 (by rw[of_decide_eq_true q];decide+kernel)
     rintro σ5 H5 ⟨ia,rfl,s5,hia⟩
     have hfr:=Zez N (h6 u hum) (B++if lb=true/\i=1 then [x] else [])
     have hfk:=Zj8 (n:=N) (l:=lb) (x:=x) (B:=B) (ks.take i) 0 fun y hy=>h6 y (mem_of_mem_take hy)
     have hct:=Z52 ks i
     have hbl:(B++if lb=true/\i=1 then [x] else []).length<=B.length+1:=by
      rw[length_append]
      split <;> simp
     refine⟨_,rfl,_,rfl,_,rfl,vx,ia,u,_,rfl,IsTh.kp (Kp.of (s4.trans s5)) hxu,h6 u hum,hia,by omega,by omega,fun p6 H6 s6 hp6=>?_⟩
     have s56:=s5.trans s6
     refine⟨fa,p6,_,_,rfl,rfl,s56 _ _ (s4 _ _ hfa3),hp6,by rw[length_map,length_map,length_append];omega,fun q7 hq7=>⟨q7,_,_,_,rfl,s34.trans (s56.trans (Z02 hq7)),?_⟩⟩
     rw[Z00,take_add_one,hu]
     show some (HO.lst (_++_))=some (HO.lst ((_++frK lb x 0 (ks.take i ++ [u]) B).map V.str))
     rw[Zgx,length_take,Nat.min_eq_left (Nat.le_of_lt hil),Nat.zero_add,<- append_assoc]
     simp only [map_append]
    ·rintro σ H3 ⟨fa,o3,o4,o5,rfl,s3,hfa3⟩
     rw[take_of_length_le (by omega)] at hfa3
     exact⟨_,rfl,k fa H3 (s12.trans s3) hfa3⟩
end
theorem Z71 {w:Str}{hd:List V}{ks:List Th}{B:List Str}(nk:∀k∈ks,L2.isTup k=true)(hw:w≠"let")(h:¬ (w="name"/\nm (nd w hd ks)∈B)):shT (nd w hd ks) B = .tup (.at (.str w)::hd.map Th.at++ks.map fun k=>shT k B):=by
 rw[Zes nk hw]
 unfold shH
 have e:Z46 (nd w hd ks) B = -1:=Zbj h
 have e2:Zbf (nd w hd ks) = .at (.str w)::hd.map Th.at:=Z6n nk
 rw[Z5d,e,if_neg hw,if_neg (by decide),e2]
theorem Zf1 {x:Str}{B:List Str}(h:x∈B):shT (nd "name" [.str x] []) B = .tup [.at (.str "own"),.at (.int ((B.length:Int)-1-(lix B x:Int)))]:=by
 rw[Zes (fun k hk=>by cases hk) (by decide+kernel),map_nil,append_nil]
 unfold shH
 obtain⟨e1,e2⟩:=Zck (n:=nd "name" [.str x] []) (B:=B) rfl h
 rw[Z5d,if_neg (by decide+kernel),if_pos e2,e1]
 rfl
def LevOk (kvs:List (Key×V))(B:List Str):Prop:=∀x,Z27 kvs (Sum.inr x)=if x∈B then some (.int ((lix B x:Int)+1)) else none
theorem LevOk.push {kvs:List (Key×V)}{B:List Str}(h:LevOk kvs B)(x:Str):LevOk (Z2t kvs (Sum.inr x) (.int ((B.length:Int)+1))) (B ++ [x]):=fun y=>by
 rw[Z28,Z4z]
 by_cases e:y=x
 ·rw[e,if_pos rfl,if_pos (by simp),if_pos rfl]
 ·have hxy:¬x=y:=fun z=>e z.symm
  rw[if_neg (by intro q;injection q with q;exact e q),h y]
  by_cases hy:y∈B
  ·rw[if_pos hy,if_pos (mem_append_left _ hy),if_neg hxy]
  ·rw[if_neg hy,if_neg]
   intro z
   rcases mem_append.mp z with z|z
   ·exact hy z
   ·rw[mem_singleton] at z;exact e z
inductive spBared_ (S:SS)(N:Nat)(vs:List V)(H:Hp)(Q:VK):Prop
 |mk (v:V) (la:Addr) (t:Th) (B:List Str) (kvs:List (Key×V)) (_:vs = [v,.int (B.length:Nat),.ref la]) (_:IsTh H v t) (_:PfT S N t) (_:H la=some (.dK kvs)) (_:LevOk kvs B) (_:kvs.length+N<=1000) (_:B.length+N<=1000) (_:∀(v':V) H',Same H H'->IsTh H' v' (shT t B)->Q v' H'):spBared_ S N vs H Q
def Zf2 (S:SS)(N:Nat):Sp:=fun vs H Q _=>spBared_ S N vs H Q
abbrev Zn2:List Str:=["_law_e","_law_level","_law_levels","_law_inner"]
theorem Zl7:(["_law_level","_law_levels","_law_one"]:List Str).Nodup:=by decide+kernel
section
variable {S:SS}{P:Program}{w:World}{K:PySem.W.Frag}{mg:Str->Option Value}{base:Heap}
theorem scBared:FnScope Zn2 ["_law_e","_law_level","_law_levels"] (Z06 Z7n):=⟨rfl,rfl,rfl,by decide+kernel,rfl,by decide+kernel,by decide+kernel⟩
theorem Zgy {f fP fW:Addr}{fd dP dW:FuncData}(F:Fn K mg "_law_bared" Z7n ["_law_e","_law_level","_law_levels"] f fd)(U:HW K mg fP fW dP dW)(hdict:mg "dict"=none):
  ∀N,FnOk P w K mg base CX0 (N+2) f fd ["_law_e","_law_level","_law_levels"] (Zf2 S N):=by
 have GP:FnOk P w K mg base CX0 1 fP dP ["_law_e"] spLawParts:=Z1g U.P U.T U.KI
 have GW:FnOk P w K mg base CX0 1 fW dW ["_law_e","_law_inner"] spWith:=Z8b U.W U.T U.KI
 intro N
 induction N with
 |zero=>
  refine F.F.ok scBared (fun vs H Q E h=>?_) (fun cdv A outer s H vs Q E hr h=>?_)
  ·obtain⟨v,la,t,B,kvs,rfl,_⟩:=h
   rfl
  ·obtain⟨v,la,t,B,kvs,rfl,_,h,_⟩:=h
   exact h.elim
 |succ N ih=>
  refine F.F.ok scBared (fun vs H Q E h=>?_) (fun cdv A outer s H vs Q E hr h=>?_)
  ·obtain⟨v,la,t,B,kvs,rfl,_⟩:=h
   rfl
  ·obtain⟨v,la,t,B,kvs,rfl,hv,pf,hla,L,hkl,hBl,k⟩:=h
   have hsz:sizeLine=16777216:=sizeLine_eq
   have hr1:Room 1 _:=hr.mono (by omega)
   have hu:(_:Around).units+1<cLine:=Nat.lt_of_le_of_lt (Nat.add_le_add_left (by decide) _) hr.units
   refine'⟨?tt,?body,?fin⟩
   case body=>
    refine' Z0l ?s1 ?r1
    case s1=>exact Z0x (Z5h (Z0b Z1d (Z0q Z0v (pv 0) Z03 (fun _ _=>rfl)) Z09 (Z0k _)) (Z3j (Zjr (Zk6 hu (Z0q Z0v (pv 0) Z03 (fun _ _=>rfl)) (pv 2))))).pt (Z07 (Z0h (Z12 (Z17 Z09 (Z08 (Z0i Z1l (pv 1) (Z0t hu (pv 2) (Z0q Z0v (pv 0) Z03 (fun _ _=>rfl)) (fun _ _=>rfl))) Z01))))) Z0f
    case r1=>
     refine' Z04 ?s2 (Z07 ?s3)
     case s2=>
      refine' Z0x (Z0b Z1d (Z0q Z0v (pv 0) Z03 (fun _ _=>rfl)) Z09 (Z0k _)) (Z04 ?e1 (Z04 ?e2 (Z07 ?e3))) Z0f
      case e1=>exact Z0c (i:=3) scBared.nd rfl (Or.inl rfl) (Z14 Z3r (by rfl) hdict (by decide+kernel) (Z0d (pv 2) Z01))
      case e2=>exact Z22 hu (pv 3) (Z0q Z0v (pv 0) Z03 (fun _ _=>rfl)) (Z0i Z1h (pv 1) Z03) (by rfl)
      case e3=>exact Z0h (Z12 (Z17 Z09 (Z2x (Z05 ih hr (by rfl) F.m F.F.kp F.b .nil Z0e (Z08 (Z0q Z0v (pv 0) Z03 (fun _ _=>rfl)) (Z0d (pv 1) (Z0d (pv 2) Z01)))) (Z2x (Z05 ih hr (by rfl) F.m F.F.kp F.b .nil Z0e (Z08 (Z0q Z0v (pv 0) Z03 (fun _ _=>rfl)) (Z08 (Z0i Z1h (pv 1) Z03) (Z0d (pv 3) Z01)))) Z01))))
     case s3=>
      refine' Z0h (Z05 GW hr1 (by rfl) U.mW U.W.kp U.bW .nil Z0e (Z0d (pv 0) (Z08 ?c Z01)))
      case c=>
       refine' Z1s (N':=["_law_level","_law_levels","_law_one"]) (src:=[some 1,some 2,none]) ?k1 ?k5 ?k6 ?k7
       case k1=>rfl
       case k5=>exact Z0m (Z06 Z7n) rfl Zn2 rfl (by decide+kernel)
       case k6=>exact Z1v (Z05 GP hr1 (by rfl) U.mP U.P.kp U.bP .nil Z0e (Z0d (pv 0) Z01))
       case k7=>exact fun cl C ex s0 H0=>⟨Z0s (i:=2) Zl7 rfl (Or.inl rfl),Z24,Z05 ih hr (by rfl) F.m F.F.kp F.b .nil Z0e (Z0d (pv 2) (Z0d (pv 0) (Z0d (pv 1) Z01)))⟩
   case fin=>
    obtain⟨w0,hd,ks,rfl,h1,h2,h3,h4,h5,h6⟩:=pf
    have nk:∀y∈ks,L2.isTup y=true:=fun y hy=>(h6 y hy).isTup
    have sh:=h4.sh
    have hvt:IsTh H v (.tup (.at (.str w0)::(hd.map Th.at++ks))):=hv
    obtain⟨a,vs,rfl,ha,hvs⟩:=Z1b hvt
    obtain⟨vr,rfl,hvr⟩:∃vr,vs = .str w0::vr/\IsThs H vr (hd.map Th.at++ks):=by
     cases hvs with
     |cons c1 c2=>
      obtain⟨rfl,_⟩:=Z1w c1
      exact⟨_,rfl,c2⟩
    have second:∀x,hd = [.str x]->∃vr2,vr = .str x::vr2/\IsThs H vr2 ks:=fun x e=>by
     subst e
     cases hvr with
     |cons c1 c2=>
      obtain⟨rfl,_⟩:=Z1w c1
      exact⟨_,rfl,c2⟩
    refine⟨fun σ' H'=>σ' = [some (.ref a),some (.int (B.length:Nat)),some (.ref la),none]/\H'=H/\¬ (w0="name"/\nm (nd w0 hd ks)∈B),?_,?_⟩
    ·refine⟨_,rfl,a,_,_,_,rfl,rfl,SqT.of ha,Z16 _ _,rfl,_,rfl,Z1a (fun g=>?_) (fun g=>Za0 ⟨rfl,rfl,fun q=>g (by rw[q.1];decide+kernel)⟩)⟩
     have hw:w0="name":=by
      have g':=of_decide_eq_true g
      injection g'
     subst hw
     obtain⟨x,rfl⟩:=h4.st (.inr rfl)
     obtain⟨vr2,rfl,_⟩:=second x rfl
     have hk0:ks = []:=eq_nil_of_length_eq_zero sh.leaf0
     subst hk0
     have hg:=DGet.k (k:=Sum.inr x) hla
     rw[L x] at hg
     by_cases hxB:x∈B
     ·rw[if_pos hxB] at hg
      have e:((B.length:Nat):Int)-((lix B x:Int)+1)=(B.length:Int)-1-(lix B x:Int):=by omega
      rw[Zf1 hxB,<- e] at k
      refine⟨_,rfl,a,_,_,.str x,rfl,rfl,SqT.of ha,Z15 _ _ _,_,rfl,la,_,rfl,hg,_,rfl,Zaq ?_⟩
      refine⟨_,rfl,_,rfl,_,rfl,a,_,_,.str x,rfl,rfl,SqT.of ha,Z15 _ _ _,la,_,rfl,hg,_,_,rfl,rfl,(by show 2<=sizeLine;decide),fun p hp=>?_⟩
      exact k (.ref p) _ (Z02 hp) (.tup Z00 (.cons (.at (by decide+kernel)) (.cons (.at rfl) .nil)))
     ·rw[if_neg hxB] at hg
      exact⟨_,rfl,a,_,_,.str x,rfl,rfl,SqT.of ha,Z15 _ _ _,_,rfl,la,_,rfl,hg,_,rfl,Za0 ⟨rfl,rfl,fun q=>hxB (by have:=q.2;rwa [Zch] at this)⟩⟩
    rintro σ1 H1 ⟨rfl,rfl,hnb⟩
    refine⟨_,rfl,a,_,_,_,rfl,rfl,SqT.of ha,Z16 _ _,rfl,_,rfl,Z1a (fun g=>?_) (fun g=>?_)⟩
    ·have hw:w0="let":=by
      have g':=of_decide_eq_true g
      injection g'
     subst hw
     obtain⟨⟨x,rfl⟩,hk2⟩:=h3 rfl
     obtain⟨vr2,rfl,hv2⟩:=second x rfl
     match ks,hk2,h6,hv2 with
     |[ka,kb],_,h6,hv2=>
      have pa:=h6 ka (by simp)
      have pb:=h6 kb (by simp)
      cases hv2 with
      | @cons va vr3 _ _ da db=>
       cases db with
       | @cons vb vr4 _ _ db1 db2=>
        cases db2
        rw[Z7t pa.isTup pb.isTup] at k
        refine⟨_,rfl,la,_,rfl,hla,fun ia hia=>?_⟩
        have s1:=Z02 (o:=.dK kvs) hia
        refine⟨_,rfl,_,_,rfl,rfl,_,rfl,_,rfl,a,_,_,.str x,rfl,rfl,SqT.of (s1 _ _ ha),Z15 _ _ _,ia,_,rfl,DPut.k (k:=Sum.inr x) Z00 (by omega),?_⟩
        have hpl:=Z1n kvs (Sum.inr x) (.int (((B.length:Nat):Int)+1))
        have s2:Same H1 (upd (upd H1 ia (.dK kvs)) ia (.dK (Z2t kvs (Sum.inr x) (.int (((B.length:Nat):Int)+1))))):=fun c o e=>by
         have hne:c≠ia:=fun z=>by rw[z,hia] at e;cases e
         rw[Z0a hne,Z0a hne]
         exact e
        have e2:upd (upd H1 ia (.dK kvs)) ia (.dK (Z2t kvs (Sum.inr x) (.int (((B.length:Nat):Int)+1)))) ia=some (.dK (Z2t kvs (Sum.inr x) (.int (((B.length:Nat):Int)+1)))):=Z00
        generalize upd (upd H1 ia (.dK kvs)) ia (.dK (Z2t kvs (Sum.inr x) (.int (((B.length:Nat):Int)+1))))=H2 at s2 e2 ⊢
        have ha2:=s2 _ _ ha
        refine⟨_,rfl,a,_,_,va,rfl,rfl,SqT.of ha2,Zmb _ _ _ _,_,rfl,_,rfl,va,la,ka,B,kvs,rfl,IsTh.kp (Kp.of s2) da,pa,s2 _ _ hla,L,by omega,by omega,fun v3 H3 s3 hv3=>?_⟩
        refine⟨_,rfl,a,_,_,vb,rfl,rfl,SqT.of (s3 _ _ ha2),Zlj _ _ _ _ _,_,rfl,_,_,rfl,rfl,_,rfl,vb,ia,kb,B ++ [x],_,?_,IsTh.kp (Kp.of (s2.trans s3)) db1,pb,s3 _ _ e2,L.push x,by omega,by rw[length_append,length_singleton];omega,fun v4 H4 s4 hv4=>⟨(by show 3<=sizeLine;decide),fun p hp=>?_⟩⟩
        ·rw[length_append,length_singleton]
         rfl
        have sp:=Z02 (o:=.tup [.str "let",v3,v4]) hp
        exact k (.ref p) _ ((s2.trans s3).trans (s4.trans sp)) (.tup Z00 (.cons (.at (by decide+kernel)) (.cons (IsTh.kp (Kp.of (s4.trans sp)) hv3) (.cons (IsTh.kp (Kp.of sp) hv4) .nil))))
    have hwl:w0≠"let":=fun z=>g (by rw[z];decide+kernel)
    rw[Z71 nk hwl hnb] at k
    refine⟨_,rfl,_,rfl,.ref a,w0,hd.map Th.at++ks,rfl,hvt,by rw[length_append,length_map];omega,fun p ws H2 s2 hp0 hp hws=>?_⟩
    rw[Z2y nk] at hws
    have hl:=IsThs.len _ hws
    refine⟨p,rfl,⟨_,SqL.of hp⟩,Z19 (K:=K) (a:=p) (xs:=ws) (fun i ys σc H'=>∃(o:Option V),σc = [some (.int (B.length:Nat)),some (.ref la),o]/\ys.length=i/\IsThs H' ys ((ks.take i).map fun k=>shT k B)/\Same H2 H')
     ⟨none,rfl,rfl,by rw[take_zero];exact .nil,Same.refl _⟩ (fun i ys σc H' ⟨_,_,_,_,e⟩=>SqL.of (e _ _ hp)) ?_ ?_⟩
    ·rintro i x ys σc H3 hx hi ⟨o,rfl,hyl,hys,s3⟩
     obtain⟨t,ht,hxt⟩:=Z1f _ hws hx
     have pt:=h6 t (mem_of_getElem? ht)
     refine⟨by omega,_,rfl,_,rfl,_,rfl,x,la,t,B,kvs,rfl,IsTh.kp (Kp.of s3) hxt,pt,s3 _ _ (s2 _ _ hla),L,by omega,by omega,fun v4 H4 s4 hv4=>nx hi ⟨_,rfl,by rw[length_append,hyl];rfl,?_,s3.trans s4⟩⟩
     rw[take_add_one,ht,map_append]
     exact IsThs.app _ (IsThs.kp (Kp.of s4) hys) (.cons hv4 .nil)
    ·rintro ys σc H3 ⟨o,rfl,hyl,hys,s3⟩ l hl'
     rw[take_of_length_le (by omega)] at hys
     have sl:=Z02 (o:=.lst ys) hl'
     have sA:=s2.trans (s3.trans sl)
     refine⟨.ref a,l,_,_,ys,rfl,IsTh.kp (Kp.of sA) hvt,by rw[length_cons,length_append,length_map];omega,Z00,IsThs.kp (Kp.of sl) hys,by rw[length_map];omega,fun q H4 s4 hq=>?_⟩
     rw[Z6n nk] at hq
     exact k (.ref q) H4 (sA.trans s4) hq
end
theorem Zja {S:SS}:∀(n:Nat) {t:Th},PfT S n t->∀(B C:List Str) (z:Str),z∈frT t B->(z∈C->z∈B)->z∈frT t C:=by
 intro n
 induction n with
 |zero=>intro t h;exact h.elim
 |succ n ih=>
  intro t h B C z hz hBC
  rcases h.cases with ⟨x,a,b,rfl,_,ha,hb⟩|⟨w,hd,ks,rfl,hw,sh,h1,h5,h6⟩
  ·rw[Zbg ha.isTup hb.isTup] at hz ⊢
   rcases mem_append.mp hz with q|q
   ·exact mem_append_left _ (ih ha B C z q hBC)
   ·refine mem_append_right _ (ih hb _ _ z q fun y=>?_)
    rcases mem_append.mp y with y|y
    ·exact mem_append_left _ (hBC y)
    ·exact mem_append_right _ y
  ·have nk:∀k∈ks,L2.isTup k=true:=fun k hk=>(h6 k hk).isTup
   rw[Zgs nk hw] at hz ⊢
   rcases mem_append.mp hz with q|q
   ·refine mem_append_left _ ?_
    unfold frO at q ⊢
    split at q
    ·next c=>
     rw[mem_singleton] at q
     rw[if_pos]
     ·rw[q];simp
     ·rcases c with c|c
      ·exact .inl c
      ·exact .inr ⟨c.1,fun y=>c.2 (q▸hBC (q▸y))⟩
    ·cases q
   ·refine mem_append_right _ ?_
    obtain⟨l,hl,hx⟩:=mem_flatten.mp q
    obtain⟨k,hk,rfl⟩:=mem_map.mp hl
    exact mem_flatten.mpr ⟨_,mem_map.mpr ⟨k,hk,rfl⟩,ih (h6 k hk) B C z hx hBC⟩
theorem Zmn {S:SS}:∀(n:Nat) {t:Th},PfT S n t->∀B,∀x∈frT t B,Nm x:=by
 intro n
 induction n with
 |zero=>intro t h;exact h.elim
 |succ n ih=>
  intro t h B x hx
  rcases h.cases with ⟨y,a,b,rfl,_,ha,hb⟩|⟨w,hd,ks,rfl,hw,sh,h1,h5,h6⟩
  ·rw[Zbg ha.isTup hb.isTup] at hx
   rcases mem_append.mp hx with q|q
   ·exact ih ha _ x q
   ·exact ih hb _ x q
  ·have nk:∀k∈ks,L2.isTup k=true:=fun k hk=>(h6 k hk).isTup
   rw[Zgs nk hw] at hx
   rcases mem_append.mp hx with q|q
   ·unfold frO at q
    split at q
    ·next c=>
     rw[mem_singleton] at q
     rw[Z5d] at c
     have key:w="set"∨w="name":=c.elim .inl fun z=>.inr z.1
     generalize ks.length=m at sh
     cases sh with
     |name a=>rw[q,Zch];exact a.1
     |set a=>rw[q,Zch];exact a.1
     |_=>rcases key with z|z <;> exact absurd z (by decide+kernel)
    ·cases q
   ·obtain⟨l,hl,hx⟩:=mem_flatten.mp q
    obtain⟨k,hk,rfl⟩:=mem_map.mp hl
    exact ih (h6 k hk) B x hx
def hv (ρ : Str->Option Str)(x:Str):Str:=(ρ x).getD x
def HOk (kvs:List (Key×V))(ρ : Str->Option Str):Prop:=∀x,Z27 kvs (Sum.inr x)=(ρ x).map V.str
theorem HOk.put {kvs:List (Key×V)}{ρ : Str->Option Str}(h:HOk kvs ρ)(x y:Str):HOk (Z2t kvs (Sum.inr x) (.str y)) (fun z=>if z=x then some y else ρ z):=fun z=>by
 show _=Option.map V.str (if z=x then some y else ρ z)
 rw[Z28]
 by_cases e:z=x
 ·rw[e,if_pos rfl,if_pos rfl];rfl
 ·rw[if_neg (by intro q;injection q with q;exact e q),if_neg e,h z]
theorem HOk.get {kvs:List (Key×V)}{ρ : Str->Option Str}(h:HOk kvs ρ)(x:Str):(Z27 kvs (Sum.inr x)).getD (.str x) = .str (hv ρ x):=by
 rw[h x]
 unfold hv
 cases ρ x <;> rfl
structure RB (B B':List Str)(ρ : Str->Option Str)(F:List Str):Prop where
 len:B.length=B'.length
 bd:∀x∈F,x∈B->hv ρ x∈B'/\lix B' (hv ρ x)=lix B x
 fr:∀x∈F,x∉B->hv ρ x=x/\x∉B'
 nm:∀x y,ρ x=some y->Nm y
theorem RB.sub {B B':List Str}{ρ : Str->Option Str}{F F':List Str}(h:RB B B' ρ F)(hs:∀x∈F',x∈F):RB B B' ρ F':=⟨h.len,fun x hx=>h.bd x (hs x hx),fun x hx=>h.fr x (hs x hx),h.nm⟩
theorem RB.push {S:SS}{n:Nat}{B B':List Str}{ρ : Str->Option Str}{b:Th}{x y:Str}(hb:PfT S n b)(h:RB B B' ρ (frT b [x]))(hy:y∉(frT b [x]).map (hv ρ))(hN:Nm y):RB (B ++ [x]) (B' ++ [y]) (fun z=>if z=x then some y else ρ z) (frT b []):=by
 have hvx:hv (fun z=>if z=x then some y else ρ z) x=y:=by
  show(if x=x then some y else ρ x).getD x=y
  rw[if_pos rfl];rfl
 have hvz:∀z,z≠x->hv (fun z=>if z=x then some y else ρ z) z=hv ρ z:=fun z hz=>by
  show(if z=x then some y else ρ z).getD z=(ρ z).getD z
  rw[if_neg hz]
 have hin:∀z∈frT b [],z≠x->z∈frT b [x]:=fun z hz hne=>Zja n hb [] [x] z hz fun q=>absurd (mem_singleton.mp q) hne
 have hyz:∀z∈frT b [],z≠x->y≠hv ρ z:=fun z hz hne q=>hy (q▸mem_map.mpr ⟨z,hin z hz hne,rfl⟩)
 refine⟨by rw[length_append,length_append,h.len];rfl,fun z hz hzB=>?_,fun z hz hzB=>?_,fun z u hu=>?_⟩
 ·rw[Z4z,Z4z]
  by_cases e:z=x
  ·rw[e,hvx,if_pos rfl,if_pos rfl]
   exact⟨by simp,h.len.symm⟩
  ·have hzB':z∈B:=by
    rcases mem_append.mp hzB with q|q
    ·exact q
    ·exact absurd (mem_singleton.mp q) e
   obtain⟨h1,h2⟩:=h.bd z (hin z hz e) hzB'
   rw[hvz z e,if_neg (hyz z hz e),if_neg (fun q=>e q.symm)]
   exact⟨mem_append_left _ h1,h2⟩
 ·have e:z≠x:=fun q=>hzB (by rw[q];simp)
  have hzB':z∉B:=fun q=>hzB (mem_append_left _ q)
  obtain⟨h1,h2⟩:=h.fr z (hin z hz e) hzB'
  rw[hvz z e]
  refine⟨h1,fun q=>?_⟩
  rcases mem_append.mp q with q|q
  ·exact h2 q
  ·exact hyz z hz e (by rw[h1];exact(mem_singleton.mp q).symm)
 ·by_cases e:z=x
  ·rw[if_pos e] at hu;cases hu;exact hN
  ·rw[if_neg e] at hu;exact h.nm z u hu
theorem RB.name {B B':List Str}{ρ : Str->Option Str}{x:Str}(h:RB B B' ρ (frT (nd "name" [.str x] []) [])):shT (nd "name" [.str (hv ρ x)] []) B'=shT (nd "name" [.str x] []) B:=by
 have hx:x∈frT (nd "name" [.str x] []) []:=by rw[Zey,if_neg (by simp)];simp
 by_cases hB:x∈B
 ·obtain⟨h1,h2⟩:=h.bd x hx hB
  rw[Zf1 hB,Zf1 h1,h2,h.len]
 ·obtain⟨h1,h2⟩:=h.fr x hx hB
  rw[h1,Z71 (fun k hk=>by cases hk) (by decide+kernel) (fun q=>h2 q.2),Z71 (fun k hk=>by cases hk) (by decide+kernel) (fun q=>hB q.2)]
  rfl
inductive spRelet_ (S:SS)(N:Nat)(vs:List V)(H:Hp)(Q:VK):Prop
 |mk (d l ha pa:Addr) (v:V) (t:Th) (ns:List Int) (n:Nat) (kvs:List (Key×V)) (ρ : Str->Option Str) (P B B':List Str) (_:vs = [.ref d,v,.ref ha,.ref pa]) (_:Feed H d l ns n) (_:n+10*cnt t<=800000000000) (_:IsTh H v t) (_:PfT S N t) (_:cnt t<=85) (_:H ha=some (.dK kvs)) (_:HOk kvs ρ) (_:kvs.length+N<=1000) (_:ha≠d) (_:H pa=some (.lst (P.map V.str))) (_:P.length<=100) (_:(∀x∈P,Nm x)) (_:RB B B' ρ (frT t [])) (_:∀(v':V) (t':Th) (n':Nat) H',IsTh H' v' t'->PfT S N t'->cnt t'=cnt t->shT t' B'=shT t B->n'<=n+10*cnt t->Feed H' d l ns n'->But d H H'->Q v' H'):spRelet_ S N vs H Q
def Zf3 (S:SS)(N:Nat):Sp:=fun vs H Q _=>spRelet_ S N vs H Q
abbrev Zll:List Str:=["_law_feed_here","_law_e","_law_held","_law_pool","_law_first","_law_shut","_law_some","_law_name_here","_law_inner"]
theorem Zjb:(["_law_feed_here","_law_held","_law_pool","_law_one"]:List Str).Nodup:=by decide+kernel
theorem Zmo:(["_law_held","_law_name_here"]:List Str).Nodup:=by decide+kernel
theorem Zmp:(["_law_shut","_law_name_here"]:List Str).Nodup:=by decide+kernel
section
variable {S:SS}{P:Program}{w:World}{K:PySem.W.Frag}{mg:Str->Option Value}{base:Heap}
theorem scRelet:FnScope Zll ["_law_feed_here","_law_e","_law_held","_law_pool"] (Z06 Z5m):=⟨rfl,rfl,rfl,by decide+kernel,rfl,by decide+kernel,by decide+kernel⟩
theorem Zgz {f fP fW fF fN fD fS:Addr}{fd dP dW dF dN dD dS:FuncData}(F:Fn K mg "_law_relet" Z5m ["_law_feed_here","_law_e","_law_held","_law_pool"] f fd)(U:HW K mg fP fW dP dW)(Y:Helpers K mg fD fS dD dS)(hdict:mg "dict"=none)
  (FF:Fn K mg "_law_free" Zc6 ["_law_e","_law_bound_here"] fF dF) (hlist:mg "list"=none) (henum:mg "enumerate"=none) (FN:Fn K mg "_law_name" Z2j ["_law_feed_here","_law_taken"] fN dN):
  ∀N,FnOk P w K mg base CX0 (N+3) f fd ["_law_feed_here","_law_e","_law_held","_law_pool"] (Zf3 S N):=by
 have GP:FnOk P w K mg base CX0 1 fP dP ["_law_e"] spLawParts:=Z1g U.P U.T U.KI
 have GW:FnOk P w K mg base CX0 1 fW dW ["_law_e","_law_inner"] spWith:=Z8b U.W U.T U.KI
 have GD:FnOk P w K mg base CX0 1 fD dD ["_law_feed_here","_law_many"] spDraw:=Z6j Y.D Y.T
 have GN:FnOk P w K mg base CX0 2 fN dN ["_law_feed_here","_law_taken"] spLawName:=Z5b FN.F Y
 have T:=U.T
 intro N
 induction N with
 |zero=>
  refine F.F.ok scRelet (fun vs H Q E h=>?_) (fun cdv A outer s H vs Q E hr h=>?_)
  ·obtain⟨d,l,ha,pa,v,t,ns,n,kvs,ρ,P,B,B',rfl,_⟩:=h
   rfl
  ·obtain⟨d,l,ha,pa,v,t,ns,n,kvs,ρ,P,B,B',rfl,_,_,_,h,_⟩:=h
   exact h.elim
 |succ N ih=>
  have GF:FnOk P w K mg base CX0 (N+2) fF dF ["_law_e","_law_bound_here"] (Zhu S N):=Zj9 FF U hlist henum N
  refine F.F.ok scRelet (fun vs H Q E h=>?_) (fun cdv A outer s H vs Q E hr h=>?_)
  ·obtain⟨d,l,ha,pa,v,t,ns,n,kvs,ρ,P,B,B',rfl,_⟩:=h
   rfl
  ·obtain⟨d,l,ha,pa,v,t,ns,n,kvs,ρ,Po,B,B',rfl,F0,hn,hv0,pf,hc,hha,HO,hkl,hhd,hpa,hPl,hPn,R,k⟩:=h
   have hsz:sizeLine=16777216:=sizeLine_eq
   have hr1:Room 1 _:=hr.mono (by omega)
   have hr2:Room 2 _:=hr.mono (by omega)
   have hrF:Room (N+2) _:=hr.mono (by omega)
   have hu:(_:Around).units+1<cLine:=Nat.lt_of_le_of_lt (Nat.add_le_add_left (by decide) _) hr.units
   have hu0:=hr.units0
   refine'⟨?tt,?body,?fin⟩
   case body=>
    refine' Z04 ?s1 ?r1
    case s1=>exact Z0x (Z0b Z1d (Z0q Z0v (pv 1) Z03 (fun _ _=>rfl)) Z09 (Z0k _)) (Z07 (Z0h (Z12 (Z17 Z09 (Z2x (Zap hu (pv 2) (Z0q Z0v (pv 1) Z03 (fun _ _=>rfl)) (Z0q Z0v (pv 1) Z03 (fun _ _=>rfl)) ⟨rfl,rfl,rfl,rfl⟩) Z01))))) Z0f
    case r1=>
     refine' Z04 ?s2 ?r2
     case s2=>
      refine' Z0x (Z0b Zbq (Z0q Z0v (pv 1) Z03 (fun _ _=>rfl)) Z09 (Z0k _)) (Z07 (Z0h (Z05 GW hr1 (by rfl) U.mW U.W.kp U.bW .nil Z0e (Z0d (pv 1) (Z08 ?c Z01))))) Z0f
      case c=>
       refine' Z1s (N':=["_law_feed_here","_law_held","_law_pool","_law_one"]) (src:=[some 0,some 2,some 3,none]) ?k1 ?k5 ?k6 ?k7
       case k1=>rfl
       case k5=>exact Z0m (Z06 Z5m) rfl Zll rfl (by decide+kernel)
       case k6=>exact Z1v (Z05 GP hr1 (by rfl) U.mP U.P.kp U.bP .nil Z0e (Z0d (pv 1) Z01))
       case k7=>exact fun cl C ex s0 H0=>⟨Z0s (i:=3) Zjb rfl (Or.inl rfl),Z24,Z05 ih hr (by rfl) F.m F.F.kp F.b .nil Z0e (Z0d (pv 0) (Z0d (pv 3) (Z0d (pv 1) (Z0d (pv 2) Z01))))⟩
     case r2=>
      refine' Z04 ?s3 ?r3
      case s3=>exact Z0c (i:=4) scRelet.nd rfl (Or.inl rfl) (Z05 ih hr (by rfl) F.m F.F.kp F.b .nil Z0e (Z0d (pv 0) (Z08 (Z0q Z0v (pv 1) Z03 (fun _ _=>rfl)) (Z0d (pv 2) (Z0d (pv 3) Z01)))))
      case r3=>
       refine' Z0l ?s4 ?r4
       case s4=>
        refine' Z0c (i:=5) scRelet.nd rfl (Or.inr rfl) (Z1s (N':=["_law_held","_law_name_here"]) (src:=[some 2,none]) ?k1 ?k5 ?k6 ?k7)
        case k1=>rfl
        case k5=>exact Z0m (Z06 Z5m) rfl Zll rfl (by decide+kernel)
        case k6=>exact Z1v (Z05 GF hrF (by rfl) FF.m FF.F.kp FF.b .nil Z0e (Z08 (Z0q Z0v (pv 1) Z03 (fun _ _=>rfl)) (Z08 (Z0y (Z08 (Z0q Z0v (pv 1) Z03 (fun _ _=>rfl)) Z01)) Z01)))
        case k7=>exact fun cl C ex s0 H0=>⟨Z0s (i:=1) Zmo rfl (Or.inl rfl),Z24,Zap hu (pv 0) (pv 1) (pv 1) ⟨rfl,rfl,rfl,rfl⟩⟩
       case r4=>
        refine' Z0l ?s5 ?r5
        case s5=>
         refine' Z35 (i:=6) (N':=["_law_shut","_law_name_here"]) (src:=[some 5,none]) ?k1 ?k2 ?k3 ?k4 ?k5 ?k6 ?k7
         case k1=>rfl
         case k2=>exact scRelet.nd
         case k3=>rfl
         case k4=>exact Or.inl rfl
         case k5=>exact Z0m (Z06 Z5m) rfl Zll rfl (by decide+kernel)
         case k6=>exact Z1v (pv 3)
         case k7=>exact fun cl C ex s0 H0=>⟨Z0s (i:=1) Zmp rfl (Or.inl rfl),Z4b (Z0b (Z4n (K:=K) rfl) (pv 1) (pv 0) (by with_unfolding_all rfl)),pv 1⟩
        case r5=>
         refine' Z04 ?s6 ?r6
         case s6=>exact Z0c (i:=7) scRelet.nd rfl (Or.inl rfl) (Z05 GN hr2 (by rfl) FN.m FN.F.kp FN.b .nil Z0e (Z0d (pv 0) (Z0d (pv 5) Z01)))
         case r6=>
          refine' Z0l ?s7 ?r7
          case s7=>exact Z0x (Z0b (Z36 hu0) (pv 6) (Z0y Z01) (Z0k _)) (Z07 (Z0c (i:=7) scRelet.nd rfl (Or.inl rfl) (Z0q Z0w (pv 6) (Z05 GD hr1 (by rfl) Y.mD Y.D.kp Y.bD .nil Z0e (Z0d (pv 0) (Z2x (Z0n Z0o (by rfl) T.len PySem.boot_len (Z0d (pv 6) Z01)) Z01))) (fun _ _=>rfl)))) Z0f
          case r7=>
           refine' Z04 ?s8 ?r8
           case s8=>exact Z0c (i:=8) scRelet.nd rfl (Or.inl rfl) (Z14 Z3r (by rfl) hdict (by decide+kernel) (Z0d (pv 2) Z01))
           case r8=>
            refine' Z04 ?s9 (Z07 ?s10)
            case s9=>exact Z22 hu (pv 8) (Z0q Z0v (pv 1) Z03 (fun _ _=>rfl)) (pv 7) (by rfl)
            case s10=>exact Z0h (Z12 (Z17 Z09 (Z0d (pv 7) (Z0d (pv 4) (Z2x (Z05 ih hr (by rfl) F.m F.F.kp F.b .nil Z0e (Z0d (pv 0) (Z08 (Z0q Z0v (pv 1) Z03 (fun _ _=>rfl)) (Z0d (pv 8) (Z0d (pv 3) Z01))))) Z01)))))
   case fin=>
    obtain⟨w0,hd,ks,rfl,h1,h2,h3,h4,h5,h6⟩:=pf
    have nk:∀y∈ks,L2.isTup y=true:=fun y hy=>(h6 y hy).isTup
    have sh:=h4.sh
    have hvt:IsTh H v (.tup (.at (.str w0)::(hd.map Th.at++ks))):=hv0
    obtain⟨a,vs,rfl,ha0,hvs⟩:=Z1b hvt
    obtain⟨vr,rfl,hvr⟩:∃vr,vs = .str w0::vr/\IsThs H vr (hd.map Th.at++ks):=by
     cases hvs with
     |cons c1 c2=>
      obtain⟨rfl,_⟩:=Z1w c1
      exact⟨_,rfl,c2⟩
    have second:∀x,hd = [.str x]->∃vr2,vr = .str x::vr2/\IsThs H vr2 ks:=fun x e=>by
     subst e
     cases hvr with
     |cons c1 c2=>
      obtain⟨rfl,_⟩:=Z1w c1
      exact⟨_,rfl,c2⟩
    have hvN:∀x,Nm x->Nm (hv ρ x):=fun x hx=>by
     unfold hv
     cases e : ρ x with
     |none=>exact hx
     |some y=>exact R.nm x y e
    refine⟨_,rfl,a,_,_,_,rfl,rfl,SqT.of ha0,Z16 _ _,rfl,_,rfl,Z1a (fun g=>?_) (fun g=>?_)⟩
    ·have hw:w0="name":=by
      have g':=of_decide_eq_true g
      injection g'
     subst hw
     obtain⟨x,rfl⟩:=h4.st (.inr rfl)
     obtain⟨vr2,rfl,_⟩:=second x rfl
     have hk0:ks = []:=eq_nil_of_length_eq_zero sh.leaf0
     subst hk0
     have hx:Nm x:=by
      cases sh with
      |name q=>exact q.1
     have hy:=hvN x hx
     refine⟨_,rfl,ha,rfl,.inl ⟨_,.inl hha⟩,_,rfl,a,_,_,.str x,rfl,rfl,SqT.of ha0,Z15 _ _ _,_,rfl,a,_,_,.str x,rfl,rfl,SqT.of ha0,Z15 _ _ _,_,DGet.k (k:=Sum.inr x) hha,?_⟩
     rw[HO.get x]
     refine⟨(by show 2<=sizeLine;decide),fun p hp=>?_⟩
     have sp:=Z02 (o:=.tup [.str "name",.str (hv ρ x)]) hp
     have c1:cnt (nd "name" [.str (hv ρ x)] [])=cnt (nd "name" [.str x] []):=by rw[Z18 nk,Z18 nk]
     exact k (.ref p) (nd "name" [.str (hv ρ x)] []) n _ (.tup Z00 (.cons (.at (by decide+kernel)) (.cons (.at (Z2k (S:=S) ⟨hy,trivial⟩)) .nil))) ((Zgc (S:=S) ⟨hy,trivial⟩).1.le (Nat.le_add_left 1 N)) c1 R.name (by omega) (F0.same sp) (But.of sp)
    have hwn:w0≠"name":=fun z=>g (by rw[z];decide+kernel)
    rw[Z18 nk] at hn hc
    refine⟨_,rfl,a,_,_,_,rfl,rfl,SqT.of ha0,Z16 _ _,rfl,_,rfl,Z1a (fun g2=>?_) (fun g2=>?_)⟩
    ·have hwl:w0≠"let":=fun z=>(by rw[z] at g2;exact absurd g2 (by decide+kernel))
     rw[Z71 nk hwl fun q=>hwn q.1,Z18 nk] at k
     refine⟨_,rfl,_,rfl,.ref a,w0,hd.map Th.at++ks,rfl,hvt,by rw[length_append,length_map];omega,fun p ws H2 s2 hp0 hp hws=>?_⟩
     rw[Z2y nk] at hws
     have hl:=IsThs.len _ hws
     have F2:=F0.same s2
     refine⟨p,rfl,⟨_,SqL.of hp⟩,Z19 (K:=K) (a:=p) (xs:=ws) (fun i ys σc H'=>∃(o:Option V) (us:List Th) (n':Nat),σc = [some (.ref d),some (.ref ha),some (.ref pa),o]/\IsThs H' ys us/\us.length=i/\(∀u∈us,PfT S N u)/\Z1o us=Z1o (ks.take i)/\(us.map fun u=>shT u B')=((ks.take i).map fun u=>shT u B)/\n'<=n+10*Z1o (ks.take i)/\Feed H' d l ns n'/\But d H2 H')
      ⟨none,[],n,rfl,.nil,rfl,(fun _ q=>by cases q),by rw[take_zero],by rw[take_zero];rfl,by omega,F2,But.refl _ _⟩ (fun i ys σc H' ⟨_,_,_,_,_,_,_,_,_,_,_,e⟩=>SqL.of (F2.lst e hp)) ?_ ?_⟩
     ·rintro i x ys σc H3 hx hi ⟨o,us,n',rfl,hys,hul,hup,huc,hus,hn',F3,b3⟩
      obtain⟨t,ht,hxt⟩:=Z1f _ hws hx
      have hm:=mem_of_getElem? ht
      have hyl:=IsThs.len _ hys
      have hct:Z1o (ks.take (i+1))=Z1o (ks.take i)+cnt t:=by
       rw[take_add_one,ht]
       exact Z2r _ _
      have hct2:=Z52 ks (i+1)
      have Rt:RB B B' ρ (frT t []):=R.sub fun x hx=>by
       rw[Zgs nk hwl]
       exact mem_append_right _ (mem_flatten.mpr ⟨_,mem_map.mpr ⟨t,hm,rfl⟩,hx⟩)
      refine⟨by omega,_,rfl,_,rfl,_,rfl,_,rfl,d,l,ha,pa,x,t,ns,n',kvs,ρ,Po,B,B',rfl,F3,by omega,IsTh.kp (b3.kp F2) hxt,h6 t hm,by omega,b3 _ _ (s2 _ _ hha) hhd,HO,by omega,hhd,F2.lst b3 (s2 _ _ hpa),hPl,hPn,Rt,fun v4 t4 n4 H4 hv4 pf4 c4 sh4 hn4 F4 b4=>?_⟩
      refine nx hi ⟨_,us ++ [t4],n4,rfl,IsThs.app _ (IsThs.kp (b4.kp F3) hys) (.cons hv4 .nil),by rw[length_append,hul];rfl,?_,?_,?_,by omega,F4,b3.trans b4⟩
      ·intro u hu
       rcases mem_append.mp hu with q|q
       ·exact hup u q
       ·rw[mem_singleton] at q;rw[q];exact pf4
      ·rw[Z2r,huc,c4,hct]
      ·rw[map_append,hus,take_add_one,ht]
       show _ ++ [shT t4 B']=_
       rw[sh4,map_append]
       rfl
     ·rintro ys σc H3 ⟨o,us,n',rfl,hys,hul,hup,huc,hus,hn',F3,b3⟩ q hq
      rw[take_of_length_le (by omega)] at huc hus hn'
      have s4:=Z02 (o:=.lst ys) hq
      have F4:=F3.same s4
      have hvt4:=IsTh.kp (Kp.of s4) (IsTh.kp (b3.kp F2) (IsTh.kp (Kp.of s2) hvt))
      refine⟨.ref a,q,_,us,ys,rfl,hvt4,by rw[length_cons,length_append,length_map];omega,Z00,IsThs.kp (Kp.of s4) hys,by omega,fun r H5 s5 hr5=>?_⟩
      rw[Za8 nk] at hr5
      have nu:∀k∈us,L2.isTup k=true:=fun k hk=>(hup k hk).isTup
      refine k _ (nd w0 hd us) n' H5 hr5 ⟨w0,hd,us,rfl,h1,h2,fun z=>absurd z hwl,(by rw[show us.length=ks.length by omega];exact h4),by omega,hup⟩ ?_ ?_ (by omega) (F4.same s5) ((But.of s2).trans (b3.trans (But.of (s4.trans s5))))
      ·rw[Z18 nu,huc]
      ·rw[Z71 nu hwl fun q=>hwn q.1,hus]
    have hw:w0="let":=by
     by_cases e:V.str w0=V.str "let"
     ·injection e
     ·exact absurd (by rw[decide_eq_false e];rfl) g2
    subst hw
    obtain⟨⟨x,rfl⟩,hk2⟩:=h3 rfl
    obtain⟨vr2,rfl,hv2⟩:=second x rfl
    match ks,hk2,h6,hv2 with
    |[ka,kb],_,h6,hv2=>
    have pA:=h6 ka (by simp)
    have pB:=h6 kb (by simp)
    have hab:Z1o [ka,kb]=cnt ka+cnt kb:=by simp [Z1o]
    rw[hab] at hn hc
    have cb:=Z3q pB
    have ca:=Z3q pA
    cases hv2 with
    | @cons va vr3 _ _ da db=>
    cases db with
    | @cons vb vr4 _ _ db1 db2=>
    cases db2
    rw[Zec pA pB,Z7t pA.isTup pB.isTup] at k
    have RA:RB B B' ρ (frT ka []):=R.sub fun z hz=>by
     rw[Zbg pA.isTup pB.isTup]
     exact mem_append_left _ hz
    have RBb:RB B B' ρ (frT kb [x]):=R.sub fun z hz=>by
     rw[Zbg pA.isTup pB.isTup]
     exact mem_append_right _ hz
    refine⟨_,rfl,_,rfl,a,_,_,va,rfl,rfl,SqT.of ha0,Zmb _ _ _ _,_,rfl,_,rfl,d,l,ha,pa,va,ka,ns,n,kvs,ρ,Po,B,B',rfl,F0,by omega,da,pA,by omega,hha,HO,by omega,hhd,hpa,hPl,hPn,RA,fun v1 t1 n1 H1 hv1 pf1 c1 sh1 hn1 F1 b1=>?_⟩
    have ha1:H1 a=some (.tup [.str "let",.str x,va,vb]):=b1.kp F0 _ _ ha0 (fun _ z=>by cases z)
    have hha1:=b1 _ _ hha hhd
    have hpa1:=F0.lst b1 hpa
    have hvb1:=IsTh.kp (b1.kp F0) db1
    have hflen:=Zez N pB [x]
    have hfnm:=Zmn N pB [x]
    refine⟨fun σ' H'=>∃(sa:Addr),σ' = [some (.ref d),some (.ref a),some (.ref ha),some (.ref pa),some v1,some (.ref sa),none,none,none]/\Same H1 H'/\H' sa=some (.lst (((frT kb [x]).map (hv ρ)).map V.str)),?_,?_⟩
    ·refine⟨_,rfl,a,_,_,vb,rfl,rfl,SqT.of ha1,Zlj _ _ _ _ _,_,rfl,a,_,_,.str x,rfl,rfl,SqT.of ha1,Z15 _ _ _,(by show 1<=sizeLine;decide),fun q hq=>?_⟩
     have sq:=Z02 (o:=.lst [.str x]) hq
     refine⟨vb,q,kb,[x],rfl,IsTh.kp (Kp.of sq) hvb1,pB,Z00,by show 1+N<=1000;omega,by omega,fun p H2 s2 hp=>?_⟩
     have s12:=sq.trans s2
     refine⟨p,rfl,⟨_,SqL.of hp⟩,Z19 (K:=K) (a:=p) (xs:=(frT kb [x]).map V.str) (fun i ys σc H'=>∃(o:Option V),σc = [some (.ref ha),o]/\ys=((((frT kb [x]).take i).map (hv ρ)).map V.str)/\H'=H2)
      ⟨none,rfl,rfl,rfl⟩ (fun i ys σc H' ⟨_,_,_,e⟩=>by rw[e];exact SqL.of hp) ?_ ?_⟩
     ·rintro i y ys σc H3 hy hi ⟨o,rfl,rfl,rfl⟩
      rw[List.getElem?_map] at hy
      obtain⟨z,hz,rfl⟩:=Option.map_eq_some_iff.mp hy
      have hil:=(List.getElem?_eq_some_iff.mp hz).1
      have hD:=s12 _ _ hha1
      refine⟨by rw[length_map,length_map,length_take];omega,_,rfl,ha,rfl,.inl ⟨_,.inl hD⟩,_,rfl,_,rfl,_,DGet.k (k:=Sum.inr z) hD,?_⟩
      rw[HO.get z]
      refine nx hi ⟨_,rfl,?_,rfl⟩
      rw[take_add_one,hz]
      simp only [map_append]
      rfl
     ·rintro ys σc H3 ⟨o,rfl,rfl,rfl⟩ q2 hq2
      refine⟨q2,rfl,s12.trans (Z02 hq2),?_⟩
      rw[Z00,length_map,List.take_length]
    rintro σ2 H2 ⟨sa,rfl,s2,hsa⟩
    have F2:=F1.same s2
    refine⟨fun σ' H'=>∃(so:Addr) (sl:List Str),σ' = [some (.ref d),some (.ref a),some (.ref ha),some (.ref pa),some v1,some (.ref sa),some (.ref so),none,none]/\Same H2 H'/\H' so=some (.lst (sl.map V.str))/\sl.length<=100/\∀y∈sl,y∈Po/\y∉(frT kb [x]).map (hv ρ),?_,?_⟩
    ·refine⟨_,rfl,pa,rfl,⟨_,SqL.of (s2 _ _ hpa1)⟩,Z19 (K:=K) (a:=pa) (xs:=Po.map V.str) (fun i ys σc H'=>∃(o:Option V) (sl:List Str),σc = [some (.ref sa),o]/\H'=H2/\ys=sl.map V.str/\sl.length<=i/\∀y∈sl,y∈Po/\y∉(frT kb [x]).map (hv ρ))
      ⟨none,[],rfl,rfl,rfl,Nat.le_refl _,(fun t ht=>by cases ht)⟩ (fun i ys σc H' ⟨_,_,_,e,_⟩=>by rw[e];exact SqL.of (s2 _ _ hpa1)) ?_ ?_⟩
     ·rintro j y ys σc H' hy hj ⟨o,sl,rfl,rfl,rfl,hsl,hsa'⟩
      obtain⟨t,ht,rfl⟩:=mem_map.mp (mem_of_getElem? hy)
      have hj':j<100:=by
       rw[length_map] at hj
       omega
      refine⟨by rw[length_map];omega,?_⟩
      refine⟨_,rfl,_,rfl,sa,((frT kb [x]).map (hv ρ)).map V.str,rfl,.inl (SqL.of hsa),rfl,Z1p _,_,rfl,Z1a (fun g=>?_) (fun g=>?_)⟩
      ·refine⟨_,rfl,nx hj ⟨_,sl ++ [t],rfl,rfl,by rw[map_append];rfl,by rw[length_append,length_singleton];omega,fun u hu=>?_⟩⟩
       rcases mem_append.mp hu with y|y
       ·exact hsa' u y
       ·rw[mem_singleton] at y
        subst y
        refine⟨ht,fun z=>?_⟩
        have e:=(Z29 u _).mpr z
        rw[e] at g
        cases g
      ·exact nx hj ⟨_,sl,rfl,rfl,rfl,by omega,hsa'⟩
     ·rintro ys σc H' ⟨o,sl,rfl,rfl,rfl,hsl,hsa'⟩ q hq
      rw[length_map] at hsl
      exact⟨q,sl,rfl,Z02 hq,Z00,by omega,hsa'⟩
    rintro σ3 H3 ⟨so,sl,rfl,s3,hso,hsl,hso'⟩
    have s23:=s2.trans s3
    have F3:=F2.same s3
    refine⟨_,rfl,_,rfl,d,l,sa,ns,n1,(frT kb [x]).map (hv ρ),rfl,F3,by omega,s3 _ _ hsa,by rw[length_map];omega,fun y hy=>?_,fun y4 n4 H4 hy4 hy4s _ hn4 F4 b4=>?_⟩
    ·obtain⟨z,hz,rfl⟩:=mem_map.mp hy
     exact hvN z (hfnm z hz)
    have hso4:=F3.lst b4 hso
    refine⟨fun σ' H'=>∃(y:Str) (n':Nat),σ' = [some (.ref d),some (.ref a),some (.ref ha),some (.ref pa),some v1,some (.ref sa),some (.ref so),some (.str y),none]/\Nm y/\y∉(frT kb [x]).map (hv ρ)/\n'<=n4+1/\Feed H' d l ns n'/\But d H4 H',?_,?_⟩
    ·refine⟨_,rfl,Nat.zero_le _,fun e he=>?_⟩
     have se:=Z02 (o:=.lst []) he
     refine⟨so,e,sl.map V.str,[],rfl,rfl,SqL.of (se _ _ hso4),SqL.of Z00,Z1p sl,rfl,_,rfl,Z1a (fun g2=>?_) (fun g2=>⟨y4,n4,rfl,hy4,hy4s,by omega,F4.same se,But.of se⟩)⟩
     have hf0:0<sl.length:=by
      cases sl with
      |nil=>exact absurd g2 (by decide)
      |cons=>exact Nat.succ_pos _
     have hl1:((sl.map V.str).length:Int)=(sl.length:Int):=by rw[length_map]
     refine⟨_,rfl,_,rfl,_,rfl,so,sl.map V.str,rfl,.inl (SqL.of (se _ _ hso4)),d,l,ns,n4,_,rfl,F4.same se,by omega,by show(0:Int)<((sl.map V.str).length:Int);omega,by show((sl.map V.str).length:Int)<18446744073709551616;omega,fun q n5 H5 q0 q1 hn5 F5 b5=>?_⟩
     obtain⟨vx,hvx,hat⟩:=Z2w (xs:=sl.map V.str) (i:=q) q0 q1
     obtain⟨y,hy,rfl⟩:=mem_map.mp hvx
     exact⟨so,sl.map V.str,q,.str y,rfl,rfl,SqL.of ((F4.same se).lst b5 (se _ _ hso4)),hat,y,n5,rfl,hPn y (hso' y hy).1,(hso' y hy).2,by omega,F5,(But.of se).trans b5⟩
    rintro σ5 H5 ⟨y,n5,rfl,hyN,hys,hn5,F5,b5⟩
    have b15:But d H1 H5:=(But.of s23).trans (b4.trans b5)
    have hha5:=b15 _ _ hha1 hhd
    have ha5:H5 a=some (.tup [.str "let",.str x,va,vb]):=b15.kp F1 _ _ ha1 (fun _ z=>by cases z)
    have hpa5:=F1.lst b15 hpa1
    refine⟨_,rfl,ha,_,rfl,hha5,fun ia hia=>?_⟩
    have s6:=Z02 (o:=.dK kvs) hia
    refine⟨_,rfl,_,rfl,_,rfl,a,_,_,.str x,rfl,rfl,SqT.of (s6 _ _ ha5),Z15 _ _ _,ia,_,rfl,DPut.k (k:=Sum.inr x) Z00 (by omega),?_⟩
    have hpl:=Z1n kvs (Sum.inr x) (.str y)
    have s7:Same H5 (upd (upd H5 ia (.dK kvs)) ia (.dK (Z2t kvs (Sum.inr x) (.str y)))):=fun c o e=>by
     have hne:c≠ia:=fun z=>by rw[z,hia] at e;cases e
     rw[Z0a hne,Z0a hne]
     exact e
    have e7:upd (upd H5 ia (.dK kvs)) ia (.dK (Z2t kvs (Sum.inr x) (.str y))) ia=some (.dK (Z2t kvs (Sum.inr x) (.str y))):=Z00
    have hid:ia≠d:=fun z=>by
     obtain⟨w,hw⟩:=F5.dc
     rw[z,hw] at hia
     cases hia
    generalize upd (upd H5 ia (.dK kvs)) ia (.dK (Z2t kvs (Sum.inr x) (.str y)))=H7 at s7 e7 ⊢
    have F7:=F5.same s7
    have hvb7:=IsTh.kp (Kp.of s7) (IsTh.kp (b15.kp F1) hvb1)
    refine⟨_,rfl,_,rfl,_,rfl,_,rfl,a,_,_,vb,rfl,rfl,SqT.of (s7 _ _ ha5),Zlj _ _ _ _ _,_,rfl,_,rfl,d,l,ia,pa,vb,kb,ns,n5,_,_,Po,B ++ [x],B' ++ [y],rfl,F7,by omega,hvb7,pB,by omega,e7,HO.put x y,by omega,hid,s7 _ _ hpa5,hPl,hPn,RB.push pB RBb hys hyN,fun v8 t8 n8 H8 hv8 pf8 c8 sh8 hn8 F8 b8=>⟨(by show 4<=sizeLine;decide),fun p hp=>?_⟩⟩
    have sp:=Z02 (o:=.tup [.str "let",.str y,v1,v8]) hp
    have hv1':=IsTh.kp (Kp.of sp) (IsTh.kp (b8.kp F7) (IsTh.kp (Kp.of s7) (IsTh.kp (b15.kp F1) hv1)))
    refine k (.ref p) (nd "let" [.str y] [t1,t8]) n8 _ (.tup Z00 (.cons (.at (by decide+kernel)) (.cons (.at (Z2k (S:=S) ⟨hyN,trivial⟩)) (.cons hv1' (.cons (IsTh.kp (Kp.of sp) hv8) .nil))))) (Zeb ⟨hyN,trivial⟩ pf1 pf8) ?_ ?_ (by omega) (F8.same sp) (b1.trans (b15.trans ((But.of s7).trans (b8.trans (But.of sp)))))
    ·rw[Zec pf1 pf8,c1,c8]
    ·rw[Z7t pf1.isTup pf8.isTup,sh1,sh8]
end
mutual
def lf:Th->Bool
 | .at v=>lfV v
 | .tup xs=>lfs xs
 | .lst _=>false
def lfs:List Th->Bool
 |[]=>true
 |x::xs=>lf x&&lfs xs
end
theorem Zf4:∀ts:List Th,lfs ts=true↔∀t∈ts,lf t=true:=by
 intro ts
 induction ts with
 |nil=>simp [lfs]
 |cons t ts ih=>rw[lfs,Bool.and_eq_true,ih];simp
theorem Zf5 {i:Int}(h:i.natAbs<10 ^ 12):i.natAbs.log2<1920:=by
 by_cases h0:i.natAbs=0
 ·rw[h0];decide
 ·have h1:i.natAbs<2 ^ 40:=Nat.lt_of_lt_of_le h (by decide)
  have:=(Nat.log2_lt h0).mpr h1
  omega
mutual
theorem Zl8:∀t:Th,lf t=true->(dat t).showable=true/\(dat t).leavesShort 13=true/\(dat t).bulk+1<=17*Th.sz t/\(dat t).depth=dp t
 | .at v,h=>by
  rw[lf] at h
  cases v with
  |str x=>
   have h':(decide (x.length<=16)&&x.cps.toList.all fun c=>decide (c<16 ^ 8))=true:=h
   rw[Bool.and_eq_true,decide_eq_true_iff] at h'
   have hx:x.cps.size=x.length:=rfl
   refine⟨by simp [dat,Zax,PyData.showable],?_,?_,by simp [dat,Zax,PyData.depth,dp]⟩
   ·simp only [dat,Zax,PyData.leavesShort]
    exact h'.2
   ·simp only [dat,Zax,PyData.bulk,Th.sz]
    omega
  |int i=>
   have h':i.natAbs<10 ^ 12:=of_decide_eq_true h
   refine⟨?_,?_,by simp [dat,Zax,PyData.bulk,Th.sz],by simp [dat,Zax,PyData.depth,dp]⟩
   ·simp only [dat,Zax,PyData.showable]
    exact decide_eq_true (Zf5 h')
   ·simp only [dat,Zax,PyData.leavesShort]
    exact decide_eq_true (PyData.shown_int_le h')
  |_=>exact⟨by simp [dat,Zax,PyData.showable],by simp [dat,Zax,PyData.leavesShort],by simp [dat,Zax,PyData.bulk,Th.sz],by simp [dat,Zax,PyData.depth,dp]⟩
 | .tup xs,h=>by
  rw[lf] at h
  obtain⟨h1,h2,h3,h4⟩:=Zhv xs h
  refine⟨by simpa only [dat,PyData.showable] using h1,by simpa only [dat,PyData.leavesShort] using h2,?_,?_⟩
  ·simp only [dat,PyData.bulk,Th.sz]
   omega
  ·simp only [dat,PyData.depth,dp]
   omega
 | .lst xs,h=>by rw[lf] at h;cases h
theorem Zhv:∀ts:List Th,lfs ts=true->PyData.showableAll (Z9u ts)=true/\PyData.leavesShortAll 13 (Z9u ts)=true/\PyData.bulkAll (Z9u ts)<=17*szs ts/\PyData.depthAll (Z9u ts)=dps ts
 |[],_=>by simp [Z9u,PyData.showableAll,PyData.leavesShortAll,PyData.bulkAll,szs,PyData.depthAll,dps]
 |t::ts,h=>by
  rw[lfs,Bool.and_eq_true] at h
  obtain⟨a1,a2,a3,a4⟩:=Zl8 t h.1
  obtain⟨b1,b2,b3,b4⟩:=Zhv ts h.2
  refine⟨by simp only [Z9u,PyData.showableAll,a1,b1,Bool.and_self],by simp only [Z9u,PyData.leavesShortAll,a2,b2,Bool.and_self],?_,?_⟩
  ·simp only [Z9u,PyData.bulkAll,szs]
   omega
  ·simp only [Z9u,PyData.depthAll,dps,a4,b4]
end
theorem Zl9 {A:Around}{t:Th}(h:lf t=true)(hz:Th.sz t<=65000)(hd:dp t<=100)(hu:A.units+200<cLine):(dat t).showable=true/\A.units+((dat t).depth+1)<cLine/\(dat t).shown.length<=sizeLine:=by
 obtain⟨h1,h2,h3,h4⟩:=Zl8 t h
 refine⟨h1,by omega,?_⟩
 have h5:=PyData.shown_le_bulk 13 (by decide) (dat t) h2
 have:sizeLine=16777216:=sizeLine_eq
 omega
theorem Z2o {X:Cx}{A:Around}(hA:X.A=A)(hg:A.guards=some []):Z3l X (.builtin "repr") (fun xs H Q=>∃(a:Addr) (t:Th),xs = [.ref a]/\IsTh H (.ref a) t/\((dat t).showable=true/\A.units+((dat t).depth+1)<cLine/\(dat t).shown.length<=sizeLine)/\Q (.str (dat t).shown) H):=by
 subst hA
 intro pins s σ H xs us Q I r h
 obtain⟨a,t,e,h1,⟨h2,h3,h4⟩,q⟩:=h
 exact Zdl hg pins s σ H xs us Q I r ⟨a,t,e,h1,h2,h3,h4,q⟩
theorem Zhw {l:List V}(h:l.length<=1):szs (l.map Th.at)<=1/\dps (l.map Th.at)=0:=by
 cases l with
 |nil=>exact⟨by simp [szs],by simp [dps]⟩
 |cons v l=>
  cases l with
  |nil=>exact⟨by simp [szs,Th.sz],by simp [dps,L2.dp]⟩
  |cons u l=>exact absurd (Nat.le_of_succ_le_succ h) (Nat.not_succ_le_zero _)
theorem Z7v {S:SS}:∀(n:Nat) {t:Th},PfT S n t->Th.sz t<=3*cnt t:=by
 intro n
 induction n with
 |zero=>intro t h;exact h.elim
 |succ n ih=>
  intro t h
  obtain⟨w,hd,ks,rfl,h1,h2,h3,h4,h5,h6⟩:=h
  have h7:∀ks:List Th,(∀k∈ks,PfT S n k)->szs ks<=3*Z1o ks:=by
   intro ks
   induction ks with
   |nil=>intro _;rw[szs,Z1o];exact Nat.le_refl _
   |cons k ks ih2=>
    intro hk
    have e1:=ih (hk k (mem_cons_self ..))
    have e2:=ih2 fun u hu=>hk u (mem_cons_of_mem _ hu)
    rw[szs,Z1o]
    omega
  have h8:=(Zhw h1).1
  have h9:=h7 ks h6
  rw[Zik,Z18 fun k hk=>(h6 k hk).isTup]
  omega
theorem Zla {S:SS}:∀(n:Nat) {t:Th},PfT S n t->∀B:List Str,B.length+n<=1000->lf (shT t B)=true/\Th.sz (shT t B)<=3*cnt t/\dp (shT t B)<=n:=by
 intro n
 induction n with
 |zero=>intro t h;exact h.elim
 |succ n ih=>
  intro t h B hB
  have me:=h
  rcases h.cases with ⟨x,a,b,rfl,_,ha,hb⟩|⟨w,hd,ks,rfl,hw,sh,h1,h5,h6⟩
  ·obtain⟨a1,a2,a3⟩:=ih ha B (by omega)
   obtain⟨b1,b2,b3⟩:=ih hb (B ++ [x]) (by rw[length_append,length_singleton];omega)
   rw[Z7t ha.isTup hb.isTup,Zec ha hb]
   refine⟨?_,?_,?_⟩
   ·rw[lf,lfs,lfs,lfs,lfs,a1,b1,lf]
    decide+kernel
   ·simp only [Th.sz,szs]
    omega
   ·rw[L2.dp,dps,dps,dps,dps,L2.dp]
    exact Nat.add_comm n 1▸Nat.add_le_add_left (Nat.max_le.mpr ⟨Nat.zero_le n,Nat.max_le.mpr ⟨a3,Nat.max_le.mpr ⟨b3,Nat.zero_le n⟩⟩⟩) 1
  ·have nk:∀k∈ks,L2.isTup k=true:=fun k hk=>(h6 k hk).isTup
   rw[Zes nk hw,Z18 nk]
   have hh:lfs (shH (nd w hd ks) (Z46 (nd w hd ks) B))=true/\szs (shH (nd w hd ks) (Z46 (nd w hd ks) B))<=2/\dps (shH (nd w hd ks) (Z46 (nd w hd ks) B))=0:=by
    have num2:∀(u:Str) (i:Int),lfV (.str u)=true->i.natAbs<10 ^ 12->lfs [.at (.str u),.at (.int i)]=true/\szs [.at (.str u),.at (.int i)]<=2/\dps [.at (.str u),.at (.int i)]=0:=fun u i h1 h2=>by
     refine⟨?_,by simp [szs,Th.sz],by simp [dps,L2.dp]⟩
     rw[lfs,lfs,lfs,lf,lf,h1]
     simpa [lfV] using h2
    unfold shH
    split
    ·exact⟨by decide+kernel,by simp [szs,Th.sz],by simp [dps,L2.dp]⟩
    ·split
     ·next q=>
      refine num2 _ _ (by decide+kernel) ?_
      have:Z46 (nd w hd ks) B<=B.length:=by
       unfold Z46
       split <;> omega
      omega
     ·have e:Zbf (nd w hd ks) = .at (.str w)::hd.map Th.at:=Z6n nk
      rw[e]
      obtain⟨w',hd',ks0,e9,g1,g2,g3,g4,g5,g6⟩:=me
      have ee:w'=w/\hd'=hd:=by
       unfold nd at e9
       injection e9 with e
       injection e with e1 e2
       injection e1 with e1
       injection e1 with e1
       have nk0:∀k∈ks0,L2.isTup k=true:=fun k hk=>(g6 k hk).isTup
       have l1:=congrArg Z9k e2
       unfold Z9k at l1
       rw[filter_append,filter_append,Z8a,Z8a,Z6m nk,Z6m nk0,append_nil,append_nil] at l1
       exact⟨e1.symm,(Ze2 l1).symm⟩
      obtain⟨rfl,rfl⟩:=ee
      have hs:=Zhw g1
      refine⟨?_,?_,?_⟩
      ·rw[lfs,lf,g4.lw,Bool.true_and,Zf4]
       intro x hx
       obtain⟨v,hv,rfl⟩:=mem_map.mp hx
       rw[lf];exact g4.lv v hv
      ·rw[szs,Th.sz]
       omega
      ·rw[dps,L2.dp,hs.2]
       rfl
   have main:∀l:List Th,(∀k∈l,PfT S n k)->lfs (l.map fun k=>shT k B)=true/\szs (l.map fun k=>shT k B)<=3*Z1o l/\dps (l.map fun k=>shT k B)<=n:=by
    intro l
    induction l with
    |nil=>intro _;exact⟨by simp [lfs],by simp [szs],by simp [dps]⟩
    |cons k l il=>
     intro hl
     obtain⟨a1,a2,a3⟩:=ih (hl k (mem_cons_self ..)) B (by omega)
     obtain⟨b1,b2,b3⟩:=il fun y hy=>hl y (mem_cons_of_mem _ hy)
     refine⟨by rw[map_cons,lfs,a1,b1];rfl,by rw[map_cons,szs,Z1o];omega,by rw[map_cons,dps];omega⟩
   obtain⟨m1,m2,m3⟩:=main ks h6
   obtain⟨q1,q2,q3⟩:=hh
   generalize shH (nd w hd ks) (Z46 (nd w hd ks) B)=L at q1 q2 q3
   have lapp:∀a b:List Th,lfs a=true->lfs b=true->lfs (a++b)=true:=fun a b ha hb=>by
    rw[Zf4] at ha hb ⊢
    intro t ht
    rcases mem_append.mp ht with z|z
    ·exact ha t z
    ·exact hb t z
   have dapp:∀a b:List Th,dps (a++b)=max (dps a) (dps b):=by
    intro a
    induction a with
    |nil=>intro b;simp [dps]
    |cons y a ia=>intro b;rw[cons_append,dps,dps,ia];omega
   refine⟨by rw[lf];exact lapp _ _ q1 m1,by rw[Th.sz,Zdn];omega,by rw[L2.dp,dapp];omega⟩
mutual
theorem Zhx:∀t:Th,cnt t<=Th.sz t
 | .at _=>by simp [cnt]
 | .lst _=>by simp [cnt]
 | .tup xs=>by
  have:=Zf6 xs
  simp only [cnt,Th.sz]
  omega
theorem Zf6:∀ts:List Th,Z1o ts<=szs ts
 |[]=>Nat.le_refl _
 |t::ts=>by
  have:=Zhx t
  have:=Zf6 ts
  rw[Z1o,szs]
  omega
end
theorem Sh.mono {S S':SS}(hc:∀x∈S.c,x∈S'.c){w:Str}{hd:List V}{n:Nat}(h:Sh S w hd n):Sh S' w hd n:=by
 have g:∀{x},NmU S x->NmU S' x:=fun z=>⟨z.1,trivial⟩
 cases h with
 |num a b=>exact .num a b
 |name a=>exact .name (g a)
 |take=>exact .take
 |op a=>exact .op a
 |pick=>exact .pick
 |lt a=>exact .lt (g a)
 |set a=>exact .set (g a)
 |say=>exact .say
 |seq a b=>exact .seq a b
 |again a b=>exact .again a b
 |call a b c=>exact .call (hc _ a) (g b) c
theorem PfT.mono {S S':SS}(hc:∀x∈S.c,x∈S'.c):∀(n:Nat) {t:Th},PfT S n t->PfT S' n t:=by
 intro n
 induction n with
 |zero=>intro t h;exact h.elim
 |succ n ih=>
  intro t h
  obtain⟨w,hd,ks,e,h1,h2,h3,h4,h5,h6⟩:=h
  exact⟨w,hd,ks,e,h1,h2,h3,⟨h4.st,fun z=>let ⟨x,a,b⟩:=h4.ca z;⟨x,a,hc x b⟩,h4.ag,h4.lv,h4.lw,h4.sh.mono hc⟩,h5,fun k hk=>ih (h6 k hk)⟩
inductive spAll_ (S:SS)(N:Nat)(vs:List V)(H:Hp)(Q:VK):Prop
 |mk (v:V) (t:Th) (_:vs = [v]) (_:IsTh H v t) (_:PfT S N t) (_:cnt t<=5000) (_:∀(p:Addr) (ws:List V) (ls:List Th) H',Same H H'->H' p=some (.lst ws)->IsThs H' ws ls->ls.length<=cnt t->(∀u∈ls,PfT S N u/\cnt u<=cnt t)->Q (.ref p) H'):spAll_ S N vs H Q
def Zlb (S:SS)(N:Nat):Sp:=fun vs H Q _=>spAll_ S N vs H Q
section
variable {S:SS}{P:Program}{w:World}{K:PySem.W.Frag}{mg:Str->Option Value}{base:Heap}
theorem scAll:FnScope ["_law_e","_law_found","_law_one"] ["_law_e"] (Z06 Zjj):=⟨rfl,rfl,rfl,by decide+kernel,rfl,by decide+kernel,by decide+kernel⟩
theorem Zlc {f fP fW:Addr}{fd dP dW:FuncData}(F:Fn K mg "_law_all" Zjj ["_law_e"] f fd)(U:HW K mg fP fW dP dW):∀N,FnOk P w K mg base CX0 (N+2) f fd ["_law_e"] (Zlb S N):=by
 have GP:FnOk P w K mg base CX0 1 fP dP ["_law_e"] spLawParts:=Z1g U.P U.T U.KI
 intro N
 induction N with
 |zero=>
  refine F.F.ok scAll (fun vs H Q E h=>?_) (fun cdv A outer s H vs Q E hr h=>?_)
  ·obtain⟨v,t,rfl,_⟩:=h
   rfl
  ·obtain⟨v,t,rfl,_,h,_⟩:=h
   exact h.elim
 |succ N ih=>
  refine F.F.ok scAll (fun vs H Q E h=>?_) (fun cdv A outer s H vs Q E hr h=>?_)
  ·obtain⟨v,t,rfl,_⟩:=h
   rfl
  ·obtain⟨v,t,rfl,hv,pf,hc,k⟩:=h
   have hsz:sizeLine=16777216:=sizeLine_eq
   have hr1:Room 1 _:=hr.mono (by omega)
   refine'⟨?tt,?body,?fin⟩
   case body=>
    refine' Z04 ?s1 (Z04 ?s2 (Z07 ?s3))
    case s1=>exact Z0c (i:=1) scAll.nd rfl (Or.inl rfl) (Z0y (Z0d (pv 0) Z01))
    case s2=>
     refine' Z43 PassesOwn.never rfl (Z1v (Z05 GP hr1 (by rfl) U.mP U.P.kp U.bP .nil Z0e (Z0d (pv 0) Z01))) (Z0s (i:=2) scAll.nd rfl (Or.inl rfl)) (Z07 ?b)
     case b=>exact Z0c (i:=1) scAll.nd rfl (Or.inl rfl) (Z0i Z2q (pv 1) (Z05 ih hr (by rfl) F.m F.F.kp F.b .nil Z0e (Z0d (pv 2) Z01)))
    case s3=>exact Z0h (pv 1)
   case fin=>
    have me:=pf
    obtain⟨w0,hd,ks,rfl,h1,h2,h3,h4,h5,h6⟩:=pf
    have nk:∀x∈ks,L2.isTup x=true:=fun x hx=>(h6 x hx).isTup
    have hvt:IsTh H v (.tup (.at (.str w0)::(hd.map Th.at++ks))):=hv
    have hl7:(hd.map Th.at++ks).length<=1000000:=by rw[length_append,length_map];omega
    have hct:cnt (nd w0 hd ks)=1+Z1o ks:=Z18 nk
    refine⟨_,rfl,(by show 1<=sizeLine;decide),fun q0 hq0=>?_⟩
    have s0:=Z02 (o:=.lst [v]) hq0
    refine⟨_,rfl,v,w0,hd.map Th.at++ks,rfl,IsTh.kp (Kp.of s0) hvt,hl7,fun q4 ws4 H4 s4 hq40 hq4 hws4=>?_⟩
    rw[Z2y nk] at hws4
    have hw4:=IsThs.len _ hws4
    have sA:=s0.trans s4
    refine⟨q4,rfl,⟨_,SqL.of hq4⟩,Zaj (K:=K) (a:=q4) (xs:=ws4) (fun i σ H'=>∃(fa:Addr) (ys:List V) (ls:List Th) (o:Option V),σ = [some v,some (.ref fa),o]/\Same H4 H'/\H' fa=some (.lst ys)/\IsThs H' ys ls/\ls.length<=1+Z1o (ks.take i)/\∀u∈ls,PfT S (N+1) u/\cnt u<=cnt (nd w0 hd ks))
     ⟨q0,[v],[nd w0 hd ks],none,rfl,Same.refl _,s4 _ _ Z00,.cons (IsTh.kp (Kp.of sA) hv) .nil,by rw[length_singleton];omega,Z1i ⟨me,Nat.le_refl _⟩⟩ (fun i σ H' _ ⟨_,_,_,_,_,e,_⟩=>SqL.of (e _ _ hq4)) ?_ ?_⟩
    ·rintro i x σ H5 hx ⟨fa,ys,ls,o,rfl,s5,hfa,hys,hl,ha⟩
     obtain⟨u,hu,hxu⟩:=Z1f _ (IsThs.kp (Kp.of s5) hws4) hx
     have hum:=mem_of_getElem? hu
     have hcu:=Zf0 ks u hum
     have htk:Z1o (ks.take (i+1))=Z1o (ks.take i)+cnt u:=by rw[take_add_one,hu,Z8m];simp [Z1o]
     have hti:Z1o (ks.take i)<=Z1o ks:=by
      have:=Z8m (ks.take i) (ks.drop i)
      rw[take_append_drop] at this
      omega
     have hyl:=IsThs.len _ hys
     refine⟨_,rfl,_,rfl,x,u,rfl,hxu,h6 u hum,by omega,fun p6 ws6 ls6 H6 s6 hp6 hws6 l2 a6=>?_⟩
     have h6l:=IsThs.len _ hws6
     refine⟨fa,p6,ys,ws6,rfl,rfl,s6 _ _ hfa,hp6,by omega,fun q7 hq7=>?_⟩
     have s7:=Z02 (o:=.lst (ys++ws6)) hq7
     refine⟨q7,_,ls++ls6,_,rfl,(s5.trans s6).trans s7,Z00,IsThs.app _ (IsThs.kp (Kp.of (s6.trans s7)) hys) (IsThs.kp (Kp.of s7) hws6),by rw[length_append];omega,fun y hy=>?_⟩
     rcases mem_append.mp hy with z|z
     ·exact ha y z
     ·have:=(a6 y z).2
      exact⟨(a6 y z).1.up,by omega⟩
    ·rintro σ H5 ⟨fa,ys,ls,o,rfl,s5,hfa,hys,hl,ha⟩
     rw[hw4,take_of_length_le (Nat.le_refl _)] at hl
     exact⟨_,rfl,k fa ys ls H5 (sA.trans s5) hfa hys (by omega) ha⟩
end
inductive spChanged_ (S:SS)(N:Nat)(vs:List V)(H:Hp)(Q:VK):Prop
 |mk (d l ca:Addr) (v:V) (t:Th) (ns:List Int) (n:Nat) (cs:List Str) (_:vs = [.ref d,v,.ref ca]) (_:Feed H d l ns n) (_:n<=800000000000) (_:IsTh H v t) (_:PfT S N t) (_:cnt t<=5000) (_:H ca=some (.lst (cs.map V.str))) (_:1<=cs.length) (_:cs.length<=1000) (_:(∀x∈cs,x∈S.c/\NmU S x)) (_:∀(v':V) (t':Th) (n':Nat) H',IsTh H' v' t'->PfT S (N+N) t'->Th.sz t'<=3*cnt t+cnt t*(3*cnt t)->n'<=n+3->Feed H' d l ns n'->But d H H'->Q v' H'):spChanged_ S N vs H Q
def Z9s (S:SS)(N:Nat):Sp:=fun vs H Q _=>spChanged_ S N vs H Q
abbrev words4:List Str:=["op","again","call","do"]
theorem Sh.op1 {S:SS}{hd:List V}{n:Nat}(h:Sh S "op" hd n):(∃c:Nat,hd = [.str ⟨#[c]⟩])/\n=2:=by
 cases h;exact⟨⟨_,rfl⟩,rfl⟩
theorem Sh.again1 {S:SS}{hd:List V}{n:Nat}(h:Sh S "again" hd n):(∃i:Int,hd = [.int i])/\n=1:=by
 cases h;exact⟨⟨_,rfl⟩,rfl⟩
theorem Sh.do1 {S:SS}{hd:List V}{n:Nat}(h:Sh S "do" hd n):hd = []/\1<=n/\n<=6:=by
 cases h with
 |seq a b=>exact⟨rfl,a,b⟩
theorem Sh.call1 {S:SS}{hd:List V}{n:Nat}(h:Sh S "call" hd n):(∃x:Str,hd = [.str x]/\x∈S.c/\NmU S x)/\n<=6:=by
 cases h with
 |call a b c=>exact⟨⟨_,rfl,a,b⟩,c⟩
theorem Zmq:(["_law_k","_law_some"]:List Str).Nodup:=by decide+kernel
abbrev Zn3:List Str:=["_law_feed_here","_law_e","_law_calls","_law_some","_law_spots","_law_spot","_law_one","_law_way","_law_name_here"]
section
variable {S:SS}{P:Program}{w:World}{K:PySem.W.Frag}{mg:Str->Option Value}{base:Heap}{g:GenF}
theorem scChanged:FnScope Zn3 ["_law_feed_here","_law_e","_law_calls"] (Z06 Z3z):=⟨rfl,rfl,rfl,by decide+kernel,rfl,by decide+kernel,by decide+kernel⟩
theorem Zcn {f fA:Addr}{fd dA:FuncData}{N:Nat}(F:Fun K "_law_changed" "_law_changed" Z3z f fd)(G:Gen K mg g)(hmax:mg "max"=none)(FA:Fn K mg "_law_all" Zjj ["_law_e"] fA dA):FnOk P w K mg base CX0 (N+4) f fd ["_law_feed_here","_law_e","_law_calls"] (Z9s S N):=by
 have GD:FnOk P w K mg base CX0 1 g.fD g.dD ["_law_feed_here","_law_many"] spDraw:=G.gD
 have GA:FnOk P w K mg base CX0 (N+2) fA dA ["_law_e"] (Zlb S N):=Zlc FA G.X N
 have GS:FnOk P w K mg base CX0 (N+3) g.fX g.dX ["_law_e","_law_at","_law_leaf_here"] (Z40 S N N):=Z9m G.S.F G.S.b G.S.m G.X G.U.T.range G.sum G.N.F G.N.b G.N.m N N
 have T:=G.X.T
 refine F.ok scChanged (fun vs H Q E h=>?_) (fun cdv A outer s H vs Q E hr h=>?_)
 ·obtain⟨d,l,ca,v,t,ns,n,cs,rfl,_⟩:=h
  rfl
 ·obtain⟨d,l,ca,v,t,ns,n,cs,rfl,F0,hn,hv,pf,hc,hca,hc1,hc2,hcs,k⟩:=h
  have hsz:sizeLine=16777216:=sizeLine_eq
  have hr1:Room 1 _:=hr.mono (by omega)
  have hrA:Room (N+2) _:=hr.mono (by omega)
  have hu0:=hr.units0
  refine'⟨?tt,?body,?fin⟩
  case body=>
   refine' Z04 ?s1 ?r1
   case s1=>exact Z0c (i:=3) scChanged.nd rfl (Or.inr rfl) (Z05 GA hrA (by rfl) FA.m FA.F.kp FA.b .nil Z0e (Z0d (pv 1) Z01))
   case r1=>
    refine' Z0l ?s2 ?r2
    case s2=>
     refine' Z35 (i:=4) (N':=["_law_k","_law_some"]) (src:=[none,some 3]) ?k1 ?k2 ?k3 ?k4 ?k5 ?k6 ?k7
     case k1=>rfl
     case k2=>exact scChanged.nd
     case k3=>rfl
     case k4=>exact Or.inl rfl
     case k5=>exact Z0m (Z06 Z3z) rfl Zn3 rfl (by decide+kernel)
     case k6=>exact Z1y (by rfl) G.U.T.range (Z2x (Z0n Z0o (by rfl) T.len PySem.boot_len (Z0d (pv 3) Z01)) Z01)
     case k7=>exact fun cl C ex s0 H0=>⟨Z0s (i:=0) Zmq rfl (Or.inl rfl),Z4b (Z0b (Zby (K:=K) rfl) (Z0q (Zi6 (K:=K) rfl) (Z0q (Zau (K:=K) rfl) (pv 1) (pv 0) (fun _ _=>rfl)) Z03 (fun _ _=>rfl)) (Z0y (Z17 Z09 (Z17 Z09 (Z17 Z09 (Z17 Z09 Z01))))) (by with_unfolding_all rfl)),pv 0⟩
    case r2=>
     refine' Z04 ?s3 ?r3
     case s3=>exact Z0x (Z0b (Z4p hu0) (pv 4) (Z0y Z01) (Z0k _)) (Z07 (Z0h (pv 1))) Z0f
     case r3=>
      refine' Z04 ?s4 ?r4
      case s4=>exact Z0c (i:=5) scChanged.nd rfl (Or.inl rfl) (Z0q Z0w (pv 4) (Z05 GD hr1 (by rfl) G.U.mD G.U.D.kp G.U.bD .nil Z0e (Z0d (pv 0) (Z2x (Z0n Z0o (by rfl) T.len PySem.boot_len (Z0d (pv 4) Z01)) Z01))) (fun _ _=>rfl))
      case r4=>
       refine' Z04 ?s5 ?r5
       case s5=>exact Z0c (i:=6) scChanged.nd rfl (Or.inl rfl) (Z0q Z0w (pv 3) (pv 5) (fun _ _=>rfl))
       case r5=>
        refine' Z04 ?s6 ?r6
        case s6=>
         refine' Z0x (Z0b Z1d (Z0q Z0v (pv 6) Z03 (fun _ _=>rfl)) Z09 (Z0k _)) (Z07 ?e1) Z0f
         case e1=>exact Z0h (Z05 GS hr (by rfl) G.S.m G.S.F.kp G.S.b .nil Z0e (Z0d (pv 1) (Z0d (pv 5) (Z08 (Z0i Z6b (Z12 (Z17 Z09 (Z08 (Z0q Z8y Z09 (Z05 GD hr1 (by rfl) G.U.mD G.U.D.kp G.U.bD .nil Z0e (Z0d (pv 0) (Z17 Z03 Z01))) (fun _ _=>rfl)) Z01))) (Z1e Z3n (pv 6) (Z1m Z03) Z1z)) Z01))))
        case r6=>
         refine' Z04 ?s7 ?r7
         case s7=>
          refine' Z0x (Z0b Z1d (Z0q Z0v (pv 6) Z03 (fun _ _=>rfl)) Z09 (Z0k _)) (Z07 ?e1) Z0f
          case e1=>exact Z0h (Z05 GS hr (by rfl) G.S.m G.S.F.kp G.S.b .nil Z0e (Z0d (pv 1) (Z0d (pv 5) (Z08 (Z0i Z6b (Z12 (Z17 Z09 (Z2x (Z05 GD hr1 (by rfl) G.U.mD G.U.D.kp G.U.bD .nil Z0e (Z0d (pv 0) (Z17 Z03 Z01))) Z01))) (Z1e Z3n (pv 6) (Z1m Z03) Z1z)) Z01))))
         case r7=>
          refine' Z04 ?s8 ?r8
          case s8=>
           refine' Z0x (Z0b Z1d (Z0q Z0v (pv 6) Z03 (fun _ _=>rfl)) Z09 (Z0k _)) (Z07 ?e1) Z0f
           case e1=>exact Z0h (Z05 GS hr (by rfl) G.S.m G.S.F.kp G.S.b .nil Z0e (Z0d (pv 1) (Z0d (pv 5) (Z08 (Z1e Z3n (pv 6) Z1z (Z1m (Z0n (id:="max") (Z8s rfl) (by rfl) hmax (by decide+kernel) (Z17 Z03 (Z08 (Z0i Z1l (Z0n Z0o (by rfl) T.len PySem.boot_len (Z0d (pv 6) Z01)) Z03) Z01))))) Z01))))
          case r8=>
           refine' Z04 ?s9 ?r9
           case s9=>exact Z0c (i:=7) scChanged.nd rfl (Or.inl rfl) (Z05 GD hr1 (by rfl) G.U.mD G.U.D.kp G.U.bD .nil Z0e (Z0d (pv 0) (Z17 Z03 Z01)))
           case r9=>
            refine' Z04 ?s10 (Z07 ?s11)
            case s10=>exact Z0c (i:=8) scChanged.nd rfl (Or.inl rfl) (Z0q Z0w (pv 2) (Z05 GD hr1 (by rfl) G.U.mD G.U.D.kp G.U.bD .nil Z0e (Z0d (pv 0) (Z2x (Z0n Z0o (by rfl) T.len PySem.boot_len (Z0d (pv 2) Z01)) Z01))) (fun _ _=>rfl))
            case s11=>
             refine' Z0h (Z05 GS hr (by rfl) G.S.m G.S.F.kp G.S.b .nil Z0e (Z0d (pv 1) (Z0d (pv 5) (Z08 ?x Z01))))
             case x=>
              refine' Z0q Z0w (Z0y (Z08 ?y (Z08 ?z Z01))) (pv 7) (fun _ _=>rfl)
              case y=>exact Z0i Z6b (Z12 (Z17 Z09 (Z0d (pv 8) Z01))) (Z1e Z3n (pv 6) (Z1m Z03) Z1z)
              case z=>exact Z1e Z3n (pv 6) Z1z (Z1m (Z0n (id:="max") (Z8s rfl) (by rfl) hmax (by decide+kernel) (Z17 Z03 (Z08 (Z0i Z1l (Z0n Z0o (by rfl) T.len PySem.boot_len (Z0d (pv 6) Z01)) Z03) Z01))))
  case fin=>
   have last:∀(vl:V) (l0:Th) (H9:Hp) (n9:Nat) (z:Int),IsTh H9 vl l0->PfT S N l0->cnt l0<=cnt t->Feed H9 d l ns n9->n9<=n+3->But d H H9->Z40 S N N [v,.int z,vl] H9 Q E0:=fun vl l0 H9 n9 z h1 h2 h3 F9 hn9 b9=>
    ⟨v,vl,z,t,l0,rfl,IsTh.kp (b9.kp F0) hv,pf,h1,h2,fun v' t' H' s' hv' p' z'=>k v' t' n9 H' hv' p' (by
     have a1:=Z7v N pf
     have a2:=Z7v N h2
     have a3:cnt t*Th.sz l0<=cnt t*(3*cnt t):=Nat.mul_le_mul_left _ (by omega)
     unfold bdS at z'
     omega) hn9 (F9.same s') (b9.trans (But.of s'))⟩
   refine⟨_,rfl,v,t,rfl,hv,pf,hc,fun pA ws ls H1 s1 hpA hws hll hla=>?_⟩
   have hwl:=IsThs.len _ hws
   refine⟨fun σ' H'=>∃(sa:Addr) (is:List Int),σ' = [some (.ref d),some v,some (.ref ca),some (.ref pA),some (.ref sa),none,none,none,none]/\Same H1 H'/\H' sa=some (.lst (is.map V.int))/\is.length<=ls.length/\∀i∈is,∃(q:Nat) (u:Th),i=(q:Int)/\ls[q]? = some u/\wd u∈words4,?_,?_⟩
   ·refine⟨_,rfl,pA,_,rfl,.inl (SqL.of hpA),_,rfl,by omega,by omega,Z55 (lo:=0) (n:=((ws.length:Nat):Int).toNat) (fun j ys σc H'=>∃(o:Option V) (is:List Int),σc = [o,some (.ref pA)]/\Same H1 H'/\ys=is.map V.int/\is.length<=j/\∀i∈is,∃(q:Nat) (u:Th),i=(q:Int)/\ls[q]? = some u/\wd u∈words4)
     ⟨none,[],rfl,Same.refl _,rfl,Nat.le_refl _,fun i hi=>by cases hi⟩ ?_ ?_⟩
    ·rintro j ys σc H' hj ⟨o,is,rfl,s',rfl,hil,hia⟩
     rw[Int.toNat_natCast] at hj
     have hjl:j<ls.length:=by omega
     have hu:ls[j]? = some ls[j]:=List.getElem?_eq_getElem hjl
     obtain⟨pu,_⟩:=hla _ (getElem_mem hjl)
     obtain⟨x,hx,hxt⟩:∃x,ws[j]? = some x/\IsTh H1 x ls[j]:=by
      obtain⟨u,hu2,h2⟩:=Z1f _ hws (List.getElem?_eq_getElem hj)
      rw[hu] at hu2
      cases hu2
      exact⟨_,List.getElem?_eq_getElem hj,h2⟩
     obtain⟨N',rfl⟩:∃N',N=N'+1:=by
      cases N with
      |zero=>exact pu.elim
      |succ N'=>exact⟨N',rfl⟩
     obtain⟨w0,hd,ks,eu,_⟩:=pu
     rw[eu] at hxt
     obtain⟨a,vs,rfl,ha,hvs⟩:=Z1b hxt
     obtain⟨vr,rfl⟩:∃vr,vs = .str w0::vr:=by
      cases hvs with
      |cons c1 c2=>
       obtain⟨rfl,_⟩:=Z1w c1
       exact⟨_,rfl⟩
     have hat:atI ws (0+(j:Int))=some (.ref a):=by
      rw[show(0:Int)+(j:Int)=((j:Nat):Int) by omega]
      exact Z1r hx
     refine⟨by rw[length_map];omega,_,rfl,_,rfl,pA,ws,_,.ref a,rfl,rfl,SqL.of (s' _ _ hpA),hat,a,_,_,.str w0,rfl,rfl,SqT.of (s' _ _ ha),Z16 _ _,(by show 4<=sizeLine;decide),fun q hq=>?_⟩
     have sq:=Z02 (o:=.lst (words4.map V.str)) hq
     refine⟨q,words4.map V.str,rfl,.inl (SqL.of Z00),rfl,rfl,_,rfl,Z1a (fun g1=>?_) (fun g1=>?_)⟩
     ·refine⟨_,rfl,nx (by rw[Int.toNat_natCast];exact hj) ⟨_,is ++ [0+(j:Int)],rfl,s'.trans sq,by rw[map_append];rfl,by rw[length_append,length_singleton];omega,fun i hi=>?_⟩⟩
      rcases mem_append.mp hi with z|z
      ·exact hia i z
      ·rw[mem_singleton] at z
       exact⟨j,ls[j],by omega,hu,by rw[eu,Z5d];exact(Z29 w0 words4).mp g1⟩
     ·exact nx (by rw[Int.toNat_natCast];exact hj) ⟨_,is,rfl,s'.trans sq,rfl,by omega,hia⟩
    ·rintro ys σc H' ⟨o,is,rfl,s',rfl,hil,hia⟩ sa hsa
     rw[Int.toNat_natCast] at hil
     exact⟨sa,is,rfl,s'.trans (Z02 hsa),Z00,by omega,hia⟩
   rintro σ2 H2 ⟨sa,is,rfl,s2,hsa,hil,hia⟩
   have s12:=s1.trans s2
   refine⟨_,rfl,Nat.zero_le _,fun q2 hq2=>?_⟩
   have s3:=Z02 (o:=.lst []) hq2
   have s13:=s12.trans s3
   have hsa3:=s3 _ _ hsa
   have hpA3:=s3 _ _ (s2 _ _ hpA)
   have hws3:=IsThs.kp (Kp.of (s2.trans s3)) hws
   have e3:upd H2 q2 (.lst []) q2=some (.lst []):=Z00
   generalize upd H2 q2 (.lst [])=H3 at s13 hsa3 hpA3 hws3 e3 ⊢
   have F3:=F0.same s13
   refine⟨sa,q2,_,rfl,rfl,SqL.of hsa3,SqL.of e3,_,rfl,Z1a (fun _=>?_) (fun g1=>?_)⟩
   ·refine⟨_,rfl,k v t n H3 (IsTh.kp (Kp.of s13) hv) (pf.le (by omega)) ?_ (by omega) F3 (But.of s13)⟩
    have:=Z7v N pf
    omega
   have hi1:1<=is.length:=by
    cases is with
    |nil=>exact absurd rfl g1
    |cons _ _=>rw[length_cons];omega
   refine⟨_,rfl,_,rfl,_,rfl,sa,_,rfl,.inl (SqL.of hsa3),d,l,ns,n,_,rfl,F3,by omega,by rw[length_map];omega,by rw[length_map];omega,fun x n4 H4 x0 x1 hn4 F4 b4=>?_⟩
   obtain⟨vq,hvq,hat⟩:=Z2w (xs:=is.map V.int) (i:=x) x0 x1
   obtain⟨i,hi,rfl⟩:=mem_map.mp hvq
   obtain⟨q,u,rfl,hu,hwu⟩:=hia i hi
   obtain⟨pu,cu⟩:=hla u (mem_of_getElem? hu)
   have kb:=b4.kp F3
   have hpA4:=F3.lst b4 hpA3
   have hsa4:=F3.lst b4 hsa3
   have B4:But d H H4:=(But.of s13).trans b4
   have hql:q<ws.length:=by
    have:=(List.getElem?_eq_some_iff.mp hu).1
    omega
   obtain⟨u',hu',hxt⟩:=Z1f _ (IsThs.kp kb hws3) (List.getElem?_eq_getElem hql)
   rw[hu] at hu'
   cases hu'
   generalize hvx:ws[q]=vx at hxt
   refine⟨sa,_,x,.int (q:Nat),rfl,rfl,SqL.of hsa4,hat,_,rfl,_,rfl,pA,ws,_,vx,rfl,rfl,SqL.of hpA4,Z1r (by rw[List.getElem?_eq_getElem hql,hvx]),?_⟩
   obtain⟨N',rfl⟩:∃N',N=N'+1:=by
    cases N with
    |zero=>exact pu.elim
    |succ N'=>exact⟨N',rfl⟩
   obtain⟨w0,hd,ks,eu,h1,h2,h3,h4,h5,h6⟩:=pu
   subst eu
   have sh:=h4.sh
   have nk:∀y∈ks,L2.isTup y=true:=fun y hy=>(h6 y hy).isTup
   have hcu:cnt (nd w0 hd ks)=1+Z1o ks:=Z18 nk
   unfold nd at hxt
   obtain⟨a,vs,rfl,ha,hvs⟩:=Z1b hxt
   obtain⟨vr,rfl,hvr⟩:∃vr,vs = .str w0::vr/\IsThs H4 vr (hd.map Th.at++ks):=by
    cases hvs with
    |cons c1 c2=>
     obtain⟨rfl,_⟩:=Z1w c1
     exact⟨_,rfl,c2⟩
   have second:∀y,hd = [y]->∃vr2,vr=y::vr2/\IsThs H4 vr2 ks/\smallV y=true:=fun y e=>by
    subst e
    cases hvr with
    |cons c1 c2=>
     obtain⟨rfl,c3⟩:=Z1w c1
     exact⟨_,rfl,c2,c3⟩
   have tk:∀(j:Nat) (kv:List V) (H9:Hp),IsThs H9 kv ks->IsThs H9 (kv.take j) (ks.take j):=fun j kv H9 h=>Z87 j h
   have tm:∀j,∀y∈ks.take j,PfT S N' y:=fun j y hy=>h6 y (mem_of_mem_take hy)
   have tn:∀j,∀y∈ks.take j,L2.isTup y=true:=fun j y hy=>nk y (mem_of_mem_take hy)
   have hvl:=IsThs.len _ hvr
   rw[length_append,length_map] at hvl
   refine⟨_,rfl,a,_,_,_,rfl,rfl,SqT.of ha,Z16 _ _,rfl,_,rfl,Z1a (fun g2=>?_) (fun g2=>?_)⟩
   ·have hw:w0="op":=by
     have g':=of_decide_eq_true g2
     injection g'
    subst hw
    obtain⟨⟨c0,rfl⟩,hk2⟩:=sh.op1
    obtain⟨vr2,rfl,hv2,_⟩:=second _ rfl
    have hvl:vr2.length=ks.length:=IsThs.len _ hv2
    refine⟨_,rfl,_,rfl,_,rfl,d,l,ns,n4,_,rfl,F4,by omega,by decide,by decide,fun y n5 H5 y0 y1 hn5 F5 b5=>?_⟩
    obtain⟨c,hcm,hcat⟩:=Z2w (xs:=signs6.cps.toList) (i:=y) y0 (Int.lt_of_lt_of_le y1 (by decide+kernel))
    have kb5:=b5.kp F4
    have ha5:=kb5 _ _ ha (by intro q z;cases z)
    refine⟨signs6,y,c,rfl,rfl,(by decide+kernel),hcat,(by show 2<=sizeLine;decide),fun p6 hp6=>?_⟩
    have q6:=Z02 (o:=.tup [.str "op",.str ⟨#[c]⟩]) hp6
    refine⟨_,rfl,_,rfl,a,_,rfl,q6 _ _ ha5,fun p7 H7 q7 hp7=>?_⟩
    rw[Z2n (by decide) (by show 2<=_;rw[length_cons,length_cons];omega)] at hp7
    refine⟨p6,p7,_,_,rfl,rfl,q7 _ _ Z00,hp7,(by show 2+vr2.length<=_;omega),fun p8 H8 q8 hp8=>?_⟩
    have qA:=q6.trans (q7.trans q8)
    have hO:=Zho (S:=S) hcm
    have hcn:cnt (nd "op" [.str ⟨#[c]⟩] ks)=1+Z1o ks:=Z18 nk
    refine last (.ref p8) (nd "op" [.str ⟨#[c]⟩] ks) H8 n5 _ (.tup hp8 (.cons (.at hO.t) (.cons (.at (hO.s _ (by simp))) (IsThs.kp (Kp.of qA) (IsThs.kp kb5 hv2))))) (Z4i hO.l hO.p hO.n (by rw[hk2];exact hO.e) h5 h6) (by omega) (F5.same qA) (by omega) ((B4.trans b5).trans (But.of qA))
   refine⟨_,rfl,a,_,_,_,rfl,rfl,SqT.of ha,Z16 _ _,rfl,_,rfl,Z1a (fun g3=>?_) (fun g3=>?_)⟩
   ·have hw:w0="again":=by
     have g':=of_decide_eq_true g3
     injection g'
    subst hw
    obtain⟨⟨c0,rfl⟩,hk2⟩:=sh.again1
    obtain⟨vr2,rfl,hv2,_⟩:=second _ rfl
    have hvl:vr2.length=ks.length:=IsThs.len _ hv2
    refine⟨_,rfl,_,rfl,_,rfl,d,l,ns,n4,_,rfl,F4,by omega,by decide,by decide,fun y n5 H5 y0 y1 hn5 F5 b5=>⟨(by show 2<=sizeLine;decide),fun p6 hp6=>?_⟩⟩
    have kb5:=b5.kp F4
    have ha5:=kb5 _ _ ha (by intro q z;cases z)
    have q6:=Z02 (o:=.tup [.str "again",.int y]) hp6
    refine⟨_,rfl,_,rfl,a,_,rfl,q6 _ _ ha5,fun p7 H7 q7 hp7=>?_⟩
    rw[Z2n (by decide) (by show 2<=_;rw[length_cons,length_cons];omega)] at hp7
    refine⟨p6,p7,_,_,rfl,rfl,q7 _ _ Z00,hp7,(by show 2+vr2.length<=_;omega),fun p8 H8 q8 hp8=>?_⟩
    have qA:=q6.trans (q7.trans q8)
    have hcn:cnt (nd "again" [.int y] ks)=1+Z1o ks:=Z18 nk
    obtain⟨k1,rfl⟩:∃k1,ks = [k1]:=List.length_eq_one_iff.mp hk2
    exact last (.ref p8) (nd "again" [.int y] [k1]) H8 n5 _ (.tup hp8 (.cons (.at (by decide+kernel)) (.cons (.at rfl) (IsThs.kp (Kp.of qA) (IsThs.kp kb5 hv2))))) (Zb8 y0 (by omega) (h6 k1 (by simp))) (by omega) (F5.same qA) (by omega) ((B4.trans b5).trans (But.of qA))
   refine⟨_,rfl,a,_,_,_,rfl,rfl,SqT.of ha,Z16 _ _,rfl,_,rfl,Z1a (fun g4=>?_) (fun g4=>?_)⟩
   ·have hw:w0="do":=by
     have g':=of_decide_eq_true g4
     injection g'
    subst hw
    obtain⟨rfl,hk1,hk6⟩:=sh.do1
    have hvr:IsThs H4 vr ks:=hvr
    have hvl:vr.length=ks.length:=by rw[hvl];simp
    refine⟨_,rfl,_,rfl,_,rfl,_,rfl,a,_,rfl,.inr (SqT.of ha),_,_,rfl,rfl,_,_,rfl,_,rfl,a,_,rfl,ha,fun p7 H7 q7 hp7=>?_⟩
    have hz:(if ((((V.str "do"::vr).length:Nat):Int)-1)>2 then ((((V.str "do"::vr).length:Nat):Int)-1) else 2)=((max 2 vr.length:Nat):Int):=by
     rw[length_cons]
     split <;> omega
    rw[hz,Zds (by omega) (by rw[Int.toNat_natCast,length_cons];omega),Int.toNat_natCast,show max 2 vr.length=(max 2 vr.length-1)+1 by omega,take_succ_cons] at hp7
    have ht:=tk (max 2 vr.length-1) vr H4 hvr
    have hkl:(ks.take (max 2 vr.length-1)).length=max 2 vr.length-1:=by rw[length_take];omega
    have hO:=Zhn (S:=S) (n:=(ks.take (max 2 vr.length-1)).length) (by omega) (by omega)
    have hct:=Z52 ks (max 2 vr.length-1)
    have hcn:cnt (nd "do" [] (ks.take (max 2 vr.length-1)))=1+Z1o (ks.take (max 2 vr.length-1)):=Z18 (tn _)
    exact last (.ref p7) (nd "do" [] (ks.take (max 2 vr.length-1))) H7 n4 _ (.tup hp7 (.cons (.at hO.t) (IsThs.kp (Kp.of q7) ht))) (Z4i hO.l hO.p hO.n hO.e (by omega) (tm _)) (by omega) (F4.same q7) (by omega) (B4.trans (But.of q7))
   have hw:w0="call":=by
    rw[Z5d] at hwu
    simp only [mem_cons,not_mem_nil,or_false] at hwu
    rcases hwu with z|z|z|z
    ·exact absurd (by rw[z];decide+kernel) g2
    ·exact absurd (by rw[z];decide+kernel) g3
    ·exact z
    ·exact absurd (by rw[z];decide+kernel) g4
   subst hw
   obtain⟨⟨y,rfl,hyc,hyn⟩,hk6⟩:=sh.call1
   obtain⟨vr2,rfl,hv2,hy3⟩:=second _ rfl
   have hvl:vr2.length=ks.length:=IsThs.len _ hv2
   refine⟨_,rfl,d,l,ns,n4,_,rfl,F4,by omega,by decide,by decide,fun y2 n5 H5 y0 y1 hn5 F5 b5=>?_⟩
   have kb5:=b5.kp F4
   have ha5:=kb5 _ _ ha (by intro q z;cases z)
   have hca5:=F4.lst b5 (F3.lst b4 (s13 _ _ hca))
   refine⟨_,rfl,_,rfl,_,rfl,ca,_,rfl,.inl (SqL.of hca5),d,l,ns,n5,_,rfl,F5,by omega,by rw[length_map];omega,by rw[length_map];omega,fun z n6 H6 z0 z1 hn6 F6 b6=>?_⟩
   obtain⟨vn,hvn,hvat⟩:=Z2w (xs:=cs.map V.str) (i:=z) z0 z1
   obtain⟨nm,hnm,rfl⟩:=mem_map.mp hvn
   obtain⟨nc,nu⟩:=hcs nm hnm
   have kb6:=b6.kp F5
   have ha6:=kb6 _ _ ha5 (by intro q z;cases z)
   have B6:But d H H6:=(B4.trans b5).trans b6
   have hv6:IsThs H6 vr2 ks:=IsThs.kp kb6 (IsThs.kp kb5 hv2)
   refine⟨ca,_,z,.str nm,rfl,rfl,SqL.of (F5.lst b6 hca5),hvat,_,rfl,_,rfl,_,rfl,(by show 2<=sizeLine;decide),fun p7 hp7=>?_⟩
   have q7:=Z02 (o:=.tup [.str "call",.str nm]) hp7
   refine⟨_,rfl,_,rfl,a,_,rfl,q7 _ _ ha6,fun p8 H8 q8 hp8=>?_⟩
   rw[Z2n (by decide) (by show 2<=_;rw[length_cons,length_cons];omega)] at hp8
   refine⟨p7,p8,_,_,rfl,rfl,q8 _ _ Z00,hp8,(by show 2+vr2.length<=_;omega),fun p9 H9 q9 hp9=>?_⟩
   have qA:=q7.trans (q8.trans q9)
   have ha9:=qA _ _ ha6
   refine⟨_,rfl,_,rfl,a,_,rfl,.inr (SqT.of ha9),_,_,rfl,rfl,_,_,rfl,_,rfl,a,_,rfl,ha9,fun pB HB qB hpB=>⟨(by show 2<=sizeLine;decide),fun pL hpL=>?_⟩⟩
   have hz:(if ((((V.str "call" :: .str y::vr2).length:Nat):Int)-1)>2 then ((((V.str "call" :: .str y::vr2).length:Nat):Int)-1) else 2)=((max 2 (vr2.length+1):Nat):Int):=by
    rw[length_cons,length_cons]
    split <;> omega
   rw[hz,Zds (by omega) (by rw[Int.toNat_natCast,length_cons,length_cons];omega),Int.toNat_natCast,show max 2 (vr2.length+1)=(max 2 (vr2.length+1)-2)+1+1 by omega,take_succ_cons,take_succ_cons] at hpB
   have qL:=Z02 (o:=.lst [.ref p9,.ref pB]) hpL
   have qC:=(qA.trans qB).trans qL
   have hct:=Z52 ks (max 2 (vr2.length+1)-2)
   have hcn:cnt (nd "call" [.str y] (ks.take (max 2 (vr2.length+1)-2)))=1+Z1o (ks.take (max 2 (vr2.length+1)-2)):=Z18 (tn _)
   have hcm:cnt (nd "call" [.str nm] ks)=1+Z1o ks:=Z18 nk
   obtain⟨vz,hvz,hzat⟩:=Z2w (xs:=[V.ref p9,.ref pB]) (i:=y2) y0 y1
   refine⟨_,rfl,pL,_,y2,vz,rfl,rfl,SqL.of Z00,hzat,?_⟩
   have smc:smallV (.str "call")=true:=by decide+kernel
   rcases mem_cons.mp hvz with e|e
   ·subst e
    exact last (.ref p9) (nd "call" [.str nm] ks) _ n6 _ (.tup (qL _ _ (qB _ _ hp9)) (.cons (.at smc) (.cons (.at (Z2k nu)) (IsThs.kp (Kp.of qC) hv6)))) (Zaa nc nu h5 h6) (by omega) (F6.same qC) (by omega) (B6.trans (But.of qC))
   ·rw[mem_singleton] at e
    subst e
    exact last (.ref pB) (nd "call" [.str y] (ks.take (max 2 (vr2.length+1)-2))) _ n6 _ (.tup (qL _ _ hpB) (.cons (.at smc) (.cons (.at hy3) (IsThs.kp (Kp.of qC) (tk _ _ _ hv6))))) (Zaa hyc hyn (by rw[length_take];omega) (tm _)) (by omega) (F6.same qC) (by omega) (B6.trans (But.of qC))
end
end K10
namespace HT
open PySem PySem.Spec PyProof.Rows
end HT
namespace L2
open PySem PySem.Spec PyProof.Rows
end L2
namespace HT
open PySem PySem.Spec PyProof.Rows
theorem Z9t:typeLookup (.type "list") "keys"=pure none:=by rw[typeLookup_type,builtinLookup_eq_fast];kernel_rfl
section
variable {prog:Program}{w:World}{A:Around}{E:Value->Shared->Prop}
theorem getAttrQ_miss_list {s:Shared}{a:Addr}{xs:Array Value}{k:Nat}{sl:Array (Option Value)}{Q:Option Value->Shared->Prop}
  (hx:s.heap.get? a=some { cls:=.type "list",dict:=none,data:=.seq xs k,slots:=sl }) (hA:A.handled=none)
  (h:∀h' tk,(∀b o,s.heap.get? b=some o->h'.get? b=some o)->Q none { s with heap:=h',toks:=tk }):
  wpAny (model prog w) A (getAttr? (.ref a) "keys") Q E s:=by
 obtain⟨hp,g,d,tk,os⟩:=s
 have hT:∀tk',(⟨hp,g,d,tk',os⟩:Shared).TypeIs (.ref a) "list":=fun _=>⟨_,hx,rfl⟩
 have f1:=sub_AttributeError
 have f3:=F.slot_list_getattribute.lookup
 have f4:=F.slot_list_getattribute.bind (.ref a)
 have f5:=am_list_getattr_none
 unfold getAttr? getAttrBy? getAttrBy
 repeat (any_goals (first|assumption|exact hT _ | ((with_reducible show wpAny _ _ (call (Value.builtin "list.__getattribute__") _ _) _ _ _);refine call_meets F.slot_list_getattribute (hT _) am_entry_list_getattribute (F.args_list_getattribute_2 _ _) (meets_getattribute_miss_list a xs k sl "keys" _ Z9t (by decide+kernel) (by decide+kernel)) ⟨hx,hA,fun h' tk' e hx'=>?_⟩)|wp_step))
 obtain⟨t',u',he⟩:=hx'.there
 show wpAny _ _ (getattributeRaised _ _ _ _ _ _ _) _ _ _
 unfold getattributeRaised
 repeat (any_goals (first|assumption|wp_step))
 exact h _ _ hx'.keeps
end
end HT
namespace L2
open PySem PySem.Spec PyProof.Rows PySem.Builtin
theorem Z47 : entryFor table "dict.update.loop" = some Builtin.«dict.update.loop» := entryFor_of_fast (by kernel_rfl)
theorem Z2a:plainId "dict.update.loop"=true:=by decide+kernel
def Z72:List (Key×V)->List (Str×V)->List (Key×V)
 |kvs,[]=>kvs
 |kvs,(x,v)::r=>Z72 (Z2t kvs (Sum.inr x) v) r
def Zf7 (H:Hp)(ps:List V)(rows:List (Str×V)):Prop:=ps.length=rows.length/\∀(j:Nat) (y:V),ps[j]? = some y->∃q x v,y = .ref q/\rows[j]? = some (x,v)/\H q=some (.tup [.str x,v])
section
variable {X:Cx}{pins:List (Addr×Obj)}{σ:St}
theorem Zh0 {D it p:Addr}{ps:List V}{rows:List (Str×V)}{A:Around}(hA:A.handled=none){R:Result->Shared->Prop}{H0:Hp}
  (hp:SqL X.K H0 p ps) (hps:Zf7 H0 ps rows) (nD:H0 D=none) (nit:it≠D) (npD:p≠D) (hz:rows.length<=1000)
  (hR:∀s' kvs',kvs'=Z72 [] rows->Inv X pins σ (upd H0 D (.dK kvs')) s'->R (.ok (.ret .none)) s'):
  ∀(k i:Nat) (s:Shared) (kvs:List (Key×V)) (u:Tok) (n:Int),ps.length-i=k->i<=ps.length->Inv X pins σ (upd H0 D (.dK kvs)) s->Z5y X pins (upd H0 D (.dK kvs)) it->s.heap.IsListIter it p i->Z72 kvs (rows.drop i)=Z72 [] rows->kvs.length<=i →
   codeAny (model X.prog X.w) A (.builtin "dict.update.loop" ⟨[.ref D,.ref it,.int n u,.none],[]⟩) R s:=by
 have hsz:sizeLine=16777216:=sizeLine_eq
 have hpU:∀kvs,SqL X.K (upd H0 D (.dK kvs)) p ps:=by
  intro kvs
  rcases hp with (h|h)|h
  ·exact .inl (.inl (by rw[Z0a npD];exact h))
  ·refine .inl (.inr ?_)
   obtain⟨c,h⟩:=h
   first
    |exact⟨c,by rw[Z0a npD];exact h⟩
    |exact⟨c,h⟩
  ·exact .inr h
 intro k
 induction k with
 |zero=>
  intro i s kvs u n hk hi I hf Z hall hkl
  have hin:i=ps.length:=by omega
  subst hin
  obtain⟨its,r,pl,_⟩:=I.list (hpU kvs)
  have hlen:=r.length
  refine codeAny_builtin Z47 ?_
  rw[Around.under_plainId Z2a _]
  show wpAny _ A.in1 (pyNext (.ref it) >>= _) _ _ s
  refine wpAny_bind (wpAny_pyNext_list_end (A:=A.in1) hA Z pl.isList (by simp;omega) fun h' kk=>?_)
  refine wpAny_bind (m:=Dict.addKeywords D []) (wpAny_pure (wpAny_pure (hR _ kvs ?_ (I.turnedL (t':=s.toks) (ch:=[it]) (fun b o hb e=>?_) (fun b hb=>?_)))))
  ·rw[<- hall,hps.1,List.drop_length]
   rfl
  ·simp only [mem_singleton] at hb
   exact kk b o hb e
  ·rw[mem_singleton] at hb
   rw[hb]
   exact hf
 |succ k ih=>
  intro i s kvs u n hk hi I hf Z hall hkl
  have hlt:i<ps.length:=by omega
  obtain⟨its,r,pl,_⟩:=I.list (hpU kvs)
  have hlen:=r.length
  have e1:ps[i]? = some ps[i]:=List.getElem?_eq_getElem hlt
  obtain⟨u1,f1,r1⟩:=r.get e1
  obtain⟨q,x,v,ey,hrow,hq⟩:=hps.2 i _ e1
  rw[ey] at r1
  cases r1
  have hqD:q≠D:=Z0g hq nD
  refine codeAny_builtin Z47 ?_
  rw[Around.under_plainId Z2a _]
  show wpAny _ A.in1 (pyNext (.ref it) >>= _) _ _ s
  refine wpAny_bind (wpAny_pyNext_list_item (A:=A.in1) Z pl.isList (x:=.ref q) (by simpa using f1) fun h' Z' kk=>?_)
  have I1:Inv X pins σ (upd H0 D (.dK kvs)) { s with heap:=h',toks:=s.toks }:=I.turnedL (ch:=[it]) (fun b o hb e=>by
   simp only [mem_singleton] at hb
   exact(kk.2 b hb).trans e) (fun b hb=>by rw[mem_singleton] at hb;rw[hb];exact hf)
  have hq1:upd H0 D (.dK kvs) q=some (.tup [.str x,v]):=by rw[Z0a hqD];exact hq
  obtain⟨its2,r2,ht,_⟩:=I1.tuple (SqT.of hq1)
  cases r2 with
  |cons rx r3=>
   cases r3 with
   |cons rv r4=>
    cases r4
    obtain⟨o,ho,hc,m,hd⟩:=id ht
    obtain⟨zk,hdm,vs,rel,dd⟩:=Zfm I1.hok (a:=D) (by rw[Z00])
    refine wpAny_bind (wpAny_holding (wpAny_bind (wpAny_tryCatch ?_)))
    unfold Dict.pairItems
    refine wpAny_bind (wpAny_typeOf ht.typeIs ?_)
    rw[if_pos (by decide)]
    refine wpAny_bind (wpAny_seqItems ho hd (wpAny_pure ?_))
    refine wpAny_holding (wpAny_dictSet_pairs (knd:=Z13 X.prog X.w) (k:=Sum.inr x) (Z81 rx) dd (fun h2 dd2 hs2=>?_) (by rw[<- rel.length];have:=hps.1;omega))
    have hl2:(Z2t kvs (Sum.inr x) v).length<=i+1:=by have:=Z1n kvs (Sum.inr x) v;omega
    have he:∃q,h2.get? D=some q:=let ⟨q,_,_,hq,_⟩:=dd2;⟨q,hq⟩
    have I2:=Z65 (t':=s.toks+1) I1 (a:=D) (ob:=.dK (Z2t kvs (Sum.inr x) v)) (by rw[Z00];exact True.intro) hs2 he (Z97 (by have e9:=hps.1;have e8:=hlt;rw[hsz];omega) hdm (rel.put (Sum.inr x) rv) dd2)
    have eu:upd (upd H0 D (.dK kvs)) D (.dK (Z2t kvs (Sum.inr x) v))=upd H0 D (.dK (Z2t kvs (Sum.inr x) v)):=by
     funext c
     by_cases hc:c=D
     ·rw[hc,Z00,Z00]
     ·rw[Z0a hc,Z0a hc,Z0a hc]
    rw[eu] at I2
    refine wpAny_pure ⟨plainId_quiet Z2a _,?_⟩
    refine ih (i+1) _ _ _ _ (by omega) hlt I2 ?_ ?_ ?_ hl2
    ·refine⟨?_,hf.2⟩
     have:=hf.1
     rw[Z0a nit] at this ⊢
     exact this
    ·obtain⟨oi,hoi,hci,hdi⟩:=Z'
     exact⟨oi,(hs2.2 it nit).trans hoi,hci,hdi⟩
    ·have hir:i<rows.length:=by have:=hps.1;omega
     have e9:rows.drop i=(x,v)::rows.drop (i+1):=by
      rw[List.drop_eq_getElem_cons hir]
      have h1:=List.getElem?_eq_getElem hir
      rw[hrow] at h1
      rw[<- Option.some.inj h1]
     rw[<- hall,e9]
     rfl
theorem Z73 (hc:X.calm=true):Z3l X (.type "dict") (fun xs H Q=>∃(p:Addr) (ps:List V) (rows:List (Str×V)),xs = [.ref p]/\H p=some (.lst ps)/\Zf7 H ps rows/\rows.length<=1000/\∀a,H a=none->Q (.ref a) (upd H a (.dK (Z72 [] rows)))):=by
 intro pins s σ H xs us Q I r h
 obtain⟨p,ps,rows,rfl,hp,hps,hz,q⟩:=h
 obtain⟨u,rfl,rx⟩:=Z61 r
 cases rx
 refine callType_codes (Q₁:=fun obj s₁=>obj = .ref s.heap.objs.size/\s₁={ s with heap:=s.heap.push { cls:=.type "dict",data:=.dict #[] } }) F.kt_called_dict (F.kt_typeCall_dict_1 _) F.entry_dict_init (kt_code_dict_new _ ⟨rfl,rfl⟩) ?_
 rintro obj s₁ ⟨rfl,rfl⟩
 have hnew:(s.heap.push { cls:=.type "dict",data:=.dict #[] }).DictOf (Z13 X.prog X.w) s.heap.objs.size []:=Heap.DictOf.new s.heap
 have hD0:H s.heap.objs.size=none:=I.fresh
 have hpD:p≠s.heap.objs.size:=Z0g hp hD0
 have I1:Inv X pins σ (upd H s.heap.objs.size (.dK [])) { s with heap:=s.heap.push { cls:=.type "dict",data:=.dict #[] },toks:=s.toks }:=
  I.laid (fun b ob e=>Heap.get?_push_of_some _ e) (Nat.le_refl _) (Z82 s.heap I.big)
 have hp1:upd H s.heap.objs.size (.dK []) p=some (.lst ps):=by rw[Z0a hpD];exact hp
 obtain⟨zz,its,n,rv,hll,hget⟩:=I1.lstM hp1
 refine⟨hnew.typeIs,F.args_dict_init_2 _ _,?_⟩
 unfold Builtin.«dict.__init__»
 refine wpAny_bind ?_
 unfold Builtin.Dict.selfAndRest
 refine wpAny_bind (wpAny_notOrdered_dict hnew.typeIs ?_)
 show wpAny _ _ (pure (s.heap.objs.size,[Value.ref p])) _ _ _
 refine wpAny_pure ?_
 show wpAny _ _ (Builtin.Dict.updateFrom "dict.__init__" s.heap.objs.size (.ref p) [] .none) _ _ _
 unfold Builtin.Dict.updateFrom
 refine wpAny_bind (wpAny_typeOf (T:="list") ⟨_,hget,rfl⟩ ?_)
 rw[if_pos (by decide)]
 refine wpAny_bind (HT.getAttrQ_miss_list (s:={ s with heap:=s.heap.push { cls:=.type "dict",data:=.dict #[] },toks:=s.toks }) hget (I.ok.hd hc) fun h' tk kk=>?_)
 rw[if_pos (by decide)]
 refine wpAny_bind (wpAny_rule ?_)
 have I2:Inv X pins σ (upd H s.heap.objs.size (.dK [])) { s with heap:=h',toks:=tk }:=I1.kept (t':=tk) kk
 obtain⟨its2,rv2,pl2,_⟩:=I2.list (SqL.of hp1)
 refine wpAny_bind (wpAny_pyIter_list pl2.isList ?_)
 have I3:Inv X pins σ (upd H s.heap.objs.size (.dK [])) { s with heap:=h'.push { cls:=.type "list_iterator",data:=.fields #[.ref p,.int 0 0] },toks:=tk }:=I2.kept (t':=tk) fun b o e=>Heap.get?_push_of_some _ e
 have hlt:s.heap.objs.size<h'.objs.size:=by
  obtain⟨o,es,ep,ho,_⟩:=hnew
  exact Heap.lt_size (kk _ _ ho)
 refine wpAny_pure ⟨plainId_quiet Z2a _,?_⟩
 refine Zh0 (H0:=H) (D:=s.heap.objs.size) (it:=h'.objs.size) (p:=p) (A:=X.A.in1) (I.ok.hd hc) (SqL.of hp) hps hD0 (Nat.ne_of_gt hlt) hpD hz (fun s' kvs' ek I'=>⟨rfl,.ref s.heap.objs.size,_,I',rfl,by rw[ek];exact q _ hD0⟩) _ 0 _ [] _ _ rfl (Nat.zero_le _) I3 ?_ ?_ rfl (Nat.le_refl _)
 ·refine I2.fpOk (Nat.le_refl _) ?_
  exact I2.hok.fresh (Nat.le_refl _)
 ·exact⟨_,Heap.get?_push_size _ rfl,rfl,rfl⟩
end
end L2
namespace K10
open PySem L2
def CallsAt (H:Hp)(ys:List V)(ts:List Str):Prop:=ys.length=ts.length/\∀(j:Nat) (y:V),ys[j]? = some y->∃(c:Addr) (x:Str) (m:Int),y = .ref c/\ts[j]? = some x/\H c=some (.tup [.str x,.int m])/\0<=m/\m<=6
theorem CallsAt.kp {H H':Hp}{ys:List V}{ts:List Str}(k:Kp H H')(h:CallsAt H ys ts):CallsAt H' ys ts:=
 ⟨h.1,fun j y hy=>let ⟨c,x,m,h1,h2,h3,h4⟩:=h.2 j y hy;⟨c,x,m,h1,h2,k _ _ h3 (fun _ z=>by cases z),h4⟩⟩
theorem Zbl {α : Type}{l:List α}{x y : α}{j:Nat}(h:(l ++ [x])[j]? = some y):l[j]? = some y∨(j=l.length/\y=x):=by
 by_cases hj:j<l.length
 ·rw[List.getElem?_append_left hj] at h
  exact .inl h
 ·rw[List.getElem?_append_right (by omega)] at h
  have h0:j-l.length=0:=by
   cases q:j-l.length with
   |zero=>rfl
   |succ m=>rw[q] at h;simp at h
  rw[h0] at h
  exact .inr ⟨by omega,by simpa using h.symm⟩
theorem Zco:∀(ts:List Str) (kvs:List (Key×V)) (x:Str),(x∈ts∨Z27 kvs (Sum.inr x)=some (.int 1))->Z27 (Z72 kvs (ts.map fun t=>(t,V.int 1))) (Sum.inr x)=some (.int 1):=by
 intro ts
 induction ts with
 |nil=>
  intro kvs x h
  rcases h with h|h
  ·cases h
  ·exact h
 |cons t ts ih=>
  intro kvs x h
  rw[map_cons,Z72]
  refine ih _ x ?_
  by_cases e:x=t
  ·refine .inr ?_
   rw[e,Z28,if_pos rfl]
  ·rcases h with h|h
   ·rcases mem_cons.mp h with q|q
    ·exact absurd q e
    ·exact .inl q
   ·refine .inr ?_
    rw[Z28,if_neg (by intro q;injection q with q;exact e q)]
    exact h
def Zjc (M N:Nat):Sp:=fun vs H Q E=>∃S,Z7q S M N vs H Q E
def spSeedsA:Sp:=fun vs H Q E=>∃S,Zef S vs H Q E
theorem FnOk.ex {P:Program}{w:World}{K:PySem.W.Frag}{mg:Str->Option Value}{base:Heap}{CX:CXT}{k:Nat}{f:Addr}{fd:FuncData}{ps:List Str}{ι : Type}{sp : ι -> Sp}(h:∀i,FnOk P w K mg base CX k f fd ps (sp i)):
  FnOk P w K mg base CX k f fd ps (fun vs H Q E=>∃i,sp i vs H Q E):=
 ⟨fun vs H Q E ⟨i,q⟩=>(h i).len vs H Q E q,fun A outer s H args us vs Q E hr e0 hb r ⟨i,q⟩=>(h i).run A outer s H args us vs Q E hr e0 hb r q⟩
theorem Zld:(["_law_feed_here","_law_name_here"]:List Str).Nodup:=by decide+kernel
theorem Zle:(["_law_name_here","_law_many"]:List Str).Nodup:=by decide+kernel
theorem cD8:cD 8=13436920:=by decide+kernel
theorem Zjd {j:Nat}(h:j<3):∃r:Int,atI [V.int 9,.int 40,.int 25] (j:Int)=some (.int r)/\0<=r/\r<=40/\(j=2->r<=25):=by
 match j,h with
 | 0,_=>exact⟨9,Z1r (j:=0) rfl,by decide,by decide,by decide⟩
 | 1,_=>exact⟨40,Z1r (j:=1) rfl,by decide,by decide,by decide⟩
 | 2,_=>exact⟨25,Z1r (j:=2) rfl,by decide,by decide,by decide⟩
inductive spDrawn_ (vs:List V)(H:Hp)(Q:VK):Prop
 |mk (d l:Addr) (ns:List Int) (n j:Nat) (_:vs = [.ref d,.int (j:Nat)]) (_:Feed H d l ns n) (_:n<=400000000000) (_:j<3) (_:∀(q na:Addr) (v:V) (T:List Str) (S:SS) (t:Th) (n':Nat) H',H' q=some (.tup [v,.ref na])->H' na=some (.lst (T.map V.str))->1<=T.length->T.length<=20->(∀x∈T,Nm x)->IsTh H' v t->PfT S 16 t->cnt t<=80->n'<=n+13500000->Feed H' d l ns n'->But d H H'->Q (.ref q) H'):spDrawn_ vs H Q
def spDrawn:Sp:=fun vs H Q _=>spDrawn_ vs H Q
def Zh1 (N:Nat):Sp:=fun vs H Q E=>∃S,Z8d S N vs H Q E
abbrev Zmr:List Str:=["_law_feed_here","_law_turn","_law_names_here","_law_lets","_law_calls","_law_works","_law_world_here","_law_found","_law_k","_law_name_here"]
structure DrF where
 x:ExpF
 fM:Addr
 fA:Addr
 fO:Addr
 fZ:Addr
 dM:FuncData
 dA:FuncData
 dO:FuncData
 dZ:FuncData
structure Dr (K:PySem.W.Frag)(mg:Str->Option Value)(p:DrF):Prop where
 E:Exp K mg p.x
 M:Fn K mg "_law_names" Z9h ["_law_feed_here","_law_many"] p.fM p.dM
 A:Fn K mg "_law_name" Z2j ["_law_feed_here","_law_taken"] p.fA p.dA
 O:Fn K mg "_law_world" Z9i ["_law_names_here","_law_lets","_law_functions","_law_works","_law_room","_law_toil"] p.fO p.dO
 Z:Fn K mg "_law_seeds" Z9j ["_law_feed_here","_law_world_here","_law_many"] p.fZ p.dZ
section
variable {P:Program}{w:World}{K:PySem.W.Frag}{mg:Str->Option Value}{base:Heap}{p:DrF}
theorem scDrawn:FnScope Zmr ["_law_feed_here","_law_turn"] (Z06 Z6h):=⟨rfl,rfl,rfl,by decide+kernel,rfl,by decide+kernel,by decide+kernel⟩
theorem Zh2 {f:Addr}{fd:FuncData}(F:Fun K "_law_drawn" "_law_drawn" Z6h f fd)(G:Dr K mg p):
  FnOk P w K mg base CX0 25 f fd ["_law_feed_here","_law_turn"] spDrawn:=by
 have GD:FnOk P w K mg base CX0 1 p.x.g.fD p.x.g.dD ["_law_feed_here","_law_many"] spDraw:=G.E.G.gD
 have GM:FnOk P w K mg base CX0 3 p.fM p.dM ["_law_feed_here","_law_many"] spNames:=Zg6 G.M.F G.E.G.U G.A.F G.A.b G.A.m
 have GA:FnOk P w K mg base CX0 2 p.fA p.dA ["_law_feed_here","_law_taken"] spLawName:=Z5b G.A.F G.E.G.U
 have GO:FnOk P w K mg base CX0 1 p.fO p.dO ["_law_names_here","_law_lets","_law_functions","_law_works","_law_room","_law_toil"] spWorld:=Zgd G.O.F
 have GZ:FnOk P w K mg base CX0 13 p.fZ p.dZ ["_law_feed_here","_law_world_here","_law_many"] spSeedsA:=FnOk.ex fun S=>Zgh G.Z.F G.E
 have GE:FnOk P w K mg base CX0 24 p.x.fE p.x.dE ["_law_feed_here","_law_world_here","_law_bound_here","_law_below","_law_times"] (Zjc 4 8):=FnOk.ex fun S=>G.E.gE (M:=4) 8
 have GR:FnOk P w K mg base CX0 18 p.x.g.fR p.x.g.dR ["_law_e","_law_bound_here"] (Zh1 16):=FnOk.ex fun S=>G.E.G.gR 16
 refine F.ok scDrawn (fun vs H Q E h=>?_) (fun cdv A outer s H vs Q E hr h=>?_)
 ·obtain⟨d,l,ns,n,j,rfl,_⟩:=h
  rfl
 ·obtain⟨d,l,ns,n,j0,rfl,F0,hn,hj3,k⟩:=h
  have hsz:sizeLine=16777216:=sizeLine_eq
  have hu:(_:Around).units+1<cLine:=Nat.lt_of_le_of_lt (Nat.add_le_add_left (by decide) _) hr.units
  have hr1:Room 1 _:=hr.mono (by decide)
  have hr2:Room 2 _:=hr.mono (by decide)
  have hr3:Room 3 _:=hr.mono (by decide)
  have hr13:Room 13 _:=hr.mono (by decide)
  have hr18:Room 18 _:=hr.mono (by decide)
  have T:=G.E.G.U.T
  have XT:=G.E.G.X.T
  refine'⟨?tt,?body,?fin⟩
  case body=>
   refine' Z0l ?s1 ?r1
   case s1=>exact Z0c (i:=2) scDrawn.nd rfl (Or.inl rfl) (Z05 GM hr3 (by rfl) G.M.m G.M.F.kp G.M.b .nil Z0e (Z0d (pv 0) (Z08 (Z0i Z1h Z03 (Z05 GD hr1 (by rfl) G.E.G.U.mD G.E.G.U.D.kp G.E.G.U.bD .nil Z0e (Z0d (pv 0) (Z17 Z03 Z01)))) Z01)))
   case r1=>
    refine' Z0l ?s2 ?r2
    case s2=>exact Z0c (i:=3) scDrawn.nd rfl (Or.inl rfl) (Z0y (Z2x (Z05 GA hr2 (by rfl) G.A.m G.A.F.kp G.A.b .nil Z0e (Z0d (pv 0) (Z0d (pv 2) Z01))) (Z08 (Z0q Z0w (pv 2) Z03 (fun _ _=>rfl)) Z01)))
    case r2=>
     refine' Z0l ?s3 ?r3
     case s3=>
      refine' Z35 (i:=4) (N':=["_law_feed_here","_law_name_here"]) (src:=[some 0,none]) ?k1 ?k2 ?k3 ?k4 ?k5 ?k6 ?k7
      case k1=>rfl
      case k2=>exact scDrawn.nd
      case k3=>rfl
      case k4=>exact Or.inl rfl
      case k5=>exact Z0m (Z06 Z6h) rfl Zmr rfl (by decide+kernel)
      case k6=>exact Z1v (Z05 GM hr3 (by rfl) G.M.m G.M.F.kp G.M.b .nil Z0e (Z0d (pv 0) (Z17 Z03 Z01)))
      case k7=>exact fun cl C ex s0 H0=>⟨Z0s (i:=1) Zld rfl (Or.inl rfl),Z24,Z12 (Z0d (pv 1) (Z2x (Z05 GD hr1 (by rfl) G.E.G.U.mD G.E.G.U.D.kp G.E.G.U.bD .nil Z0e (Z0d (pv 0) (Z17 Z03 Z01))) Z01))⟩
     case r3=>
      refine' Z0l ?s4 ?r4
      case s4=>
       refine' Z0c (i:=5) scDrawn.nd rfl (Or.inl rfl) (Z14 (Z73 rfl) (by rfl) G.E.dict (by decide+kernel) (Z08 (Z1s (N':=["_law_name_here","_law_many"]) (src:=[none,none]) ?k1 ?k5 ?k6 ?k7) Z01))
       case k1=>rfl
       case k5=>exact Z0m (Z06 Z6h) rfl Zmr rfl (by decide+kernel)
       case k6=>exact Z1v (pv 4)
       case k7=>exact fun cl C ex s0 H0=>⟨Zbc (K:=K) (i:=0) (j:=1) rfl rfl Zle rfl (Or.inl rfl) rfl (Or.inl rfl) (Or.inr rfl) (Or.inr rfl),Z24,Z12 (Z0d (pv 0) (Z17 Z03 Z01))⟩
      case r4=>
       refine' Z04 ?s5 ?r5
       case s5=>exact Z0c (i:=6) scDrawn.nd rfl (Or.inl rfl) (Z05 GO hr1 (by rfl) G.O.m G.O.F.kp G.O.b .nil Z0e (Z0d (pv 2) (Z0d (pv 3) (Z0d (pv 4) (Z0d (pv 5) (Z08 (Z0q Z0w (Z0y (Z17 Z03 (Z17 Z03 (Z17 Z03 Z01)))) (pv 1) (fun _ _=>rfl)) (Z08 (Z0i Zh9 Z03 Z03) Z01)))))))
       case r5=>
        refine' Z04 ?s6 ?r6
        case s6=>exact Z22 hu (pv 6) Z09 (Z05 GZ hr13 (by rfl) G.Z.m G.Z.F.kp G.Z.b .nil Z0e (Z0d (pv 0) (Z0d (pv 6) (Z17 Z03 Z01)))) (by rfl)
        case r6=>
         refine' Z0l ?s7 ?r7
         case s7=>exact Z0c (i:=7) scDrawn.nd rfl (Or.inl rfl) (Z05 GE hr (by rfl) G.E.E.m G.E.E.F.kp G.E.E.b .nil Z0e (Z0d (pv 0) (Z0d (pv 6) (Z08 (Z0y Z01) (Z08 (Z0i Z1h Z03 (Z05 GD hr1 (by rfl) G.E.G.U.mD G.E.G.U.D.kp G.E.G.U.bD .nil Z0e (Z0d (pv 0) (Z17 Z03 Z01)))) (Z17 Z03 Z01))))))
         case r7=>
          refine' Z04 ?s8 (Z07 ?s9)
          case s8=>
           refine' Z43 PassesOwn.never rfl (Z1y (by rfl) T.range (Z08 (Z0i Z1x (Z05 GD hr1 (by rfl) G.E.G.U.mD G.E.G.U.D.kp G.E.G.U.bD .nil Z0e (Z0d (pv 0) (Z17 Z03 Z01))) (Z14 Z62 (by rfl) XT.int (by decide+kernel) (Z08 (Z5z Z1d (pv 1) Z03 (Z0k _)) Z01))) Z01)) (Z0s (i:=8) scDrawn.nd rfl (Or.inl rfl)) ?b
           case b=>
            refine' Z04 ?b1 (Z07 ?b2)
            case b1=>exact Z0c (i:=9) scDrawn.nd rfl (Or.inl rfl) (Z0q Z0w (Z0i Z2q (pv 2) (pv 3)) (Z05 GD hr1 (by rfl) G.E.G.U.mD G.E.G.U.D.kp G.E.G.U.bD .nil Z0e (Z0d (pv 0) (Z08 (Z0i Z1h (Z0n Z0o (by rfl) XT.len PySem.boot_len (Z0d (pv 2) Z01)) Z03) Z01))) (fun _ _=>rfl))
            case b2=>
             refine' Z0x (Z5f ?c2) (Z07 ?t) Z0f
             case c2=>exact Z05 GR hr18 (by rfl) G.E.G.R.m G.E.G.R.F.kp G.E.G.R.b .nil Z0e (Z0d (pv 7) (Z08 (Z0y (Z0d (pv 9) Z01)) Z01))
             case t=>exact Z0c (i:=7) scDrawn.nd rfl (Or.inl rfl) (Z12 (Z17 Z09 (Z0d (pv 9) (Zji (Z12 (Z17 Z09 (Z0d (pv 9) Z01))) (Z0d (pv 7) Z01)))))
          case s9=>exact Z0h (Z12 (Z0d (pv 7) (Z08 (Z0i Z2q (pv 2) (pv 3)) Z01)))
  case fin=>
   obtain⟨r,har,hr00,hr40,hr25⟩:=Zjd hj3
   generalize hz:((j0:Nat):Int)=z at har
   refine⟨fun σ' H'=>∃(nm:Addr) (T1:List Str) (n':Nat),σ' = [some (.ref d),some (.int z),some (.ref nm),none,none,none,none,none,none,none]/\H' nm=some (.lst (T1.map V.str))/\2<=T1.length/\T1.length<=5/\(∀t∈T1,Nm t)/\n'<=n+41/\Feed H' d l ns n'/\But d H H',?_,?_⟩
   ·refine⟨_,rfl,_,rfl,d,l,ns,n,_,rfl,F0,by omega,by decide,by decide,fun q n1 H1 q0 q1 hn1 F1 b1=>?_⟩
    refine⟨_,_,rfl,rfl,d,l,ns,n1,_,rfl,F1,by omega,by omega,by omega,fun nm ts n2 H2 hnm0 hnm hl ha _ hn2 F2 b2=>?_⟩
    exact⟨nm,ts,n2,rfl,hnm,by omega,by omega,ha,by omega,F2,b1.trans b2⟩
   rintro σ1 H1 ⟨nm,T1,n1,rfl,hnm1,hT2,hT5,hTn,hn1,F1,B1⟩
   refine⟨fun σ' H'=>∃(lt:Addr) (T2:List Str) (n':Nat),σ' = [some (.ref d),some (.int z),some (.ref nm),some (.ref lt),none,none,none,none,none,none]/\H' lt=some (.lst (T2.map V.str))/\T2.length=2/\(∀t∈T2,Nm t)/\H' nm=some (.lst (T1.map V.str))/\n'<=n+49/\Feed H' d l ns n'/\But d H H',?_,?_⟩
   ·refine⟨_,rfl,_,rfl,d,l,nm,ns,n1,T1,rfl,F1,by omega,hnm1,by omega,hTn,fun y n2 H2 hy _ _ hn2 F2 b2=>?_⟩
    have hnm2:=F1.lst b2 hnm1
    obtain⟨x0,hx0⟩:∃x,T1[0]? = some x:=⟨_,List.getElem?_eq_getElem (by omega)⟩
    refine⟨_,rfl,nm,_,_,.str x0,rfl,rfl,SqL.of hnm2,Z1r (j:=0) (by rw[List.getElem?_map,hx0];rfl),(by show 2<=sizeLine;decide),fun lt hlt=>?_⟩
    have sl:=Z02 (o:=.lst [.str y,.str x0]) hlt
    refine⟨lt,[y,x0],n2,rfl,Z00,rfl,Z30 hy (hTn x0 (mem_of_getElem? hx0)),sl _ _ hnm2,by omega,F2.same sl,(B1.trans b2).trans (But.of sl)⟩
   clear hnm1 F1 B1 hn1
   rintro σ2 H2 ⟨lt,T2,n2,rfl,hlt2,hTl,hT2n,hnm2,hn2,F2,B2⟩
   refine⟨fun σ' H'=>∃(ca:Addr) (cs:List V) (ts:List Str) (n':Nat),σ' = [some (.ref d),some (.int z),some (.ref nm),some (.ref lt),some (.ref ca),none,none,none,none,none]/\H' ca=some (.lst cs)/\CallsAt H' cs ts/\ts.length=2/\(∀t∈ts,Nm t)/\n'<=n+67/\Feed H' d l ns n'/\But d H2 H',?_,?_⟩
   ·refine⟨_,rfl,d,l,ns,n2,_,rfl,F2,by omega,by decide,by decide,fun na ts n3 H3 hna0 hna hl ha _ hn3 F3 b3=>?_⟩
    have hl2:ts.length=2:=by omega
    refine⟨na,rfl,⟨_,SqL.of hna⟩,Z19 (K:=K) (a:=na) (xs:=ts.map V.str) (fun i ys σc H'=>∃(o:Option V) (n':Nat),σc = [some (.ref d),o]/\CallsAt H' ys (ts.take i)/\n'<=n3+i/\Feed H' d l ns n'/\But d H3 H')
     ⟨none,n3,rfl,⟨rfl,fun j y hy=>by simp at hy⟩,Nat.le_refl _,F3,But.of (Same.refl _)⟩ (fun i ys σc H' ⟨_,_,_,_,_,_,b⟩=>SqL.of (F3.lst b hna)) ?_ ?_⟩
    ·rintro i x ys σc H' hx hi ⟨o,n',rfl,hys,hn',F',b'⟩
     rw[List.getElem?_map] at hx
     obtain⟨t,ht,rfl⟩:=Option.map_eq_some_iff.mp hx
     have hil:i<ts.length:=(List.getElem?_eq_some_iff.mp ht).1
     have hyl:=hys.1
     rw[length_take] at hyl
     refine⟨by omega,_,rfl,_,rfl,d,l,ns,n',_,rfl,F',by omega,by decide,by decide,fun q n5 H5 q0 q1 hn5 F5 b5=>⟨(by show 2<=sizeLine;decide),fun c hc=>?_⟩⟩
     have sc:=Z02 (o:=.tup [.str t,.int q]) hc
     have hys5:=(hys.kp (b5.kp F')).kp (Kp.of sc)
     refine nx hi ⟨_,n5,rfl,⟨?_,fun j y hy=>?_⟩,by omega,F5.same sc,(b'.trans b5).trans (But.of sc)⟩
     ·rw[length_append,hyl,length_take]
      show min i ts.length+1=_
      omega
     ·rcases Zbl hy with hy|⟨rfl,rfl⟩
      ·obtain⟨c',x,m,h1,h2,h3⟩:=hys5.2 j y hy
       refine⟨c',x,m,h1,?_,h3⟩
       rw[take_add_one,ht]
       exact(List.getElem?_append_left (List.getElem?_eq_some_iff.mp h2).1).trans h2
      ·refine⟨c,t,q,rfl,?_,Z00,q0,by omega⟩
       rw[hyl,Nat.min_eq_left (by omega),List.getElem?_take]
       rw[if_pos (by omega)]
       exact ht
    ·rintro ys σc H' ⟨o,n',rfl,hys,hn',F',b'⟩ q hq
     rw[length_map,take_of_length_le (Nat.le_refl _)] at hys
     rw[length_map] at hn'
     have sq:=Z02 (o:=.lst ys) hq
     exact⟨q,ys,ts,n',rfl,Z00,hys.kp (Kp.of sq),hl2,ha,by omega,F'.same sq,(b3.trans b').trans (But.of sq)⟩
   rintro σ3 H3 ⟨ca,cs,ts,n3,rfl,hca,hcs,hts,htn,hn3,F3,b3⟩
   have hcl:=hcs.1
   let S:SS:=⟨ts,[]⟩
   have hu1:∀x∈T1,NmU S x:=fun x hx=>⟨hTn x hx,trivial⟩
   have huT2:∀x∈T2,NmU S x:=fun x hx=>⟨hT2n x hx,trivial⟩
   refine⟨fun σ' H'=>∃(wo:Addr) (kvs:List (Key×V)),σ' = [some (.ref d),some (.int z),some (.ref nm),some (.ref lt),some (.ref ca),some (.ref wo),none,none,none,none]/\H3 wo=none/\H' wo=some (.dK kvs)/\Zim S (fun _=>1) kvs/\Same H3 H',?_,?_⟩
   ·refine⟨_,rfl,ca,rfl,⟨_,SqL.of hca⟩,Z19 (K:=K) (a:=ca) (xs:=cs) (fun i ys σc H'=>∃(o o':Option V),σc = [o,o']/\Same H3 H'/\ys.length=i/\∀(j:Nat) (y:V),ys[j]? = some y->∃q x,y = .ref q/\ts[j]? = some x/\H' q=some (.tup [.str x,.int 1]))
     ⟨none,none,rfl,Same.refl _,rfl,fun j y hy=>by simp at hy⟩ (fun i ys σc H' ⟨_,_,_,e,_⟩=>SqL.of (e _ _ hca)) ?_ ?_⟩
    ·rintro i x ys σc H' hx hi ⟨o,o',rfl,s',hyl,hys⟩
     obtain⟨c,y,m,rfl,hy,hc,_,_⟩:=hcs.2 i x hx
     refine⟨by omega,c,_,rfl,SqT.of (s' _ _ hc),rfl,_,_,rfl,_,_,rfl,rfl,_,rfl,(by show 2<=sizeLine;decide),fun q hq=>?_⟩
     have sq:=Z02 (o:=.tup [.str y,.int 1]) hq
     refine nx hi ⟨_,_,rfl,s'.trans sq,by rw[length_append,hyl];rfl,fun j z hz=>?_⟩
     rcases Zbl hz with hz|⟨rfl,rfl⟩
     ·obtain⟨q',x',h1,h2,h3⟩:=hys j z hz
      exact⟨q',x',h1,h2,sq _ _ h3⟩
     ·exact⟨q,y,rfl,by rw[hyl];exact hy,Z00⟩
    ·rintro ys σc H' ⟨o,o',rfl,s',hyl,hys⟩ q hq
     have sq:=Z02 (o:=.lst ys) hq
     refine⟨q,ys,ts.map fun t=>(t,V.int 1),rfl,Z00,⟨by rw[length_map];omega,fun j y hy=>?_⟩,by rw[length_map];omega,fun wo hwo=>?_⟩
     ·obtain⟨q',x',h1,h2,h3⟩:=hys j y hy
      exact⟨q',x',.int 1,h1,by rw[List.getElem?_map,h2];rfl,sq _ _ h3⟩
     ·exact⟨wo,_,rfl,Z1u (s'.trans sq) hwo,Z00,fun x hx=>Zco ts [] x (.inl hx),(s'.trans sq).trans (Z02 hwo)⟩
   rintro σ4 H4 ⟨wo,kvs,rfl,hwo0,hwo,hwk,s4⟩
   have F4:=F3.same s4
   have B4:But d H H4:=(B2.trans b3).trans (But.of s4)
   have hnm4:=s4 _ _ (F2.lst b3 hnm2)
   have hlt4:=s4 _ _ (F2.lst b3 hlt2)
   have hca4:=s4 _ _ hca
   have hcs4:=hcs.kp (Kp.of s4)
   have hwod:wo≠d:=fun q=>by rw[q,F3.dc.choose_spec] at hwo0;cases hwo0
   refine⟨_,rfl,_,rfl,_,rfl,_,rfl,(by show 3<=sizeLine;decide),fun c0 hc0=>?_⟩
   have sc0:=Z02 (o:=.lst [.int 9,.int 40,.int 25]) hc0
   refine⟨_,rfl,c0,_,_,.int r,rfl,rfl,SqL.of Z00,har,_,_,rfl,rfl,⟨by decide,by decide,by decide⟩,nm,lt,ca,wo,r,_,rfl,fun wd sd H5 s5' hwd' hsd W5 Q5=>?_⟩
   generalize (10:Int) ^ (Int.toNat 9)=Z at W5
   have s5:=sc0.trans s5'
   have hwd:H4 wd=none:=Z1u sc0 hwd'
   have now:∀{b:Addr} {o:HO},H4 b=some o->b≠wd:=fun {b o} e q=>by rw[q,hwd] at e;cases e
   have hdw:wd≠d:=(now F4.dc.choose_spec).symm
   have hcall:∀{Hx:Hp},Kp H4 Hx->∀v∈cs,∃(c:Addr) (x:Str) (m:Int),v = .ref c/\Hx c=some (.tup [.str x,.int m])/\x∈S.c/\NmU S x/\0<=m/\m<=6:=fun {Hx} kx v hv=>by
    obtain⟨j,hj⟩:=List.getElem?_of_mem hv
    obtain⟨c,x,m,h1,h2,h3,h4,h5⟩:=hcs4.2 j v hj
    have hx:=mem_of_getElem? h2
    exact⟨c,x,m,h1,kx _ _ h3 (fun _ z=>by cases z),hx,⟨htn x hx,trivial⟩,h4,h5⟩
   have N5:Wf S 0 H5 d wd ⟨nm,lt,ca,wo,sd⟩ ⟨T1,T2,cs,[],[],fun _=>1,kvs⟩:=⟨s5 _ _ hnm4,s5 _ _ hlt4,s5 _ _ hca4,hcall (Kp.of s5),s5 _ _ hwo,hwk,hwod,now hwo,Q5,.nil,(fun t ht=>by cases ht),by show 1<=T1.length;omega,by show T1.length<=10;omega,by show T2.length<=10;omega,by show cs.length<=10;omega,Nat.zero_le _,hu1,huT2⟩
   have F5:=F4.same s5
   refine⟨_,rfl,_,rfl,S,d,l,wd,_,_,ns,n3,r,_,_,rfl,by decide,by decide,by omega,F5,W5,N5,fun sd' sv ss n6 H6 hs0 hs hss hsp hsl hn6 F6 b6=>?_⟩
   have W6:=b6 wd _ W5 hdw
   have hsl1:sv.length=1:=hsl
   have hn6':n6<=n3+10360:=hn6
   refine⟨_,rfl,wd,_,rfl,Z7p W6,?_⟩
   have k7:Kp H6 (upd H6 wd (.dK (Z0j { (⟨nm,lt,ca,wo,sd⟩:WA) with sd:=sd' } r Z))):=(But2.upd (d:=d)).kp F6 W6
   have F7:=F6.world (a2:={ (⟨nm,lt,ca,wo,sd⟩:WA) with sd:=sd' }) (r2:=r) (z2:=Z) W6
   have W7:upd H6 wd (.dK (Z0j { (⟨nm,lt,ca,wo,sd⟩:WA) with sd:=sd' } r Z)) wd=some (.dK (Z0j ⟨nm,lt,ca,wo,sd'⟩ r Z)):=Z00
   have b7:∀b o,H6 b=some o->b≠wd->upd H6 wd (.dK (Z0j { (⟨nm,lt,ca,wo,sd⟩:WA) with sd:=sd' } r Z)) b=some o:=fun b o e hb=>by rw[Z0a hb];exact e
   generalize upd H6 wd (.dK (Z0j { (⟨nm,lt,ca,wo,sd⟩:WA) with sd:=sd' } r Z))=H7 at k7 F7 W7 b7
   have k46:Kp H4 H6:=fun b o e hk=>b6.kp F5 _ _ (s5 _ _ e) hk
   have k47:Kp H4 H7:=fun b o e hk=>k7 _ _ (k46 _ _ e hk) hk
   have N7:Wf S 4 H7 d wd ⟨nm,lt,ca,wo,sd'⟩ ⟨T1,T2,cs,sv,ss,fun _=>1,kvs⟩:=⟨k47 _ _ hnm4 (fun _ z=>by cases z),k47 _ _ hlt4 (fun _ z=>by cases z),k47 _ _ hca4 (fun _ z=>by cases z),hcall k47,b7 _ _ (b6 _ _ (s5 _ _ hwo) hwod) (now hwo),hwk,hwod,now hwo,k7 _ _ hs (fun _ z=>by cases z),IsThs.kp k7 hss,hsp,by show 1<=T1.length;omega,by show T1.length<=10;omega,by show T2.length<=10;omega,by show cs.length<=10;omega,by show sv.length<=10;omega,hu1,huT2⟩
   have nm7:=k47 _ _ hnm4 (fun _ z=>by cases z)
   have lt7:=k47 _ _ hlt4 (fun _ z=>by cases z)
   have B7:∀b o,H4 b=some o->b≠d->b≠wd->H7 b=some o:=fun b o e h1 h2=>b7 _ _ (b6 _ _ (s5 _ _ e) h1) h2
   have e8:=cD8
   refine⟨fun σ' H'=>∃(v:V) (t:Th) (n':Nat),σ' = [some (.ref d),some (.int z),some (.ref nm),some (.ref lt),some (.ref ca),some (.ref wo),some (.ref wd),some v,none,none]/\IsTh H' v t/\PfT S 12 t/\(cnt t:Int)<=r+40/\n'<=n+13448000/\H' nm=some (.lst (T1.map V.str))/\H' lt=some (.lst (T2.map V.str))/\Feed H' d l ns n'/\But d H H',?_,?_⟩
   ·refine⟨_,rfl,_,rfl,Nat.zero_le _,fun c hc=>?_⟩
    have s8:=Z02 (o:=.lst []) hc
    have B8:upd H7 c (.lst []) c=some (.lst (([]:List Str).map V.str)):=Z00
    have X8:Ctx S 4 (upd H7 c (.lst [])) (upd H7 c (.lst [])) d l wd ⟨nm,lt,ca,wo,sd'⟩ ⟨T1,T2,cs,sv,ss,fun _=>1,kvs⟩ c [] ns n6 r Z:=⟨F7.same s8,s8 _ _ W7,N7.go (Kp.of s8) (But2.same s8),B8,Nat.zero_le _,(fun t ht=>by cases ht),But2.refl _ _ _⟩
    refine⟨_,rfl,d,l,ns,n6,_,rfl,X8.F,by omega,by decide,by decide,fun q n9 H9 q0 q1 hn9 F9 b9=>?_⟩
    have X9:=X8.draw b9 F9
    refine⟨_,_,rfl,rfl,S,d,l,wd,_,_,c,[],ns,n9,r,Z,_,1,rfl,by decide,by decide,by omega,by decide,by decide,?_,by omega,by decide,X9.zero,fun v t n10 r10 z10 H10 h10 p10 c10 y1 y2 hn10 C10=>?_⟩
    ·have:=Zb6 8
     omega
    refine⟨v,t,n10,rfl,h10,p10,?_,by omega,?_,?_,C10.F,fun b o e hb=>?_⟩
    ·by_cases h6:r<=6
     ·have:=y1 h6
      have:=Z3q p10
      omega
     ·have:=y2 (by omega)
      omega
    ·exact C10.b2.kp X9.F X9.W _ _ (X8.F.lst b9 (s8 _ _ nm7)) (fun _ z=>by cases z)
    ·exact C10.b2.kp X9.F X9.W _ _ (X8.F.lst b9 (s8 _ _ lt7)) (fun _ z=>by cases z)
    ·have e4:=B4 b o e hb
     have hbw:=now e4
     exact C10.b2 b o (b9 b o (s8 _ _ (B7 b o e4 hb hbw)) hb) hb hbw
   clear N7 N5 W7 W6 W5 F7 F6 F5 F4 F3 F2 B4 B7 b7 k47 k46 k7 hcall hss hsp hs Q5 nm7 lt7
   rintro σ8 H8 ⟨v,t,n8,rfl,hv,hpf,hcn,hn8,hnm8,hlt8,F8,B8⟩
   obtain⟨T,hT⟩:∃T,T=T1++T2:=⟨_,rfl⟩
   have hTm:T1.map V.str++T2.map V.str=T.map V.str:=by rw[hT,map_append]
   have hTa:∀x∈T,Nm x:=fun x hx=>by
    rw[hT] at hx
    exact(mem_append.mp hx).elim (hTn x) (hT2n x)
   have hTle:T.length=T1.length+2:=by rw[hT,length_append,hTl]
   refine⟨_,rfl,d,l,ns,n8,_,rfl,F8,by omega,by decide,by decide,fun q n9 H9 q0 q1 hn9 F9 b9=>⟨_,rfl,rfl,.inr ⟨_,rfl,_,_,rfl,rfl,.inl ⟨by omega,by omega⟩,?_⟩⟩⟩
   obtain⟨mm,hmm,hm0,hm4,hmj⟩:∃mm:Int,q*(if decide (V.int z=V.int 2)=true then (1:Int) else 0)=mm/\0<=mm/\mm<=4/\(j0≠2->mm=0):=by
    by_cases h2:j0=2
    ·refine⟨q,?_,q0,by omega,fun h=>absurd h2 h⟩
     rw[decide_eq_true (by rw[<- hz,h2];rfl),if_pos rfl,Int.mul_one]
    ·refine⟨0,?_,by decide,by decide,fun _=>rfl⟩
     rw[decide_eq_false (by intro e;injection e with e;omega),if_neg (by decide),Int.mul_zero]
   have k9:=b9.kp F8
   refine⟨mm,congrArg (fun x=>[V.int x]) hmm,by omega,by omega,Z31 (n:=mm.toNat) (fun i σ H'=>∃(v:V) (t:Th) (n':Nat) (o8 o9:Option V),σ = [some (.ref d),some (.int z),some (.ref nm),some (.ref lt),some (.ref ca),some (.ref wo),some (.ref wd),some v,o8,o9]/\IsTh H' v t/\PfT S (12+i) t/\(cnt t:Int)<=r+40+2*i/\n'<=n+13448010+i/\H' nm=some (.lst (T1.map V.str))/\H' lt=some (.lst (T2.map V.str))/\Feed H' d l ns n'/\But d H H')
    ⟨v,t,n9,none,none,rfl,IsTh.kp k9 hv,hpf,by omega,by omega,F8.lst b9 hnm8,F8.lst b9 hlt8,F9,B8.trans b9⟩ ?_ ?_⟩
   ·rintro i σ H1 hi ⟨v,t,n1,o8,o9,rfl,hv,hpf,hcn,hn1,hnm1,hlt1,F1,B1⟩
    have hi4:i<4:=by omega
    refine⟨_,rfl,_,rfl,nm,lt,_,_,rfl,rfl,hnm1,hlt1,by rw[length_map,length_map];omega,fun c hc=>?_⟩
    have sc:=Z02 (o:=.lst (T1.map V.str++T2.map V.str)) hc
    rw[hTm] at sc ⊢
    have hE:upd H1 c (.lst (T.map V.str)) c=some (.lst (T.map V.str)):=Z00
    generalize upd H1 c (.lst (T.map V.str))=H2 at sc hE ⊢
    have F2:=F1.same sc
    refine⟨_,rfl,_,rfl,nm,_,rfl,.inl (SqL.of (sc _ _ hnm1)),_,_,rfl,rfl,d,l,ns,n1,_,rfl,F2,by omega,by rw[length_map];omega,by rw[length_map];omega,fun q n3 H3 q0 q1 hn3 F3 b3=>?_⟩
    rw[length_map] at q1
    obtain⟨vx,hvx,hat⟩:=Z2w (xs:=T.map V.str) (i:=q) q0 (by rw[length_map];omega)
    obtain⟨x,hx,rfl⟩:=mem_map.mp hvx
    have hxN:=hTa x hx
    have k3:=b3.kp F2
    have hv3:=IsTh.kp k3 (IsTh.kp (Kp.of sc) hv)
    have hnm3:=F2.lst b3 (sc _ _ hnm1)
    have hlt3:=F2.lst b3 (sc _ _ hlt1)
    have B3:But d H H3:=B1.trans ((But.of sc).trans b3)
    refine⟨c,_,q,.str x,rfl,rfl,SqL.of (F2.lst b3 hE),hat,_,rfl,_,rfl,(by show 1<=sizeLine;decide),fun bl hbl=>?_⟩
    have sb:=Z02 (o:=.lst [.str x]) hbl
    refine⟨S,v,bl,t,[x],rfl,IsTh.kp (Kp.of sb) hv3,hpf.le (by omega),Z00,by show 1+16<=1000;decide,fun b H4 s4=>⟨b,rfl,?_⟩⟩
    have s34:=sb.trans s4
    refine Z1a (fun g=>?_) (fun g=>⟨v,t,n3,_,_,rfl,IsTh.kp (Kp.of s34) hv3,hpf.le (by omega),by omega,by omega,s34 _ _ hnm3,s34 _ _ hlt3,F3.same s34,B3.trans (But.of s34)⟩)
    refine⟨_,rfl,_,rfl,(by show 2<=sizeLine;decide),fun c1 hc1=>?_⟩
    have q1:=Z02 (o:=.tup [.str "name",.str x]) hc1
    refine⟨_,rfl,(by show 4<=sizeLine;decide),fun c2 hc2=>?_⟩
    have q2:=Z02 (o:=.tup [.str "let",.str x,.ref c1,v]) hc2
    have qA:=s34.trans (q1.trans q2)
    have hL:=Zgc (S:=S) (x:=x) ⟨hxN,trivial⟩
    have pN:=hL.1.le (m:=12+i) (by omega)
    have hsm:=Z2k (S:=S) (t:=x) ⟨hxN,trivial⟩
    refine⟨.ref c2,nd "let" [.str x] [nd "name" [.str x] [],t],n3,_,_,rfl,.tup Z00 (.cons (.at (by decide+kernel)) (.cons (.at hsm) (.cons (.tup (q2 _ _ Z00) (.cons (.at (by decide+kernel)) (.cons (.at hsm) .nil))) (.cons (IsTh.kp (Kp.of qA) hv3) .nil)))),Zeb ⟨hxN,trivial⟩ pN hpf,?_,by omega,qA _ _ hnm3,qA _ _ hlt3,F3.same qA,B3.trans (But.of qA)⟩
    rw[Zec pN hpf,hL.2]
    omega
   ·rintro σ H1 ⟨v,t,n1,o8,o9,rfl,hv,hpf,hcn,hn1,hnm1,hlt1,F1,B1⟩
    refine⟨_,rfl,_,rfl,_,rfl,nm,lt,_,_,rfl,rfl,hnm1,hlt1,by rw[length_map,length_map];omega,fun c hc=>⟨(by show 2<=sizeLine;decide),fun q hq=>?_⟩⟩
    have sc:=Z02 (o:=.lst (T1.map V.str++T2.map V.str)) hc
    have sq:=Z02 (o:=.tup [v,.ref c]) hq
    have s2:=sc.trans sq
    refine k q c v T S t n1 _ Z00 (by rw[<- hTm];exact sq _ _ Z00) (by omega) (by omega) hTa (IsTh.kp (Kp.of s2) hv) (hpf.le (by omega)) ?_ (by omega) (F1.same s2) (B1.trans (But.of s2))
    by_cases h2:j0=2
    ·have:=hr25 h2
     omega
    ·have:=hmj h2
     omega
end
inductive spLaw_ (K:PySem.W.Frag)(vs:List V)(H:Hp)(Q:VK):Prop
 |mk (a:Addr) (ns:List Int) (_:vs = [.ref a]) (_:SqL K H a (ns.map V.int)) (_:ns.length<=63) (_:∀H',Q (.bl true) H'):spLaw_ K vs H Q
def Zh3 (K:PySem.W.Frag):Sp:=fun vs H Q _=>spLaw_ K vs H Q
theorem Zh4 (K:PySem.W.Frag)(T:String):PySem.W.kitOne K (.type T) (.type T)=some true:=by
 unfold PySem.W.kitOne
 rw[if_pos (beq_self_eq_true _)]
abbrev Znn:List Str:=["_law_script","_law_feed_here","_law_turn","_law_one","_law_names_here","_law_due","_law_other","_law_leaf_here","_law_third","_law_found"]
structure LwF where
 r:DrF
 q:BrF
 fF:Addr
 fD:Addr
 fB:Addr
 fR:Addr
 fE:Addr
 fC:Addr
 fX:Addr
 fb:Addr
 fs:Addr
 dF:FuncData
 dD:FuncData
 dB:FuncData
 dR:FuncData
 dE:FuncData
 dC:FuncData
 dX:FuncData
 db:FuncData
 ds:FuncData
structure Lw (K:PySem.W.Frag)(mg:Str->Option Value)(p:LwF):Prop where
 R:Dr K mg p.r
 G:Brp K mg p.q
 F:Fn K mg "_law_feed" Zdu ["_law_script"] p.fF p.dF
 D:Fn K mg "_law_drawn" Z6h ["_law_feed_here","_law_turn"] p.fD p.dD
 B:Fn K mg "_law_bared" Z7n ["_law_e","_law_level","_law_levels"] p.fB p.dB
 L:Fn K mg "_law_relet" Z5m ["_law_feed_here","_law_e","_law_held","_law_pool"] p.fR p.dR
 E:Fn K mg "_law_free" Zc6 ["_law_e","_law_bound_here"] p.fE p.dE
 C:Fn K mg "_law_changed" Z3z ["_law_feed_here","_law_e","_law_calls"] p.fC p.dC
 X:Fn K mg "_law_all" Zjj ["_law_e"] p.fX p.dX
 b:Fn K mg "bare" Zdt ["e"] p.fb p.db
 s:Fn K mg "same" Z9g ["one","other"] p.fs p.ds
 max:mg "max"=none
 repr:mg "repr"=none
 list:mg "list"=none
 enum:mg "enumerate"=none
def Zh5 (N:Nat):Sp:=fun vs H Q E=>∃S,Zf2 S N vs H Q E
def Zh6 (N:Nat):Sp:=fun vs H Q E=>∃S,Zf3 S N vs H Q E
def Zje (N:Nat):Sp:=fun vs H Q E=>∃S,Zhs S N vs H Q E
def Zjf (N:Nat):Sp:=fun vs H Q E=>∃S,Zex S N vs H Q E
def Zh7 (N:Nat):Sp:=fun vs H Q E=>∃S,Z6o S N vs H Q E
def Zf8 (N M:Nat):Sp:=fun vs H Q E=>∃S,Z40 S N M vs H Q E
def Zcp (N:Nat):Sp:=fun vs H Q E=>∃S,Z9s S N vs H Q E
theorem Z7w {S:SS}{n:Nat}{t:Th}{B:List Str}{v:V}{H:Hp}(h:PfT S n t)(hv:IsTh H v (shT t B)):∃(a:Addr) (xs:List Th),v = .ref a/\shT t B = .tup xs:=by
 cases n with
 |zero=>exact h.elim
 |succ n=>
  obtain⟨kb,e,_⟩:=Zl4 h B
  rw[e] at hv
  obtain⟨a,vs,rfl,_⟩:=Z1b hv
  exact⟨a,_,rfl,e⟩
theorem Zms {S:SS}:∀(n:Nat) {t:Th},PfT S n t->∀B:List Str,plT (shT t B)=true:=by
 intro n
 induction n with
 |zero=>intro t h;exact h.elim
 |succ n ih=>
  intro t h B
  obtain⟨kb,e,_,_,h5⟩:=Zl4 h B
  obtain⟨l,hl,h1,_⟩:=Z51 (o:=Z46 t B) h
  rw[e,hl,plT]
  refine Z2v fun y hy=>?_
  rcases mem_append.mp hy with z|z
  ·obtain⟨v,hv,rfl⟩:=mem_map.mp z
   exact h1 v hv
  ·obtain⟨p,hp,rfl⟩:=mem_map.mp z
   exact ih (h5 p hp) _
theorem Z7x {S:SS}{t:Th}{A:Around}(h:PfT S 32 t)(hc:cnt t<=20000)(hu:A.units+200<cLine):(dat (brT t)).showable=true/\A.units+((dat (brT t)).depth+1)<cLine/\(dat (brT t)).shown.length<=sizeLine:=by
 obtain⟨h1,h2,h3⟩:=Zla 32 h [] (by decide)
 exact Zl9 h1 (Nat.le_trans h2 (by omega)) (Nat.le_trans h3 (by decide)) hu
theorem RB.nil {F:List Str}:RB [] [] (fun _=>none) F:=⟨rfl,(fun x _ h=>by cases h),(fun x _ _=>⟨rfl,(fun h=>by cases h)⟩),(fun x y h=>by cases h)⟩
theorem Zmt {c:Nat}(h:c<=80):c*(3*c)<=19200:=Nat.le_trans (Nat.mul_le_mul h (Nat.mul_le_mul_left 3 h)) (by decide)
section
variable {P:Program}{w:World}{K:PySem.W.Frag}{mg:Str->Option Value}{base:Heap}{p:LwF}
theorem scLaw:FnScope Znn ["_law_script"] (Z06 Zg3):=⟨rfl,rfl,rfl,by decide+kernel,rfl,by decide+kernel,by decide+kernel⟩
theorem Zlf {f:Addr}{fd:FuncData}(F:Fun K "law" "law" Zg3 f fd)(Y:Lw K mg p):FnOk P w K mg base CX0 35 f fd ["_law_script"] (Zh3 K):=by
 have G:=Y.R.E.G
 have T:=Y.R.E.G.X.T
 have hrange:=Y.R.E.G.U.T.range
 have GF:FnOk P w K mg base CX0 1 p.fF p.dF ["_law_script"] (Zhl K):=Zih Y.F.F G.U.T
 have GD:FnOk P w K mg base CX0 1 p.r.x.g.fD p.r.x.g.dD ["_law_feed_here","_law_many"] spDraw:=G.gD
 have GW:FnOk P w K mg base CX0 25 p.fD p.dD ["_law_feed_here","_law_turn"] spDrawn:=Zh2 Y.D.F Y.R
 have GB:FnOk P w K mg base CX0 34 p.fB p.dB ["_law_e","_law_level","_law_levels"] (Zh5 32):=FnOk.ex fun S=>Zgy Y.B G.X Y.R.E.dict 32
 have GL:FnOk P w K mg base CX0 19 p.fR p.dR ["_law_feed_here","_law_e","_law_held","_law_pool"] (Zh6 16):=FnOk.ex fun S=>Zgz Y.L G.X G.U Y.R.E.dict Y.E Y.list Y.enum Y.R.A 16
 have Gb:FnOk P w K mg base CX0 5 p.fb p.db ["e"] (Zje 32):=FnOk.ex fun S=>Zj6 Y.b.F Y.G 32
 have Gs:FnOk P w K mg base CX0 5 p.fs p.ds ["one","other"] (Zjf 32):=FnOk.ex fun S=>Zgw Y.s.F Y.G 32
 have GN:FnOk P w K mg base CX0 18 p.r.x.g.fN p.r.x.g.dN ["_law_e"] (Zh7 16):=FnOk.ex fun S=>G.gN 16
 have GX:FnOk P w K mg base CX0 19 p.r.x.g.fX p.r.x.g.dX ["_law_e","_law_at","_law_leaf_here"] (Zf8 16 1):=FnOk.ex fun S=>G.gS 16
 have GC:FnOk P w K mg base CX0 20 p.fC p.dC ["_law_feed_here","_law_e","_law_calls"] (Zcp 16):=FnOk.ex fun S=>Zcn Y.C.F G Y.max Y.X
 refine F.ok scLaw (fun vs H Q E h=>?_) (fun cdv A outer s H vs Q E hr h=>?_)
 ·obtain⟨a,ns,rfl,_⟩:=h
  rfl
 ·obtain⟨a,ns,rfl,hS,hlen,k⟩:=h
  have hsz:sizeLine=16777216:=sizeLine_eq
  have hg:=hr.gd
  have hu2:(A.deeper (PyProof.Rows.envOfC "law" (Z06 Zg3) s.heap.objs.size f cdv)).units+200<cLine:=by have:=hr.un;omega
  have hu33:(A.deeper (PyProof.Rows.envOfC "law" (Z06 Zg3) s.heap.objs.size f cdv)).units+(33+1)<cLine:=by omega
  have hr1:Room 1 _:=hr.mono (by decide)
  have hr5:Room 5 _:=hr.mono (by decide)
  have hr18:Room 18 _:=hr.mono (by decide)
  have hr19:Room 19 _:=hr.mono (by decide)
  have hr20:Room 20 _:=hr.mono (by decide)
  have hr25:Room 25 _:=hr.mono (by decide)
  refine'⟨?tt,?body,?fin⟩
  case body=>
   refine' Z04 ?s1 (Z04 ?s2 (Z07 ?s3))
   case s1=>exact Z0c (i:=1) scLaw.nd rfl (Or.inl rfl) (Z05 GF hr1 (by rfl) Y.F.m Y.F.F.kp Y.F.b .nil Z0e (Z0d (pv 0) Z01))
   case s3=>exact Z0h Z5o
   case s2=>
    refine' Z43 PassesOwn.never rfl (Z1y (by rfl) hrange (Z17 Z03 Z01)) (Z0s (i:=2) scLaw.nd rfl (Or.inl rfl)) ?blk
    case blk=>
     refine' Z04 ?c1 ?q1
     case c1=>exact Zah (Z05 GW hr25 (by rfl) Y.D.m Y.D.F.kp Y.D.b .nil Z0e (Z0d (pv 1) (Z0d (pv 2) Z01))) (Z5x rfl (Z1j (Z0s (i:=3) scLaw.nd rfl (Or.inl rfl)) (Z1j (Z0s (i:=4) scLaw.nd rfl (Or.inl rfl)) Z49)))
     case q1=>
      refine' Z04 ?c2 ?q2
      case c2=>exact Z0c (i:=5) scLaw.nd rfl (Or.inl rfl) (Z05 GB hr (by rfl) Y.B.m Y.B.F.kp Y.B.b .nil Z0e (Z0d (pv 3) (Z17 Z03 (Z08 Z4k Z01))))
      case q2=>
       refine' Z04 ?c3 ?q3
       case c3=>exact Z0c (i:=6) scLaw.nd rfl (Or.inl rfl) (Z05 GL hr19 (by rfl) Y.L.m Y.L.F.kp Y.L.b .nil Z0e (Z0d (pv 1) (Z0d (pv 3) (Z08 Z4k (Z0d (pv 4) Z01)))))
       case q3=>
        refine' Z0l ?c4 ?q4
        case c4=>
         refine' Z0x (Z5w (Z0b Zbq ?a1 ?b1 (Z0k _)) (Z5g (Z0b Zbq ?a2 ?b2 (Z0k _)))).pt (Z07 (Z0h Z5o)) Z0f
         case a1=>exact Z0n (id:="repr") (Z2o rfl hg) (by rfl) Y.repr (by decide+kernel) (Z2x (Z05 Gb hr5 (by rfl) Y.b.m Y.b.F.kp Y.b.b .nil Z0e (Z0d (pv 3) Z01)) Z01)
         case b1=>exact Z0n (id:="repr") (Z2o rfl hg) (by rfl) Y.repr (by decide+kernel) (Z0d (pv 5) Z01)
         case a2=>exact Z0n (id:="repr") (Z2o rfl hg) (by rfl) Y.repr (by decide+kernel) (Z2x (Z05 Gb hr5 (by rfl) Y.b.m Y.b.F.kp Y.b.b .nil Z0e (Z0d (pv 6) Z01)) Z01)
         case b2=>exact Z0n (id:="repr") (Z2o rfl hg) (by rfl) Y.repr (by decide+kernel) (Z0d (pv 5) Z01)
        case q4=>
         refine' Z0l ?c5 ?q5
         case c5=>
          refine' Z0x (Z5w (Z0b Z4c ?a1 Z5o (Z0k _)) (Z5g (Z0b Z4c ?a2 Z5o (Z0k _)))).pt (Z07 (Z0h Z5o)) Z0f
          case a1=>exact Z05 Gs hr5 (by rfl) Y.s.m Y.s.F.kp Y.s.b .nil Z0e (Z0d (pv 3) (Z0d (pv 6) Z01))
          case a2=>exact Z05 Gs hr5 (by rfl) Y.s.m Y.s.F.kp Y.s.b .nil Z0e (Z0d (pv 6) (Z0d (pv 3) Z01))
         case q5=>
          refine' Z04 ?c6 ?q6
          case c6=>exact Z0c (i:=7) scLaw.nd rfl (Or.inl rfl) (Z12 (Z17 Z09 (Z08 (Z0q Z0w (pv 4) (Z05 GD hr1 (by rfl) G.U.mD G.U.D.kp G.U.bD .nil Z0e (Z0d (pv 1) (Z2x (Z0n Z0o (by rfl) T.len PySem.boot_len (Z0d (pv 4) Z01)) Z01))) (fun _ _=>rfl)) Z01)))
          case q6=>
           refine' Z04 ?c7 ?q7
           case c7=>exact Z0c (i:=8) scLaw.nd rfl (Or.inl rfl) (Z05 GX hr19 (by rfl) G.S.m G.S.F.kp G.S.b .nil Z0e (Z0d (pv 6) (Z2x (Z05 GD hr1 (by rfl) G.U.mD G.U.D.kp G.U.bD .nil Z0e (Z0d (pv 1) (Z2x (Z05 GN hr18 (by rfl) G.N.m G.N.F.kp G.N.b .nil Z0e (Z0d (pv 6) Z01)) Z01))) (Z0d (pv 7) Z01))))
           case q7=>
            refine' Z0l ?c8 ?q8
            case c8=>
             refine' Z0x (Z0b Z1d (Z05 GD hr1 (by rfl) G.U.mD G.U.D.kp G.U.bD .nil Z0e (Z0d (pv 1) (Z17 Z03 Z01))) Z03 (Z0k _)) (Z07 ?b) Z0f
             case b=>exact Z0c (i:=8) scLaw.nd rfl (Or.inl rfl) (Z05 GC hr20 (by rfl) Y.C.m Y.C.F.kp Y.C.b .nil Z0e (Z0d (pv 1) (Z0d (pv 6) (Z0d (pv 4) Z01))))
            case q8=>
             refine' Z0l ?c9 ?q9
             case c9=>
              refine' Z0x (Z0b Zbq ?a1 ?b1 (Z0k _)) (Z07 (Z0h Z5o)) Z0f
              case a1=>exact Z0n (id:="repr") (Z2o rfl hg) (by rfl) Y.repr (by decide+kernel) (Z2x (Z05 Gb hr5 (by rfl) Y.b.m Y.b.F.kp Y.b.b .nil Z0e (Z0d (pv 8) Z01)) Z01)
              case b1=>exact Z0n (id:="repr") (Z2o rfl hg) (by rfl) Y.repr (by decide+kernel) (Z2x (Z05 GB hr (by rfl) Y.B.m Y.B.F.kp Y.B.b .nil Z0e (Z0d (pv 8) (Z17 Z03 (Z08 Z4k Z01)))) Z01)
             case q9=>
              refine' Z0l ?c10 ?q10
              case c10=>exact Z0c (i:=9) scLaw.nd rfl (Or.inl rfl) (Z05 Gs hr5 (by rfl) Y.s.m Y.s.F.kp Y.s.b .nil Z0e (Z0d (pv 3) (Z0d (pv 8) Z01)))
              case q10=>
               refine' Z0l ?c11 (Z07 ?c12)
               case c11=>
                refine' Z0x (Z5w (Z8p (Z5f ?a1)) (Z5g (Z0b Zbq (pv 9) ?a2 (Z0k _)))).pt (Z07 (Z0h Z5o)) Z0f
                case a1=>exact Z0n Z68 (by rfl) T.isi (by decide+kernel) (Z0d (pv 9) (Z0d (Z5v (v:=.ty "bool") (by rfl) T.bl (by decide+kernel) rfl) Z01))
                case a2=>exact Z5z (Zie (K:=K) rfl 33 hu33) (Z05 GB hr (by rfl) Y.B.m Y.B.F.kp Y.B.b .nil Z0e (Z0d (pv 8) (Z17 Z03 (Z08 Z4k Z01)))) (pv 5) (Z0k _)
               case c12=>
                refine' Z0x (Z0b Z4c ?a1 Z5o (Z0k _)) (Z07 (Z0h Z5o)) Z0f
                case a1=>exact Z05 Gs hr5 (by rfl) Y.s.m Y.s.F.kp Y.s.b .nil Z0e (Z0d (pv 8) (Z0d (pv 8) Z01))
  case fin=>
   refine⟨_,rfl,a,ns,rfl,hS,hlen,fun d l H1 F1 _ s1=>?_⟩
   refine⟨3,rfl,by decide,by decide,Z31 (n:=3) (fun i σ H'=>∃(o2 o3 o4 o5 o6 o7 o8 o9:Option V) (n':Nat),σ = [some (.ref a),some (.ref d),o2,o3,o4,o5,o6,o7,o8,o9]/\n'<=i*14000000/\Feed H' d l ns n')
    ⟨_,_,_,_,_,_,_,_,0,rfl,Nat.zero_le _,F1⟩ ?_ ?_⟩
   rotate_left
   ·rintro σ H2 _
    exact k H2
   clear F1 s1 hS
   rintro j σ H1 hj ⟨o2,o3,o4,o5,o6,o7,o8,o9,n,rfl,hn,F1⟩
   have hj3:j<3:=hj
   have hn0:n<=42000000:=by omega
   refine⟨_,rfl,_,rfl,d,l,ns,n,j,by rw[Int.zero_add];rfl,F1,by omega,hj3,fun q na v T0 S t n2 H2 hq hna hT1 hT20 hTn hv pt hc hn2 F2 _=>?_⟩
   refine⟨q,_,rfl,SqT.of hq,rfl,_,_,rfl,_,_,rfl,rfl,?_⟩
   have pt32:PfT S 32 t:=pt.le (by decide)
   refine⟨_,rfl,fun d0 hd0=>?_⟩
   have s3:=Z02 (o:=.dK []) hd0
   refine⟨S,v,d0,t,[],[],rfl,IsTh.kp (Kp.of s3) hv,pt32,Z00,fun x=>rfl,by decide,by decide,fun u H4 s4 hu4=>?_⟩
   have s24:=s3.trans s4
   have F4:=F2.same s24
   have hv4:=IsTh.kp (Kp.of s24) hv
   have hna4:=s24 _ _ hna
   refine⟨_,rfl,_,rfl,fun h0 hh0=>?_⟩
   have s5:=Z02 (o:=.dK []) hh0
   have hne:h0≠d:=fun z=>by
    obtain⟨w,hw⟩:=F4.dc
    rw[z,hw] at hh0
    cases hh0
   have F5:=F4.same s5
   refine⟨_,rfl,S,d,l,h0,na,v,t,ns,n2,[],fun _=>none,T0,[],[],rfl,F5,by omega,IsTh.kp (Kp.of s5) hv4,pt,by omega,Z00,fun x=>rfl,by decide,hne,s5 _ _ hna4,by omega,hTn,RB.nil,fun v6 t6 n6 H6 hv6 pt6 hc6 sh6 hn6 F6 b6=>?_⟩
   have kp6:Kp H4 H6:=fun b o e hk=>b6.kp F5 _ _ (s5 _ _ e) hk
   have hv6':=IsTh.kp kp6 hv4
   have hu6:=IsTh.kp kp6 hu4
   have hna6:=F5.lst b6 (s5 _ _ hna4)
   have pt632:PfT S 32 t6:=pt6.le (by decide)
   have hz:=Z7v 16 pt
   have hz6:=Z7v 16 pt6
   obtain⟨ua,uxs,rfl,eu⟩:=Z7w pt32 hu6
   refine⟨fun σ' H'=>σ' = [some (.ref a),some (.ref d),some (.int (0+(j:Int))),some v,some (.ref na),some (.ref ua),some v6,o7,o8,o9]/\Same H6 H',?_,?_⟩
   ·refine⟨_,rfl,S,v,t,rfl,hv6',pt32,by omega,fun v7 H7 s7 hv7=>?_⟩
    obtain⟨ra,rxs,rfl,er⟩:=Z7w pt32 hv7
    refine⟨ra,brT t,rfl,hv7,Z7x pt32 (by omega) hu2,_,rfl,ua,brT t,rfl,IsTh.kp (Kp.of s7) hu6,Z7x pt32 (by omega) hu2,rfl,_,rfl,Z1a (fun g=>?_) (fun _=>?_)⟩
    ·rw[decide_eq_true rfl] at g
     cases g
    refine⟨_,rfl,S,v6,t6,rfl,IsTh.kp (Kp.of s7) hv6,pt632,by omega,fun v8 H8 s8 hv8=>?_⟩
    obtain⟨ra,rxs,rfl,er⟩:=Z7w pt632 hv8
    have e6:brT t6=brT t:=sh6
    rw[e6] at hv8
    refine⟨ra,brT t,rfl,hv8,Z7x pt32 (by omega) hu2,_,rfl,ua,brT t,rfl,IsTh.kp (Kp.of (s7.trans s8)) hu6,Z7x pt32 (by omega) hu2,rfl,_,rfl,Z1a (fun g=>?_) (fun _=>⟨rfl,s7.trans s8⟩)⟩
    rw[decide_eq_true rfl] at g
    cases g
   rintro σ7 H7 ⟨rfl,s7⟩
   refine⟨fun σ' H'=>σ' = [some (.ref a),some (.ref d),some (.int (0+(j:Int))),some v,some (.ref na),some (.ref ua),some v6,o7,o8,o9]/\Same H6 H',?_,?_⟩
   ·have e6:brT t6=brT t:=sh6
    refine⟨_,rfl,_,rfl,S,v,v6,t,t6,rfl,IsTh.kp (Kp.of s7) hv6',IsTh.kp (Kp.of s7) hv6,pt32,pt632,by omega,by omega,fun _ H8 s8=>?_,fun ne=>absurd e6.symm ne⟩
    refine⟨_,_,rfl,rfl,_,rfl,Z1a (fun g=>by cases g) (fun _=>?_)⟩
    have s68:=s7.trans s8
    refine⟨_,rfl,_,rfl,S,v6,v,t6,t,rfl,IsTh.kp (Kp.of s68) hv6,IsTh.kp (Kp.of s68) hv6',pt632,pt32,by omega,by omega,fun _ H9 s9=>?_,fun ne=>absurd e6 ne⟩
    exact⟨_,_,rfl,rfl,_,rfl,Z1a (fun g=>by cases g) (fun _=>⟨rfl,s68.trans s9⟩)⟩
   clear s7
   rintro σ8 H8 ⟨rfl,s8⟩
   have F8:=F6.same s8
   have hna8:=s8 _ _ hna6
   refine⟨_,rfl,_,rfl,_,rfl,na,_,rfl,.inl (SqL.of hna8),d,l,ns,n6,_,rfl,F8,by omega,by rw[length_map];omega,by rw[length_map];omega,fun x n9 H9 x0 x1 hn9 F9 b9=>?_⟩
   obtain⟨vx,hvx,hat⟩:=Z2w (xs:=T0.map V.str) (i:=x) x0 x1
   obtain⟨nx0,hnx,rfl⟩:=mem_map.mp hvx
   have hxN:=hTn nx0 hnx
   have hna9:=F8.lst b9 hna8
   refine⟨na,_,x,.str nx0,rfl,rfl,SqL.of hna9,hat,(by show 2<=sizeLine;decide),fun la hla=>?_⟩
   have s10:=Z02 (o:=.tup [.str "name",.str nx0]) hla
   have kp9:Kp H6 (upd H9 la (.tup [.str "name",.str nx0])):=fun b o e hk=>s10 _ _ (b9.kp F8 _ _ (s8 _ _ e) hk)
   have hla10:IsTh (upd H9 la (.tup [.str "name",.str nx0])) (.ref la) (nd "name" [.str nx0] []):=.tup Z00 (.cons (.at (by decide+kernel)) (.cons (.at (Z2k (S:=S) ⟨hxN,trivial⟩)) .nil))
   have F10:=F9.same s10
   have hna10:=s10 _ _ hna9
   generalize upd H9 la (.tup [.str "name",.str nx0])=H10 at s10 kp9 hla10 F10 hna10 ⊢
   have hv10:=IsTh.kp kp9 hv6'
   have hu10:=IsTh.kp kp9 hu6
   have hw10:=IsTh.kp kp9 hv6
   have hpos:=Z3q pt6
   refine⟨_,rfl,_,rfl,_,rfl,S,v6,t6,rfl,hw10,pt6,fun H11 s11=>?_⟩
   refine⟨d,l,ns,n9,_,rfl,F10.same s11,by omega,by omega,by omega,fun y n12 H12 y0 y1 hn12 F12 b12=>?_⟩
   have kp12:Kp H10 H12:=fun b o e hk=>b12.kp (F10.same s11) _ _ (s11 _ _ e) hk
   have hL:=Zgc (S:=S) (x:=nx0) ⟨hxN,trivial⟩
   have hlz:=Z7v 1 hL.1
   refine⟨_,rfl,S,v6,.ref la,y,t6,nd "name" [.str nx0] [],rfl,IsTh.kp kp12 hw10,pt6,IsTh.kp kp12 hla10,hL.1,fun v13 t13 H13 s13 hv13 pt13 hz13=>?_⟩
   have F13:=F12.same s13
   have kp13:Kp H10 H13:=kp12.trans (Kp.of s13)
   let S2:SS:=⟨S.c++T0,[]⟩
   have hS2:∀x∈S.c,x∈S2.c:=fun x hx=>mem_append_left _ hx
   have sq:=Zmt hc
   refine⟨fun σ' H'=>∃(v3:V) (t3:Th) (n':Nat),σ' = [some (.ref a),some (.ref d),some (.int (0+(j:Int))),some v,some (.ref na),some (.ref ua),some v6,some (.ref la),some v3,o9]/\IsTh H' v3 t3/\PfT S2 32 t3/\Th.sz t3<=19500/\n'<=n12+4/\Feed H' d l ns n'/\Kp H10 H',?_,?_⟩
   ·refine⟨_,rfl,d,l,ns,n12,_,rfl,F13,by omega,by decide,by decide,fun z n14 H14 z0 z1 hn14 F14 b14=>⟨rfl,_,rfl,Z1a (fun g=>?_) (fun _=>?_)⟩⟩
    ·have kp14:Kp H10 H14:=kp13.trans (b14.kp F13)
     refine⟨_,rfl,_,rfl,_,rfl,S2,d,l,na,v6,t6,ns,n14,T0,rfl,F14,by omega,IsTh.kp kp14 hw10,pt6.mono hS2,by omega,kp14 _ _ hna10 (fun _ z=>by cases z),hT1,by omega,fun x hx=>⟨mem_append_right _ hx,hTn x hx,trivial⟩,fun v15 t15 n15 H15 hv15 pt15 hz15 hn15 F15 b15=>?_⟩
     refine⟨v15,t15,n15,rfl,hv15,pt15,?_,by omega,F15,kp14.trans (b15.kp F14)⟩
     rw[hc6] at hz15
     omega
    ·refine⟨v13,t13,n14,rfl,IsTh.kp (b14.kp F13) hv13,(pt13.mono hS2).le (by decide),?_,by omega,F14,kp13.trans (b14.kp F13)⟩
     unfold bdS at hz13
     have:cnt t6*Th.sz (nd "name" [.str nx0] [])<=80*3:=Nat.mul_le_mul (by omega) (by rw[hL.2] at hlz;omega)
     omega
   clear s13 hv13 pt13 hz13 F13 kp13 F12 b12 kp12
   rintro σ15 H15 ⟨v3,t3,n15,rfl,hv3,pt3,hz3,hn15,F15,kp15⟩
   have hv15:=IsTh.kp kp15 hv10
   have hu15:=IsTh.kp kp15 hu10
   have pt2:PfT S2 32 t:=pt32.mono hS2
   have hct3:=Zhx t3
   have bits:∀{t':Th} {xs:List Th},PfT S2 32 t'->shT t' [] = .tup xs->Z44 xs=true/\dps xs<=33:=fun {t' xs} h e=>by
    have h1:=Zms 32 h []
    have h2:=(Zla 32 h [] (by decide)).2.2
    rw[e] at h1 h2
    rw[plT] at h1
    rw[L2.dp] at h2
    exact⟨h1,by omega⟩
   refine⟨fun σ' H'=>σ' = [some (.ref a),some (.ref d),some (.int (0+(j:Int))),some v,some (.ref na),some (.ref ua),some v6,some (.ref la),some v3,o9]/\Same H15 H',?_,?_⟩
   ·refine⟨_,rfl,S2,v3,t3,rfl,hv3,pt3,by omega,fun v16 H16 s16 hv16=>?_⟩
    obtain⟨ra,rxs,rfl,_⟩:=Z7w pt3 hv16
    refine⟨ra,brT t3,rfl,hv16,Z7x pt3 (by omega) hu2,_,rfl,fun d1 hd1=>?_⟩
    have s17:=Z02 (o:=.dK []) hd1
    refine⟨S2,v3,d1,t3,[],[],rfl,IsTh.kp (Kp.of (s16.trans s17)) hv3,pt3,Z00,fun x=>rfl,by decide,by decide,fun u3 H18 s18 hu18=>?_⟩
    obtain⟨rb,rys,rfl,_⟩:=Z7w pt3 hu18
    refine⟨rb,brT t3,rfl,hu18,Z7x pt3 (by omega) hu2,rfl,_,rfl,Z1a (fun g=>?_) (fun _=>⟨rfl,(s16.trans s17).trans s18⟩)⟩
    rw[decide_eq_true rfl] at g
    cases g
   rintro σ16 H16 ⟨rfl,s16⟩
   refine⟨fun σ' H'=>∃b:Bool,σ' = [some (.ref a),some (.ref d),some (.int (0+(j:Int))),some v,some (.ref na),some (.ref ua),some v6,some (.ref la),some v3,some (.bl b)]/\Same H15 H'/\(b=true↔brT t=brT t3),?_,?_⟩
   ·exact⟨_,rfl,_,rfl,S2,v,v3,t,t3,rfl,IsTh.kp (Kp.of s16) hv15,IsTh.kp (Kp.of s16) hv3,pt2,pt3,by omega,by omega,fun eq H17 s17=>⟨true,rfl,s16.trans s17,fun _=>eq,fun _=>rfl⟩,fun ne H17 s17=>⟨false,rfl,s16.trans s17,(fun z=>by cases z),fun z=>absurd z ne⟩⟩
   rintro σ17 H17 ⟨b,rfl,s17,hb⟩
   refine⟨fun σ' H'=>σ' = [some (.ref a),some (.ref d),some (.int (0+(j:Int))),some v,some (.ref na),some (.ref ua),some v6,some (.ref la),some v3,some (.bl b)]/\Same H15 H',?_,?_⟩
   ·refine⟨_,rfl,_,_,.type "bool",true,rfl,.bl _,Zh4 _ _,_,rfl,Za0 ?_⟩
    refine⟨_,rfl,_,rfl,fun d1 hd1=>?_⟩
    have s18:=s17.trans (Z02 (o:=.dK []) hd1)
    refine⟨S2,v3,d1,t3,[],[],rfl,IsTh.kp (Kp.of s18) hv3,pt3,Z00,fun x=>rfl,by decide,by decide,fun u3 H19 s19 hu19=>?_⟩
    obtain⟨rb,rys,rfl,er⟩:=Z7w pt3 hu19
    have s1519:=s18.trans s19
    have hu':=IsTh.kp (Kp.of s1519) hu15
    rw[eu] at hu'
    rw[er] at hu19
    obtain⟨p1,p2⟩:=bits pt3 er
    obtain⟨p3,p4⟩:=bits pt2 eu
    refine⟨_,rfl,rys,uxs,hu19,hu',p1,p3,p2,p4,fun e=>⟨rfl,_,rfl,?_⟩,fun e=>⟨rfl,_,rfl,?_⟩⟩
    ·have hbt:b=true:=hb.mpr (by show shT t []=shT t3 [];rw[eu,er,e])
     rw[hbt]
     exact⟨rfl,s1519⟩
    ·have hbf:b=false:=by
      rw[Bool.eq_false_iff]
      intro z
      have z':shT t []=shT t3 []:=hb.mp z
      rw[eu,er] at z'
      injection z' with z'
      exact e z'.symm
     rw[hbf]
     exact⟨rfl,s1519⟩
   rintro σ18 H18 ⟨rfl,s18⟩
   refine⟨_,rfl,_,rfl,S2,v3,v3,t3,t3,rfl,IsTh.kp (Kp.of s18) hv3,IsTh.kp (Kp.of s18) hv3,pt3,pt3,by omega,by omega,fun _ H19 s19=>?_,fun ne=>absurd rfl ne⟩
   exact⟨_,_,rfl,rfl,_,rfl,Z1a (fun g=>by cases g) (fun _=>⟨_,_,_,_,_,_,_,_,n15,rfl,by omega,F15.same (s18.trans s19)⟩)⟩
end
theorem Zjg {P:List Value->Prop}(h:P []):∀us:List Value,us.length=0->P us:=fun us e=>by
 cases us with
 |nil=>exact h
 |cons a r=>cases e
theorem Z26 {P:List Value->Prop}(h:∀a,P [a]):∀us:List Value,us.length=1->P us:=fun us e=>by
 cases us with
 |nil=>cases e
 |cons a r=>exact Zjg (P:=fun r=>P (a::r)) (h a) r (Nat.succ.inj e)
theorem Z2e {P:List Value->Prop}(h:∀a b,P [a,b]):∀us:List Value,us.length=2->P us:=fun us e=>by
 cases us with
 |nil=>cases e
 |cons a r=>exact Z26 (P:=fun r=>P (a::r)) (h a) r (Nat.succ.inj e)
theorem Z3u {P:List Value->Prop}(h:∀a b c,P [a,b,c]):∀us:List Value,us.length=3->P us:=fun us e=>by
 cases us with
 |nil=>cases e
 |cons a r=>exact Z2e (P:=fun r=>P (a::r)) (h a) r (Nat.succ.inj e)
theorem Zf9 {P:List Value->Prop}(h:∀a b c d,P [a,b,c,d]):∀us:List Value,us.length=4->P us:=fun us e=>by
 cases us with
 |nil=>cases e
 |cons a r=>exact Z3u (P:=fun r=>P (a::r)) (h a) r (Nat.succ.inj e)
theorem Z8n {P:List Value->Prop}(h:∀a b c d e,P [a,b,c,d,e]):∀us:List Value,us.length=5->P us:=fun us e=>by
 cases us with
 |nil=>cases e
 |cons a r=>exact Zf9 (P:=fun r=>P (a::r)) (h a) r (Nat.succ.inj e)
theorem Zfa {P:List Value->Prop}(h:∀a b c d e f,P [a,b,c,d,e,f]):∀us:List Value,us.length=6->P us:=fun us e=>by
 cases us with
 |nil=>cases e
 |cons a r=>exact Z8n (P:=fun r=>P (a::r)) (h a) r (Nat.succ.inj e)
theorem Zjh {K:PySem.W.Frag}(kt_NoneType_int:PySem.W.kitOne K (.type "NoneType") (.type "int")=some false)(kt_bool_int:PySem.W.kitOne K (.type "bool") (.type "int")=some true)(kt_int_int:PySem.W.kitOne K (.type "int") (.type "int")=some true)(kt_str_int:PySem.W.kitOne K (.type "str") (.type "int")=some false)(kt_tuple_int:PySem.W.kitOne K (.type "tuple") (.type "int")=some false)(kt_list_int:PySem.W.kitOne K (.type "list") (.type "int")=some false)(kt_NoneType_bool:PySem.W.kitOne K (.type "NoneType") (.type "bool")=some false)(kt_bool_bool:PySem.W.kitOne K (.type "bool") (.type "bool")=some true)(kt_int_bool:PySem.W.kitOne K (.type "int") (.type "bool")=some false)(kt_str_bool:PySem.W.kitOne K (.type "str") (.type "bool")=some false)(kt_tuple_bool:PySem.W.kitOne K (.type "tuple") (.type "bool")=some false)(kt_list_bool:PySem.W.kitOne K (.type "list") (.type "bool")=some false)(kt_NoneType_tuple:PySem.W.kitOne K (.type "NoneType") (.type "tuple")=some false)(kt_bool_tuple:PySem.W.kitOne K (.type "bool") (.type "tuple")=some false)(kt_int_tuple:PySem.W.kitOne K (.type "int") (.type "tuple")=some false)(kt_str_tuple:PySem.W.kitOne K (.type "str") (.type "tuple")=some false)(kt_tuple_tuple:PySem.W.kitOne K (.type "tuple") (.type "tuple")=some true)(kt_list_tuple:PySem.W.kitOne K (.type "list") (.type "tuple")=some false):Kits K:=by
 refine⟨?i,?b,?t⟩
 case i=>
  intro H v t h
  cases h with
  | «at» f =>
   cases v with
   |non=>exact kt_NoneType_int
   |bl b=>exact kt_bool_int
   |int i=>exact kt_int_int
   |str x=>exact kt_str_int
   |_=>exact absurd (show false=true from f) Bool.false_ne_true
  |tup e r=>exact kt_tuple_int
  |lst e r=>exact kt_list_int
 case b=>
  intro H v t h
  cases h with
  | «at» f =>
   cases v with
   |non=>exact kt_NoneType_bool
   |bl b=>exact kt_bool_bool
   |int i=>exact kt_int_bool
   |str x=>exact kt_str_bool
   |_=>exact absurd (show false=true from f) Bool.false_ne_true
  |tup e r=>exact kt_tuple_bool
  |lst e r=>exact kt_list_bool
 case t=>
  intro H v t h
  cases h with
  | «at» f =>
   cases v with
   |non=>exact kt_NoneType_tuple
   |bl b=>exact kt_bool_tuple
   |int i=>exact kt_int_tuple
   |str x=>exact kt_str_tuple
   |_=>exact absurd (show false=true from f) Bool.false_ne_true
  |tup e r=>exact kt_tuple_tuple
  |lst e r=>exact kt_list_tuple
abbrev hA (K:PySem.W.Frag)(n:Str)(f:Addr):Prop:=PySem.W.nsIn K mainGlobals n=some (some (.ref f))
abbrev hL (K:PySem.W.Frag)(n:Str)(S:Stmt)(f:Addr)(oc:Value)(od:Option Addr)(kV dc pm:Value)(an:Option Addr)(cd ct:Value)(sl:Array (Option Value)):Prop:=K.lookup f=some ⟨oc,od,.func (PySem.W.fnOf n n (Z0r S) (Z0p S) (Z06 S) .none kV dc pm an cd ct),sl⟩
abbrev hC (K:PySem.W.Frag)(cd:Value)(n:Str):Prop:=PySem.W.codeIn K cd n=true
abbrev hP (K:PySem.W.Frag)(f:Addr):Prop:=PySem.W.keepIn K (.ref f)=true
abbrev hZ (K:PySem.W.Frag)(n:Str):Prop:=PySem.W.nsIn K mainGlobals n=some none
abbrev hI (K:PySem.W.Frag)(a b:String)(v:Bool):Prop:=PySem.W.kitOne K (.type a) (.type b)=some v
theorem all_mk {l:PySem.W.OpenLaw}{w:World}{K:PySem.W.Frag}{h:Heap}{mg:Str->Option Value}{fa f0 f1 f2 f3 f4 f5 f6 f7 f8 f9 f10 f11 f12 f13 f14 f15 f16 f17 f18 f19 f20 f21 f22 f23 f24 f25 f26 f27 f28 f29 f30 f31 f32 f33 f34 f35 f36:Addr}(X:K.In h)(G:h.Ns mainGlobals mg)(hfa:mg "law"=some (.ref fa))
  {od0 an0 od1 an1 od2 an2 od3 an3 od4 an4 od5 an5 od6 an6 od7 an7 od8 an8 od9 an9 od10 an10 od11 an11 od12 an12 od13 an13 od14 an14 od15 an15 od16 an16 od17 an17 od18 an18 od19 an19 od20 an20 od21 an21 od22 an22 od23 an23 od24 an24 od25 an25 od26 an26 od27 an27 od28 an28 od29 an29 od30 an30 od31 an31 od32 an32 od33 an33 od34 an34 od35 an35 od36 an36:Option Addr} {sl0 sl1 sl2 sl3 sl4 sl5 sl6 sl7 sl8 sl9 sl10 sl11 sl12 sl13 sl14 sl15 sl16 sl17 sl18 sl19 sl20 sl21 sl22 sl23 sl24 sl25 sl26 sl27 sl28 sl29 sl30 sl31 sl32 sl33 sl34 sl35 sl36:Array (Option Value)} {oc0 kV0 dc0 pm0 cd0 ct0 oc1 kV1 dc1 pm1 cd1 ct1 oc2 kV2 dc2 pm2 cd2 ct2 oc3 kV3 dc3 pm3 cd3 ct3 oc4 kV4 dc4 pm4 cd4 ct4 oc5 kV5 dc5 pm5 cd5 ct5 oc6 kV6 dc6 pm6 cd6 ct6 oc7 kV7 dc7 pm7 cd7 ct7 oc8 kV8 dc8 pm8 cd8 ct8 oc9 kV9 dc9 pm9 cd9 ct9 oc10 kV10 dc10 pm10 cd10 ct10 oc11 kV11 dc11 pm11 cd11 ct11 oc12 kV12 dc12 pm12 cd12 ct12 oc13 kV13 dc13 pm13 cd13 ct13 oc14 kV14 dc14 pm14 cd14 ct14 oc15 kV15 dc15 pm15 cd15 ct15 oc16 kV16 dc16 pm16 cd16 ct16 oc17 kV17 dc17 pm17 cd17 ct17 oc18 kV18 dc18 pm18 cd18 ct18 oc19 kV19 dc19 pm19 cd19 ct19 oc20 kV20 dc20 pm20 cd20 ct20 oc21 kV21 dc21 pm21 cd21 ct21 oc22 kV22 dc22 pm22 cd22 ct22 oc23 kV23 dc23 pm23 cd23 ct23 oc24 kV24 dc24 pm24 cd24 ct24 oc25 kV25 dc25 pm25 cd25 ct25 oc26 kV26 dc26 pm26 cd26 ct26 oc27 kV27 dc27 pm27 cd27 ct27 oc28 kV28 dc28 pm28 cd28 ct28 oc29 kV29 dc29 pm29 cd29 ct29 oc30 kV30 dc30 pm30 cd30 ct30 oc31 kV31 dc31 pm31 cd31 ct31 oc32 kV32 dc32 pm32 cd32 ct32 oc33 kV33 dc33 pm33 cd33 ct33 oc34 kV34 dc34 pm34 cd34 ct34 oc35 kV35 dc35 pm35 cd35 ct35 oc36 kV36 dc36 pm36 cd36 ct36:Value} {tkN tkO tkC:Tok}
  (a0:hA K "head" f0) (l0:hL K "head" Za6 f0 oc0 od0 kV0 dc0 pm0 an0 cd0 ct0 sl0) (c0:hC K cd0 "head") (k0:hP K f0)
  (a1:hA K "parts" f1) (l1:hL K "parts" Z6d f1 oc1 od1 kV1 dc1 pm1 an1 cd1 ct1 sl1) (c1:hC K cd1 "parts") (k1:hP K f1)
  (a2:hA K "steps" f2) (l2:hL K "steps" Z7l f2 oc2 od2 kV2 dc2 pm2 an2 cd2 ct2 sl2) (c2:hC K cd2 "steps") (k2:hP K f2)
  (a3:hA K "built" f3) (l3:hL K "built" Z9e f3 oc3 od3 kV3 dc3 pm3 an3 cd3 ct3 sl3) (c3:hC K cd3 "built") (k3:hP K f3)
  (a4:hA K "own_number" f4) (l4:hL K "own_number" Z39 f4 oc4 od4 kV4 dc4 pm4 an4 cd4 ct4 sl4) (c4:hC K cd4 "own_number") (k4:hP K f4)
  (a5:hA K "owned" f5) (l5:hL K "owned" Z9f f5 oc5 od5 kV5 dc5 pm5 an5 cd5 ct5 sl5) (c5:hC K cd5 "owned") (k5:hP K f5)
  (a6:hA K "bare_head" f6) (l6:hL K "bare_head" Z3p f6 oc6 od6 kV6 dc6 pm6 an6 cd6 ct6 sl6) (c6:hC K cd6 "bare_head") (k6:hP K f6)
  (a7:hA K "bare_rows" f7) (l7:hL K "bare_rows" Z3a f7 oc7 od7 kV7 dc7 pm7 an7 cd7 ct7 sl7) (c7:hC K cd7 "bare_rows") (k7:hP K f7)
  (a8:hA K "bare" f8) (l8:hL K "bare" Zdt f8 oc8 od8 kV8 dc8 pm8 an8 cd8 ct8 sl8) (c8:hC K cd8 "bare") (k8:hP K f8)
  (a9:hA K "same" f9) (l9:hL K "same" Z9g f9 oc9 od9 kV9 dc9 pm9 an9 cd9 ct9 sl9) (c9:hC K cd9 "same") (k9:hP K f9)
  (a10:hA K "_law_feed" f10) (l10:hL K "_law_feed" Zdu f10 oc10 od10 kV10 dc10 pm10 an10 cd10 ct10 sl10) (c10:hC K cd10 "_law_feed") (k10:hP K f10)
  (a11:hA K "_law_draw" f11) (l11:hL K "_law_draw" Zdv f11 oc11 od11 kV11 dc11 pm11 an11 cd11 ct11 sl11) (c11:hC K cd11 "_law_draw") (k11:hP K f11)
  (a12:hA K "_law_value" f12) (l12:hL K "_law_value" Z3b f12 oc12 od12 kV12 dc12 pm12 an12 cd12 ct12 sl12) (c12:hC K cd12 "_law_value") (k12:hP K f12)
  (a13:hA K "_law_spelled" f13) (l13:hL K "_law_spelled" Z4v f13 oc13 od13 kV13 dc13 pm13 an13 cd13 ct13 sl13) (c13:hC K cd13 "_law_spelled") (k13:hP K f13)
  (a14:hA K "_law_name" f14) (l14:hL K "_law_name" Z2j f14 oc14 od14 kV14 dc14 pm14 an14 cd14 ct14 sl14) (c14:hC K cd14 "_law_name") (k14:hP K f14)
  (a15:hA K "_law_names" f15) (l15:hL K "_law_names" Z9h f15 oc15 od15 kV15 dc15 pm15 an15 cd15 ct15 sl15) (c15:hC K cd15 "_law_names") (k15:hP K f15)
  (a16:hA K "_law_parts" f16) (l16:hL K "_law_parts" Z25 f16 oc16 od16 kV16 dc16 pm16 an16 cd16 ct16 sl16) (c16:hC K cd16 "_law_parts") (k16:hP K f16)
  (a17:hA K "_law_with" f17) (l17:hL K "_law_with" Zc5 f17 oc17 od17 kV17 dc17 pm17 an17 cd17 ct17 sl17) (c17:hC K cd17 "_law_with") (k17:hP K f17)
  (a18:hA K "_law_nodes" f18) (l18:hL K "_law_nodes" Z6e f18 oc18 od18 kV18 dc18 pm18 an18 cd18 ct18 sl18) (c18:hC K cd18 "_law_nodes") (k18:hP K f18)
  (a19:hA K "_law_work" f19) (l19:hL K "_law_work" Z3y f19 oc19 od19 kV19 dc19 pm19 an19 cd19 ct19 sl19) (c19:hC K cd19 "_law_work") (k19:hP K f19)
  (a20:hA K "_law_right" f20) (l20:hL K "_law_right" Z7m f20 oc20 od20 kV20 dc20 pm20 an20 cd20 ct20 sl20) (c20:hC K cd20 "_law_right") (k20:hP K f20)
  (a21:hA K "_law_leaf" f21) (l21:hL K "_law_leaf" Zdw f21 oc21 od21 kV21 dc21 pm21 an21 cd21 ct21 sl21) (c21:hC K cd21 "_law_leaf") (k21:hP K f21)
  (a22:hA K "_law_turned" f22) (l22:hL K "_law_turned" Z58 f22 oc22 od22 kV22 dc22 pm22 an22 cd22 ct22 sl22) (c22:hC K cd22 "_law_turned") (k22:hP K f22)
  (a23:hA K "_law_spoilt" f23) (l23:hL K "_law_spoilt" Z6f f23 oc23 od23 kV23 dc23 pm23 an23 cd23 ct23 sl23) (c23:hC K cd23 "_law_spoilt") (k23:hP K f23)
  (a24:hA K "_law_copied" f24) (l24:hL K "_law_copied" Z4g f24 oc24 od24 kV24 dc24 pm24 an24 cd24 ct24 sl24) (c24:hC K cd24 "_law_copied") (k24:hP K f24)
  (a25:hA K "_law_bound" f25) (l25:hL K "_law_bound" Z6g f25 oc25 od25 kV25 dc25 pm25 an25 cd25 ct25 sl25) (c25:hC K cd25 "_law_bound") (k25:hP K f25)
  (a26:hA K "_law_called" f26) (l26:hL K "_law_called" Z4h f26 oc26 od26 kV26 dc26 pm26 an26 cd26 ct26 sl26) (c26:hC K cd26 "_law_called") (k26:hP K f26)
  (a27:hA K "_law_expr" f27) (l27:hL K "_law_expr" Z88 f27 oc27 od27 kV27 dc27 pm27 an27 cd27 ct27 sl27) (c27:hC K cd27 "_law_expr") (k27:hP K f27)
  (a28:hA K "_law_world" f28) (l28:hL K "_law_world" Z9i f28 oc28 od28 kV28 dc28 pm28 an28 cd28 ct28 sl28) (c28:hC K cd28 "_law_world") (k28:hP K f28)
  (a29:hA K "_law_seeds" f29) (l29:hL K "_law_seeds" Z9j f29 oc29 od29 kV29 dc29 pm29 an29 cd29 ct29 sl29) (c29:hC K cd29 "_law_seeds") (k29:hP K f29)
  (a30:hA K "_law_free" f30) (l30:hL K "_law_free" Zc6 f30 oc30 od30 kV30 dc30 pm30 an30 cd30 ct30 sl30) (c30:hC K cd30 "_law_free") (k30:hP K f30)
  (a31:hA K "_law_relet" f31) (l31:hL K "_law_relet" Z5m f31 oc31 od31 kV31 dc31 pm31 an31 cd31 ct31 sl31) (c31:hC K cd31 "_law_relet") (k31:hP K f31)
  (a32:hA K "_law_bared" f32) (l32:hL K "_law_bared" Z7n f32 oc32 od32 kV32 dc32 pm32 an32 cd32 ct32 sl32) (c32:hC K cd32 "_law_bared") (k32:hP K f32)
  (a33:hA K "_law_all" f33) (l33:hL K "_law_all" Zjj f33 oc33 od33 kV33 dc33 pm33 an33 cd33 ct33 sl33) (c33:hC K cd33 "_law_all") (k33:hP K f33)
  (a34:hA K "_law_changed" f34) (l34:hL K "_law_changed" Z3z f34 oc34 od34 kV34 dc34 pm34 an34 cd34 ct34 sl34) (c34:hC K cd34 "_law_changed") (k34:hP K f34)
  (a35:hA K "_law_drawn" f35) (l35:hL K "_law_drawn" Z6h f35 oc35 od35 kV35 dc35 pm35 an35 cd35 ct35 sl35) (c35:hC K cd35 "_law_drawn") (k35:hP K f35)
  (a36:hA K "law" f36) (l36:hL K "law" Zg3 f36 oc36 od36 kV36 dc36 pm36 an36 cd36 ct36 sl36) (c36:hC K cd36 "law") (k36:hP K f36)
  (q_isinstance:hZ K "isinstance")
  (q_int:hZ K "int")
  (q_bool:hZ K "bool")
  (q_tuple:hZ K "tuple")
  (q_len:hZ K "len")
  (q_list:hZ K "list")
  (q_range:hZ K "range")
  (q_sum:hZ K "sum")
  (q_all:hZ K "all")
  (q_dict:hZ K "dict")
  (q_repr:hZ K "repr")
  (q_enumerate:hZ K "enumerate")
  (q_max:hZ K "max")
  (q_reversed:hZ K "reversed")
  (gN:PySem.W.nsIn K mainGlobals "NODE"=some (some (.str "node" tkN)))
  (gO:PySem.W.nsIn K mainGlobals "OPENED"=some (some (.str "opened" tkO)))
  (gC:PySem.W.nsIn K mainGlobals "CLOSED"=some (some (.str "closed" tkC)))
  (kt_NoneType_int:hI K "NoneType" "int" false)
  (kt_bool_int:hI K "bool" "int" true)
  (kt_int_int:hI K "int" "int" true)
  (kt_str_int:hI K "str" "int" false)
  (kt_tuple_int:hI K "tuple" "int" false)
  (kt_list_int:hI K "list" "int" false)
  (kt_NoneType_bool:hI K "NoneType" "bool" false)
  (kt_bool_bool:hI K "bool" "bool" true)
  (kt_int_bool:hI K "int" "bool" false)
  (kt_str_bool:hI K "str" "bool" false)
  (kt_tuple_bool:hI K "tuple" "bool" false)
  (kt_list_bool:hI K "list" "bool" false)
  (kt_NoneType_tuple:hI K "NoneType" "tuple" false)
  (kt_bool_tuple:hI K "bool" "tuple" false)
  (kt_int_tuple:hI K "int" "tuple" false)
  (kt_str_tuple:hI K "str" "tuple" false)
  (kt_tuple_tuple:hI K "tuple" "tuple" true)
  (kt_list_tuple:hI K "list" "tuple" false):
  ∃fd:FuncData,(∀(s:Shared) (v:Value),BindsTo s fd ⟨[v],[]⟩ [("_law_script",v)])/\∀base:Heap,K.In base->base.Ns mainGlobals mg->FnOk l.prog w K mg base CX0 35 fa fd ["_law_script"] (Zh3 K):=by
 have e:=hfa.symm.trans (PySem.W.mg_of X G a36)
 cases e
 have F0:=Z10 (st:=Za6) l0 c0 k0
 have b0:=F0.binds (ps:=["node"]) fun _ _ _ _ _ _=>Z26 fun _=>rfl
 have m0:=PySem.W.mg_of X G a0
 have F1:=Z10 (st:=Z6d) l1 c1 k1
 have b1:=F1.binds (ps:=["e"]) fun _ _ _ _ _ _=>Z26 fun _=>rfl
 have m1:=PySem.W.mg_of X G a1
 have F2:=Z10 (st:=Z7l) l2 c2 k2
 have b2:=F2.binds (ps:=["tree"]) fun _ _ _ _ _ _=>Z26 fun _=>rfl
 have m2:=PySem.W.mg_of X G a2
 have F3:=Z10 (st:=Z9e) l3 c3 k3
 have b3:=F3.binds (ps:=["rows"]) fun _ _ _ _ _ _=>Z26 fun _=>rfl
 have m3:=PySem.W.mg_of X G a3
 have F4:=Z10 (st:=Z39) l4 c4 k4
 have b4:=F4.binds (ps:=["node","lets","level"]) fun _ _ _ _ _ _=>Z3u fun _ _ _=>rfl
 have m4:=PySem.W.mg_of X G a4
 have F5:=Z10 (st:=Z9f) l5 c5 k5
 have b5:=F5.binds (ps:=["e"]) fun _ _ _ _ _ _=>Z26 fun _=>rfl
 have m5:=PySem.W.mg_of X G a5
 have F6:=Z10 (st:=Z3p) l6 c6 k6
 have b6:=F6.binds (ps:=["node","own"]) fun _ _ _ _ _ _=>Z2e fun _ _=>rfl
 have m6:=PySem.W.mg_of X G a6
 have F7:=Z10 (st:=Z3a) l7 c7 k7
 have b7:=F7.binds (ps:=["e"]) fun _ _ _ _ _ _=>Z26 fun _=>rfl
 have m7:=PySem.W.mg_of X G a7
 have F8:=Z10 (st:=Zdt) l8 c8 k8
 have b8:=F8.binds (ps:=["e"]) fun _ _ _ _ _ _=>Z26 fun _=>rfl
 have m8:=PySem.W.mg_of X G a8
 have F9:=Z10 (st:=Z9g) l9 c9 k9
 have b9:=F9.binds (ps:=["one","other"]) fun _ _ _ _ _ _=>Z2e fun _ _=>rfl
 have m9:=PySem.W.mg_of X G a9
 have F10:=Z10 (st:=Zdu) l10 c10 k10
 have b10:=F10.binds (ps:=["_law_script"]) fun _ _ _ _ _ _=>Z26 fun _=>rfl
 have m10:=PySem.W.mg_of X G a10
 have F11:=Z10 (st:=Zdv) l11 c11 k11
 have b11:=F11.binds (ps:=["_law_feed_here","_law_many"]) fun _ _ _ _ _ _=>Z2e fun _ _=>rfl
 have m11:=PySem.W.mg_of X G a11
 have F12:=Z10 (st:=Z3b) l12 c12 k12
 have b12:=F12.binds (ps:=["_law_feed_here"]) fun _ _ _ _ _ _=>Z26 fun _=>rfl
 have m12:=PySem.W.mg_of X G a12
 have F13:=Z10 (st:=Z4v) l13 c13 k13
 have b13:=F13.binds (ps:=["_law_number","_law_long"]) fun _ _ _ _ _ _=>Z2e fun _ _=>rfl
 have m13:=PySem.W.mg_of X G a13
 have F14:=Z10 (st:=Z2j) l14 c14 k14
 have b14:=F14.binds (ps:=["_law_feed_here","_law_taken"]) fun _ _ _ _ _ _=>Z2e fun _ _=>rfl
 have m14:=PySem.W.mg_of X G a14
 have F15:=Z10 (st:=Z9h) l15 c15 k15
 have b15:=F15.binds (ps:=["_law_feed_here","_law_many"]) fun _ _ _ _ _ _=>Z2e fun _ _=>rfl
 have m15:=PySem.W.mg_of X G a15
 have F16:=Z10 (st:=Z25) l16 c16 k16
 have b16:=F16.binds (ps:=["_law_e"]) fun _ _ _ _ _ _=>Z26 fun _=>rfl
 have m16:=PySem.W.mg_of X G a16
 have F17:=Z10 (st:=Zc5) l17 c17 k17
 have b17:=F17.binds (ps:=["_law_e","_law_inner"]) fun _ _ _ _ _ _=>Z2e fun _ _=>rfl
 have m17:=PySem.W.mg_of X G a17
 have F18:=Z10 (st:=Z6e) l18 c18 k18
 have b18:=F18.binds (ps:=["_law_e"]) fun _ _ _ _ _ _=>Z26 fun _=>rfl
 have m18:=PySem.W.mg_of X G a18
 have F19:=Z10 (st:=Z3y) l19 c19 k19
 have b19:=F19.binds (ps:=["_law_e","_law_works"]) fun _ _ _ _ _ _=>Z2e fun _ _=>rfl
 have m19:=PySem.W.mg_of X G a19
 have F20:=Z10 (st:=Z7m) l20 c20 k20
 have b20:=F20.binds (ps:=["_law_e","_law_bound_here"]) fun _ _ _ _ _ _=>Z2e fun _ _=>rfl
 have m20:=PySem.W.mg_of X G a20
 have F21:=Z10 (st:=Zdw) l21 c21 k21
 have b21:=F21.binds (ps:=["_law_feed_here","_law_world_here","_law_bound_here"]) fun _ _ _ _ _ _=>Z3u fun _ _ _=>rfl
 have m21:=PySem.W.mg_of X G a21
 have F22:=Z10 (st:=Z58) l22 c22 k22
 have b22:=F22.binds (ps:=["_law_e","_law_names_here","_law_others"]) fun _ _ _ _ _ _=>Z3u fun _ _ _=>rfl
 have m22:=PySem.W.mg_of X G a22
 have F23:=Z10 (st:=Z6f) l23 c23 k23
 have b23:=F23.binds (ps:=["_law_e","_law_at","_law_leaf_here"]) fun _ _ _ _ _ _=>Z3u fun _ _ _=>rfl
 have m23:=PySem.W.mg_of X G a23
 have F24:=Z10 (st:=Z4g) l24 c24 k24
 have b24:=F24.binds (ps:=["_law_feed_here","_law_world_here","_law_bound_here","_law_below","_law_times"]) fun _ _ _ _ _ _=>Z8n fun _ _ _ _ _=>rfl
 have m24:=PySem.W.mg_of X G a24
 have F25:=Z10 (st:=Z6g) l25 c25 k25
 have b25:=F25.binds (ps:=["_law_feed_here","_law_world_here","_law_bound_here","_law_below","_law_times","_law_kind"]) fun _ _ _ _ _ _=>Zfa fun _ _ _ _ _ _=>rfl
 have m25:=PySem.W.mg_of X G a25
 have F26:=Z10 (st:=Z4h) l26 c26 k26
 have b26:=F26.binds (ps:=["_law_feed_here","_law_world_here","_law_bound_here","_law_below","_law_times"]) fun _ _ _ _ _ _=>Z8n fun _ _ _ _ _=>rfl
 have m26:=PySem.W.mg_of X G a26
 have F27:=Z10 (st:=Z88) l27 c27 k27
 have b27:=F27.binds (ps:=["_law_feed_here","_law_world_here","_law_bound_here","_law_below","_law_times"]) fun _ _ _ _ _ _=>Z8n fun _ _ _ _ _=>rfl
 have m27:=PySem.W.mg_of X G a27
 have F28:=Z10 (st:=Z9i) l28 c28 k28
 have b28:=F28.binds (ps:=["_law_names_here","_law_lets","_law_functions","_law_works","_law_room","_law_toil"]) fun _ _ _ _ _ _=>Zfa fun _ _ _ _ _ _=>rfl
 have m28:=PySem.W.mg_of X G a28
 have F29:=Z10 (st:=Z9j) l29 c29 k29
 have b29:=F29.binds (ps:=["_law_feed_here","_law_world_here","_law_many"]) fun _ _ _ _ _ _=>Z3u fun _ _ _=>rfl
 have m29:=PySem.W.mg_of X G a29
 have F30:=Z10 (st:=Zc6) l30 c30 k30
 have b30:=F30.binds (ps:=["_law_e","_law_bound_here"]) fun _ _ _ _ _ _=>Z2e fun _ _=>rfl
 have m30:=PySem.W.mg_of X G a30
 have F31:=Z10 (st:=Z5m) l31 c31 k31
 have b31:=F31.binds (ps:=["_law_feed_here","_law_e","_law_held","_law_pool"]) fun _ _ _ _ _ _=>Zf9 fun _ _ _ _=>rfl
 have m31:=PySem.W.mg_of X G a31
 have F32:=Z10 (st:=Z7n) l32 c32 k32
 have b32:=F32.binds (ps:=["_law_e","_law_level","_law_levels"]) fun _ _ _ _ _ _=>Z3u fun _ _ _=>rfl
 have m32:=PySem.W.mg_of X G a32
 have F33:=Z10 (st:=Zjj) l33 c33 k33
 have b33:=F33.binds (ps:=["_law_e"]) fun _ _ _ _ _ _=>Z26 fun _=>rfl
 have m33:=PySem.W.mg_of X G a33
 have F34:=Z10 (st:=Z3z) l34 c34 k34
 have b34:=F34.binds (ps:=["_law_feed_here","_law_e","_law_calls"]) fun _ _ _ _ _ _=>Z3u fun _ _ _=>rfl
 have m34:=PySem.W.mg_of X G a34
 have F35:=Z10 (st:=Z6h) l35 c35 k35
 have b35:=F35.binds (ps:=["_law_feed_here","_law_turn"]) fun _ _ _ _ _ _=>Z2e fun _ _=>rfl
 have m35:=PySem.W.mg_of X G a35
 have F36:=Z10 (st:=Zg3) l36 c36 k36
 have z_isinstance:=PySem.W.mg_none_of X G q_isinstance
 have z_int:=PySem.W.mg_none_of X G q_int
 have z_bool:=PySem.W.mg_none_of X G q_bool
 have z_tuple:=PySem.W.mg_none_of X G q_tuple
 have z_len:=PySem.W.mg_none_of X G q_len
 have z_list:=PySem.W.mg_none_of X G q_list
 have z_range:=PySem.W.mg_none_of X G q_range
 have z_sum:=PySem.W.mg_none_of X G q_sum
 have z_all:=PySem.W.mg_none_of X G q_all
 have z_dict:=PySem.W.mg_none_of X G q_dict
 have z_repr:=PySem.W.mg_none_of X G q_repr
 have z_enumerate:=PySem.W.mg_none_of X G q_enumerate
 have z_max:=PySem.W.mg_none_of X G q_max
 have z_reversed:=PySem.W.mg_none_of X G q_reversed
 have T0:Txt0 mg:=⟨z_len,z_list,z_range⟩
 have T:TxtT mg:=⟨z_isinstance,z_int,z_bool,z_tuple,z_len⟩
 have KI:Kits K:=Zjh kt_NoneType_int kt_bool_int kt_int_int kt_str_int kt_tuple_int kt_list_int kt_NoneType_bool kt_bool_bool kt_int_bool kt_str_bool kt_tuple_bool kt_list_bool kt_NoneType_tuple kt_bool_tuple kt_int_tuple kt_str_tuple kt_tuple_tuple kt_list_tuple
 have TD:TxtD mg:=⟨⟨_,PySem.W.mg_of X G gN⟩,⟨_,PySem.W.mg_of X G gO⟩,⟨_,PySem.W.mg_of X G gC⟩⟩
 have U:Helpers K mg f11 f13 _ _:=⟨T0,F11,b11,m11,F13,b13,m13⟩
 have HWW:HW K mg f16 f17 _ _:=⟨T,KI,F16,b16,m16,F17,b17,m17⟩
 have HOO:HOw K mg f1 f2 f4 _ _ _:=⟨T,TD,KI,F1,b1,m1,F2,b2,m2,F4,b4,m4⟩
 have BB:Brp K mg ⟨f1,f2,f4,f5,f0,f6,f7,f3,_,_,_,_,_,_,_,_⟩:=⟨HOO,⟨F5,b5,m5⟩,⟨F0,b0,m0⟩,⟨F6,b6,m6⟩,⟨F7,b7,m7⟩,⟨F3,b3,m3⟩,z_reversed⟩
 have GG:Gen K mg ⟨f11,f13,f12,f21,f16,f17,f18,f19,f20,f22,f23,_,_,_,_,_,_,_,_,_,_,_⟩:=⟨U,HWW,⟨F12,b12,m12⟩,⟨F21,b21,m21⟩,⟨F18,b18,m18⟩,⟨F19,b19,m19⟩,⟨F20,b20,m20⟩,⟨F22,b22,m22⟩,⟨F23,b23,m23⟩,z_sum,z_all⟩
 have EE:Exp K mg ⟨_,f27,f25,f26,f24,_,_,_,_⟩:=⟨GG,⟨F27,b27,m27⟩,⟨F25,b25,m25⟩,⟨F26,b26,m26⟩,⟨F24,b24,m24⟩,z_dict⟩
 have DD:Dr K mg ⟨_,f15,f14,f28,f29,_,_,_,_⟩:=⟨EE,⟨F15,b15,m15⟩,⟨F14,b14,m14⟩,⟨F28,b28,m28⟩,⟨F29,b29,m29⟩⟩
 have LL:Lw K mg ⟨_,_,f10,f35,f32,f31,f30,f34,f33,f8,f9,_,_,_,_,_,_,_,_,_⟩:=⟨DD,BB,⟨F10,b10,m10⟩,⟨F35,b35,m35⟩,⟨F32,b32,m32⟩,⟨F31,b31,m31⟩,⟨F30,b30,m30⟩,⟨F34,b34,m34⟩,⟨F33,b33,m33⟩,⟨F8,b8,m8⟩,⟨F9,b9,m9⟩,z_max,z_repr,z_list,z_enumerate⟩
 refine⟨PySem.W.fnOf "law" "law" (Z0r Zg3) (Z0p Zg3) (Z06 Zg3) .none kV36 dc36 pm36 an36 cd36 ct36,fun s v=>.of_eq rfl,fun base _ _=>?_⟩
 exact Zlf F36 LL
theorem walk {l:PySem.W.OpenLaw}{q:Program}{loose:List Str}{XP:(Str->Option Value)->Heap->Prop}{YP:World->Heap->Prop}{d:DefRec}{K:Params->PySem.W.Frag}(hn:l.most=some 63)(hdf:d.params.defaults = [])
  (hY:∀(w:World) (h:Heap),YP w h->(K w.params).In h)
  (F:∀(w:World) (mg:Str->Option Value) (fa:Addr) (h:Heap),(K w.params).In h->h.Ns mainGlobals mg->mg d.name=some (.ref fa) →
   ∃fd:FuncData,(∀(s:Shared) (u:Value),BindsTo s fd ⟨[u],[]⟩ [("_law_script",u)])/\∀base:Heap,(K w.params).In base->base.Ns mainGlobals mg->FnOk l.prog w (K w.params) mg base CX0 35 fa fd ["_law_script"] (Zh3 (K w.params))):
  PySem.W.WalkO q loose XP YP l.row.toRowW d [] (fun f vs=>PySem.call f vs):=
 L2.walk_of (n:=63) (k:=35) (x:="_law_script") (CX:=fun _=>CX0) (sp:=fun w=>Zh3 (K w.params)) hn (by decide) hdf ⟨rfl,rfl,by decide,by decide⟩ hY F (fun _ _ a ns hl _ hS=>⟨a,ns,rfl,hS,hl,fun _=>rfl⟩) fun _ _ _ _ _ z=>z
end K10
open PySem PySem.W PyProof.Rows
set_option maxRecDepth 100000 in
set_option maxHeartbeats 0 in
theorem PySem.Challenge.cw_likepieces_k10_bare_of_expressions_holds : PySem.Challenge.rw_likepieces_k10_bare_of_expressions.Holds := by
 w_on
 refine holds_law K10.hdS fun sd=>?_
 refine holds_open (q:=K10.hdQ) (loose:=K10.hdL) (Yf:=K10.hdH.obs) (Ya:=K10.hdH.val)
  (XP:=XL K10.hdQ []) (YP:=InK K10.hdK) (N:=K10.hdN) K10.hdT K10.hdH.of
  K10.hdH.keeps (fun s e=>xl_of s (Bool.and_eq_true_iff.mp e).1) XL.keeps (by rfl) (by rfl)
  (by rfl) (fun s e=>recFacts_of (Bool.and_eq_true_iff.mp e).2) (by rfl) sd (by decide+kernel)
  ⟨rfl,rfl,rfl,rfl,rfl,by decide+kernel⟩ ?hw ?hc
 (case hw=>w_witness2)
 k_fill
 refine K10.walk (l:=PySem.Challenge.rw_likepieces_k10_bare_of_expressions) rfl rfl (K:=K10.hdK) (fun w h Y=>Y) ?F
 case F=>
  intro w mg fa h KX G hmg
  refine' K10.all_mk KX G hmg ?a0 ?l0 ?c0 ?k0 ?a1 ?l1 ?c1 ?k1 ?a2 ?l2 ?c2 ?k2 ?a3 ?l3 ?c3 ?k3 ?a4 ?l4 ?c4 ?k4 ?a5 ?l5 ?c5 ?k5 ?a6 ?l6 ?c6 ?k6 ?a7 ?l7 ?c7 ?k7 ?a8 ?l8 ?c8 ?k8 ?a9 ?l9 ?c9 ?k9 ?a10 ?l10 ?c10 ?k10 ?a11 ?l11 ?c11 ?k11 ?a12 ?l12 ?c12 ?k12 ?a13 ?l13 ?c13 ?k13 ?a14 ?l14 ?c14 ?k14 ?a15 ?l15 ?c15 ?k15 ?a16 ?l16 ?c16 ?k16 ?a17 ?l17 ?c17 ?k17 ?a18 ?l18 ?c18 ?k18 ?a19 ?l19 ?c19 ?k19 ?a20 ?l20 ?c20 ?k20 ?a21 ?l21 ?c21 ?k21 ?a22 ?l22 ?c22 ?k22 ?a23 ?l23 ?c23 ?k23 ?a24 ?l24 ?c24 ?k24 ?a25 ?l25 ?c25 ?k25 ?a26 ?l26 ?c26 ?k26 ?a27 ?l27 ?c27 ?k27 ?a28 ?l28 ?c28 ?k28 ?a29 ?l29 ?c29 ?k29 ?a30 ?l30 ?c30 ?k30 ?a31 ?l31 ?c31 ?k31 ?a32 ?l32 ?c32 ?k32 ?a33 ?l33 ?c33 ?k33 ?a34 ?l34 ?c34 ?k34 ?a35 ?l35 ?c35 ?k35 ?a36 ?l36 ?c36 ?k36 ?q_isinstance ?q_int ?q_bool ?q_tuple ?q_len ?q_list ?q_range ?q_sum ?q_all ?q_dict ?q_repr ?q_enumerate ?q_max ?q_reversed ?gN ?gO ?gC ?kt_NoneType_int ?kt_bool_int ?kt_int_int ?kt_str_int ?kt_tuple_int ?kt_list_int ?kt_NoneType_bool ?kt_bool_bool ?kt_int_bool ?kt_str_bool ?kt_tuple_bool ?kt_list_bool ?kt_NoneType_tuple ?kt_bool_tuple ?kt_int_tuple ?kt_str_tuple ?kt_tuple_tuple ?kt_list_tuple
  all_goals first|unfold K10.hA|unfold K10.hL|unfold K10.hC|unfold K10.hP|unfold K10.hZ|unfold K10.hI|skip
  (case a0|l0|c0|k0|a1|l1|c1|k1|a2|l2|c2|k2|a3|l3|c3|k3|a4|l4|c4|k4|a5|l5|c5|k5|a6|l6|c6|k6|a7|l7|c7|k7|a8|l8|c8|k8|a9|l9|c9|k9|a10|l10|c10|k10|a11|l11|c11|k11|a12|l12|c12|k12|a13|l13|c13|k13|a14|l14|c14|k14|a15|l15|c15|k15|a16|l16|c16|k16|a17|l17|c17|k17|a18|l18|c18|k18|a19|l19|c19|k19|a20|l20|c20|k20|a21|l21|c21|k21|a22|l22|c22|k22|a23|l23|c23|k23|a24|l24|c24|k24|a25|l25|c25|k25|a26|l26|c26|k26|a27|l27|c27|k27|a28|l28|c28|k28|a29|l29|c29|k29|a30|l30|c30|k30|a31|l31|c31|k31|a32|l32|c32|k32|a33|l33|c33|k33|a34|l34|c34|k34|a35|l35|c35|k35|a36|l36|c36|k36|q_isinstance|q_int|q_bool|q_tuple|q_len|q_list|q_range|q_sum|q_all|q_dict|q_repr|q_enumerate|q_max|q_reversed|gN|gO|gC=>k_is)
  (case kt_NoneType_int|kt_bool_int|kt_int_int|kt_str_int|kt_tuple_int|kt_list_int|kt_NoneType_bool|kt_bool_bool|kt_int_bool|kt_str_bool|kt_tuple_bool|kt_list_bool|kt_NoneType_tuple|kt_bool_tuple|kt_int_tuple|kt_str_tuple|kt_tuple_tuple|kt_list_tuple=>first|k_is|rfl|decide)
